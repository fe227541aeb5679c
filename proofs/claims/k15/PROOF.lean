import PyProof.Rows.All
import Wide.All
import OpenK.AllK
import Wide.FinOn
import PyProof.EqAt
import PyProof.EqKinds
import PyProof.TupleCall
import PyProof.AttrMiss
import PyProof.IsiH_list
import PyProof.Rows.SetFrom
import KE.KDictOf
import KE.KTab
import PyProof.AutoListH
import KE.KSortTup
import KE.KItemsList
import KE.KEqDict
import KE.KIntText
import Lean
import PyProof.RulesRaise
import PyProof.RulesTry
import KE.KTryDeep
import KE.KTryMore
import KE.KTryOn
import KE.TryInHelper
import KE.TryLedger
import PyProof.ExcArgsOwn
import PyProof.ExcAttrAll.ValueError
import KE.KIsAll
import PyProof.ExcBaseAll.ValueError
import PyProof.InstStoreFacts
import PyProof.ExcInit
import PyProof.SeqI3
import PySem.Challenge.RW_callboard_k15_breaks
set_option Elab.async false
set_option linter.all false
set_option maxRecDepth 100000
set_option maxHeartbeats 4000000
namespace L2
open PySem PySem.Spec PyProof.Rows
abbrev Key:=Sum Int Str
def mE:Key→Value→Bool
 | .inl k,v=>Value.isInt k v
 | .inr x,v=>Value.isStrOf x v
def C6 (w:World):Key→Int
 | .inl k=>hashInt k
 | .inr x=>hashStr w x
theorem bB:∀ {k:Key} {v:Value},mE k v=true→(∃ i t,k=Sum.inl i∧v=Value.int i t)∨(∃ x t,k=Sum.inr x∧v=Value.str x t)
 | .inl i,v,h=>by
  obtain ⟨t,e⟩:=Value.isInt_shape (k:=i) (v:=v) h
  exact .inl ⟨i,t,rfl,e⟩
 | .inr x,v,h=>by
  obtain ⟨t,e⟩:=Value.isStrOf_shape (x:=x) (v:=v) h
  exact .inr ⟨x,t,rfl,e⟩
theorem uU (i:Int) (t:Tok):mE (.inl i) (.int i t)=true:=by simp [mE,Value.isInt]
theorem uK (x:Str) (t:Tok):mE (.inr x) (.str x t)=true:=by simp [mE,Value.isStrOf]
theorem AC (a b:Int):decide ((Sum.inl a:Key)=Sum.inl b)=(a == b):=by
 by_cases e:a=b
 ·subst e; simp
 ·have h:¬ (Sum.inl a:Key)=Sum.inl b:=fun q=>e (Sum.inl.inj q)
  rw [decide_eq_false h]
  exact (beq_eq_false_iff_ne.mpr e).symm
theorem A7 (a b:Str):decide ((Sum.inr a:Key)=Sum.inr b)=decide (a=b):=by
 by_cases e:a=b
 ·subst e; simp
 ·have h:¬ (Sum.inr a:Key)=Sum.inr b:=fun q=>e (Sum.inr.inj q)
  rw [decide_eq_false h,decide_eq_false e]
theorem Bm (a:Int) (b:Str):decide ((Sum.inl a:Key)=Sum.inr b)=false:=decide_eq_false (fun q=>nomatch q)
theorem Bw (a:Str) (b:Int):decide ((Sum.inr a:Key)=Sum.inl b)=false:=decide_eq_false (fun q=>nomatch q)
def bu (prog:Program) (w:World):PySem.KeyKind prog w Key where
 is:=mE
 hash:=C6 w
 inj:=fun v a b ha hb=>by
  rcases bB ha with ⟨i,t,rfl,rfl⟩ | ⟨x,t,rfl,rfl⟩
  ·rcases bB hb with ⟨j,u,rfl,e⟩ | ⟨y,u,rfl,e⟩
   ·injection e with e1 _; rw [e1]
   ·exact nomatch e
  ·rcases bB hb with ⟨j,u,rfl,e⟩ | ⟨y,u,rfl,e⟩
   ·exact nomatch e
   ·injection e with e1 _; rw [e1]
 byValue:=fun k v h=>by
  rcases bB h with ⟨i,t,rfl,rfl⟩ | ⟨x,t,rfl,rfl⟩ <;> rfl
 pyHash:=fun hv h=>by
  rcases bB hv with ⟨i,t,rfl,rfl⟩ | ⟨x,t,rfl,rfl⟩
  ·exact wpAny_pyHash_int h
  ·exact wpAny_pyHash_str h
 eqBool:=fun hu hv h=>by
  rcases bB hu with ⟨i,t,rfl,rfl⟩ | ⟨x,t,rfl,rfl⟩
  ·rcases bB hv with ⟨j,u,rfl,rfl⟩ | ⟨y,u,rfl,rfl⟩
   ·rw [AC] at h; exact wpAny_eqBool_int h
   ·rw [Bm] at h; exact SeqAt.EqAt.int_str i t y u _ _ _ _ h
  ·rcases bB hv with ⟨j,u,rfl,rfl⟩ | ⟨y,u,rfl,rfl⟩
   ·rw [Bw] at h; exact SeqAt.EqAt.str_int x t j u _ _ _ _ h
   ·rw [A7] at h; exact wpAny_eqBool_str h
 «strs»:=fun k x t v h=>by
  rcases bB h with ⟨i,u,rfl,e⟩ | ⟨y,u,rfl,e⟩
  ·exact nomatch e
  ·injection e with e1 _
   subst e1
   cases v <;> rfl
theorem qo (prog:Program) (w:World) (i:Int) (t:Tok):(bu prog w).is (.inl i) (.int i t)=true:=uU i t
theorem j3 (prog:Program) (w:World) (x:Str) (t:Tok):(bu prog w).is (.inr x) (.str x t)=true:=uK x t
end L2
namespace L2
open PySem PySem.Spec PyProof.Rows
inductive V where
 | non | bl (b:Bool) | int (i:Int) | str (x:Str) | byt (b:Array UInt8) | flt (b:UInt64) | ref (a:Addr) | ty (n:String)
 deriving DecidableEq
def bf:V→Value→Prop
 | .non,u=>u=Value.none
 | .bl b,u=>u=Value.bool b
 | .int i,u=>∃ t,u=Value.int i t
 | .str x,u=>∃ t,u=Value.str x t
 | .byt b,u=>∃ t,u=Value.bytes b t
 | .flt b,u=>∃ t,u=Value.float b t
 | .ref a,u=>u=Value.ref a
 | .ty n,u=>u=Value.type n
abbrev aU:List V→List Value→Prop:=Paired bf
theorem aU.length {xs:List V} {us:List Value} (r:aU xs us):xs.length=us.length:=Paired.length r
theorem aU.get:∀ {xs:List V} {us:List Value} {i:Nat} {x:V},aU xs us→xs[i]?=some x→∃ u,us[i]?=some u∧bf x u
 | _,_,_,_,.nil,e=>by simp at e
 | _,_,0,_,.cons r _,e=>by simp at e; subst e; exact ⟨_,rfl,r⟩
 | _,_,i + 1,x,.cons _ t,e=>by
  obtain ⟨u,h1,h2⟩:=aU.get (i:=i) (x:=x) t (by simpa using e)
  exact ⟨u,by simpa using h1,h2⟩
theorem aU.set {x:V} {u:Value} (r:bf x u):∀ {xs:List V} {us:List Value} (i:Nat),aU xs us→aU (xs.set i x) (us.set i u)
 | _,_,_,.nil=>.nil
 | _,_,0,.cons _ t=>.cons r t
 | _,_,i + 1,.cons q t=>.cons q (aU.set r i t)
theorem aU.append:∀ {xs ys:List V} {us ws:List Value},aU xs us→aU ys ws→aU (xs ++ ys) (us ++ ws)
 | _,_,_,_,.nil,s=>s
 | _,_,_,_,.cons r t,s=>.cons r (aU.append t s)
theorem aU.take:∀ {xs:List V} {us:List Value} (n:Nat),aU xs us→aU (xs.take n) (us.take n)
 | _,_,0,_=>.nil
 | _,_,_ + 1,.nil=>.nil
 | _,_,n + 1,.cons r t=>.cons r (aU.take n t)
theorem aU.drop:∀ {xs:List V} {us:List Value} (n:Nat),aU xs us→aU (xs.drop n) (us.drop n)
 | _,_,0,r=>r
 | _,_,_ + 1,.nil=>.nil
 | _,_,n + 1,.cons _ t=>aU.drop n t
def h9:Option V→Option Value→Prop
 | some v,some u=>bf v u
 | none,none=>True
 | _,_=>False
def KV {κ:Type}:List (κ × V)→List (κ × Value)→Prop:=Paired fun (p:κ × V) (q:κ × Value)=>p.1=q.1∧bf p.2 q.2
def kV:Key→V
 | .inl i=>.int i
 | .inr x=>.str x
inductive HO where
 | lst (xs:List V)
 | tup (xs:List V)
 | dK (kvs:List (Key × V)) | dT (kvs:List (List Key × V))
 | set (S:Int→Bool) (n:Nat)
 | ins (C dx:Addr) (fs:List (Str × V))
 | own (x:Addr)
 | xd (fs:List (Str × V))
 | met (f x:Addr)
 | rng (lo hi:Int)
 | frz (o:Obj) (u:HO)
 | tbl (ps:Array Value)
 | ext (φ:Heap→Prop)
abbrev Hp:=Addr→Option HO
def upd (H:Hp) (a:Addr) (o:HO):Hp:=fun b=>if b=a then some o else H b
theorem aN {H:Hp} {a:Addr} {o:HO}:upd H a o a=some o:=by unfold upd; rw [if_pos rfl]
theorem aK {H:Hp} {a b:Addr} {o:HO} (h:b ≠ a):upd H a o b=H b:=by unfold upd; rw [if_neg h]
theorem zG {H:Hp} {a:Addr} {o u:HO}:upd (upd H a o) a u=upd H a u:=by
 funext b; unfold upd; split <;> rfl
theorem BW {H:Hp} {a b:Addr} {o u:HO} (h:H a=some o) (h':H b=some u) (d:o ≠ u):a ≠ b:=by
 intro e; subst e; rw [h] at h'; exact d (Option.some.inj h')
theorem bh {H:Hp} {a b:Addr} {o:HO} (h:H a=some o) (h':H b=none):a ≠ b:=by
 intro e; subst e; rw [h] at h'; cases h'
section
variable (P:Program) (w:World)
def mU (h:Heap) (a:Addr) (its:Array Value):Prop:=∃ o,h.get? a=some o∧o.cls=.type "tuple"∧(∃ n,o.data=.seq its n)∧o.dict=none
def bG (H:Hp) (h:Heap) (a:Addr):HO→Prop
 | .lst xs=>xs.length≤sizeLine∧∃ (its:List Value) (n:Nat),aU xs its∧h.get? a=some { cls:=.type "list",data:=.seq its.toArray n }
 | .tup xs=>xs.length≤sizeLine∧∃ its:List Value,aU xs its∧mU h a its.toArray
 | .dK kvs=>kvs.length≤sizeLine∧(a == sysModules)=false∧∃ vs,KV kvs vs∧h.DictOf (bu P w) a vs
 | .dT kvs=>kvs.length≤sizeLine∧(a == sysModules)=false∧∃ xs:List (List Key × Addr × Value),
   Paired (fun (p:List Key × V) (q:List Key × Addr × Value)=>p.1=q.1∧H q.2.1=some (.tup (p.1.map kV))∧bf p.2 q.2.2) kvs xs ∧
   ∃ o es ep,h.get? a=some o∧o.ExactDict∧o.data=.dict es ep∧es.toList=xs.map (entryOfKey (tupleKind (bu P w)))∧(xs.map (·.1)).Nodup
 | .set S n=>h.SetOf (intKind P w) a S n
 | .ins C dx fs=>H dx=some (.own a)∧fs.length≤1000∧dx ≠ a∧h.get? a=some (PySem.W.instObj C dx) ∧
   ∃ mA,h.Ns1 dx mA∧(∀ f,h9 (fs.lookup f) (mA f))∧PySem.Within mA (fs.map (·.1))
 | .own _=>∃ o,h.get? a=some o
 | .xd fs=>∃ mA,h.Ns1 a mA∧∀ f,h9 (fs.lookup f) (mA f)
 | .rng lo hi=>∃ t u v,h.get? a=some { cls:=.type "range",data:=.fields #[.int lo t,.int hi u,.int 1 v] }
 | .frz o u=>h.get? a=some o∧bG H h a u
 | .tbl ps=>h.get? a=some { cls:=.none,data:=.fields ps }
 | .met f x=>h.get? a=some (PySem.W.methodObj (.ref f) (.ref x))
 | .ext φ=>φ h∧(∃ o,h.get? a=some o)∧∀ h1 h2:Heap,φ h1→(∀ o,h1.get? a=some o→h2.get? a=some o)→φ h2
def HOk (H:Hp) (h:Heap):Prop:=∀ a o,H a=some o→bG P w H h a o
end
section
variable {P:Program} {w:World} {H H':Hp} {h h':Heap} {a:Addr} {o:HO}
theorem mU.is {its:Array Value} (x:mU h a its):IsTup h a its:=let ⟨o,e,c,d,_⟩:=x; ⟨o,e,c,d⟩
theorem mU.new (h:Heap) (items:Array Value):mU (h.push { cls:=.type "tuple",data:=.seq items }) h.objs.size items:=⟨_,Heap.get?_push_size _ rfl,rfl,⟨_,rfl⟩,rfl⟩
theorem bG.lt (x:bG P w H h a o):a < h.objs.size:=by
 cases o with
 | lst xs=>obtain ⟨_,_,_,_,e⟩:=x; exact Heap.lt_size e
 | tup xs=>obtain ⟨_,_,_,_,e,_⟩:=x; exact Heap.lt_size e
 | dK kvs=>obtain ⟨_,_,_,_,o,_,_,e,_⟩:=x; exact Heap.lt_size e
 | dT kvs=>obtain ⟨_,_,_,_,o,_,_,e,_⟩:=x; exact Heap.lt_size e
 | set S n=>obtain ⟨o,_,_,_,e,_⟩:=x; exact Heap.lt_size e
 | ins C dx fs=>obtain ⟨_,_,_,e,_⟩:=x; exact Heap.lt_size e
 | own y=>obtain ⟨_,e⟩:=x; exact Heap.lt_size e
 | xd fs=>obtain ⟨_,⟨_,_,_,e,_⟩,_⟩:=x; exact Heap.lt_size e
 | rng lo hi=>obtain ⟨_,_,_,e⟩:=x; exact Heap.lt_size e
 | frz ob u=>obtain ⟨e,_⟩:=x; exact Heap.lt_size e
 | tbl ps=>exact Heap.lt_size (show h.get? a=some _ from x)
 | met f y=>exact Heap.lt_size (show h.get? a=some _ from x)
 | ext φ=>obtain ⟨_,⟨_,e⟩,_⟩:=x; exact Heap.lt_size e
theorem Paired.mapP {α β:Type} {F G:α→β→Prop}:∀ {l₁:List α} {l₂:List β},Paired F l₁ l₂→(∀ a b,F a b→G a b)→Paired G l₁ l₂
 | _,_,.nil,_=>.nil
 | _,_,.cons r t,f=>.cons (f _ _ r) (Paired.mapP t f)
theorem bG.stay (x:bG P w H h a o) (k:∀ b u,(b=a∨H b=some (.own a))→h.get? b=some u→h'.get? b=some u)
  (ho:∀ b,H b=some (.own a)→H' b=some (.own a)) (ht:∀ b xs,H b=some (.tup xs)→H' b=some (.tup xs)):bG P w H' h' a o:=by
 induction o with
 | lst xs=>obtain ⟨z,its,n,r,e⟩:=x; exact ⟨z,its,n,r,k _ _ (.inl rfl) e⟩
 | tup xs=>obtain ⟨z,its,r,ob,e,c⟩:=x; exact ⟨z,its,r,ob,k _ _ (.inl rfl) e,c⟩
 | dK kvs=>obtain ⟨z,y,vs,r,ob,es,ep,e,c⟩:=x; exact ⟨z,y,vs,r,ob,es,ep,k _ _ (.inl rfl) e,c⟩
 | dT kvs =>
  obtain ⟨z,y,xs,r,ob,es,ep,e,c⟩:=x
  exact ⟨z,y,xs,Paired.mapP r fun p q z=>⟨z.1,ht _ _ z.2.1,z.2.2⟩,ob,es,ep,k _ _ (.inl rfl) e,c⟩
 | set S n=>obtain ⟨ob,es,ep,t,e,c⟩:=x; exact ⟨ob,es,ep,t,k _ _ (.inl rfl) e,c⟩
 | ins C dx fs =>
  obtain ⟨d,z,ne,e,mA,⟨od,es,ep,e2,c⟩,r⟩:=x
  exact ⟨ho _ d,z,ne,k _ _ (.inl rfl) e,mA,⟨od,es,ep,k _ _ (.inr d) e2,c⟩,r⟩
 | own y=>obtain ⟨ob,e⟩:=x; exact ⟨ob,k _ _ (.inl rfl) e⟩
 | xd fs=>obtain ⟨mA,⟨od,es,ep,e,c⟩,r⟩:=x; exact ⟨mA,⟨od,es,ep,k _ _ (.inl rfl) e,c⟩,r⟩
 | rng lo hi=>obtain ⟨t,u,v,e⟩:=x; exact ⟨t,u,v,k _ _ (.inl rfl) e⟩
 | frz ob u ih=>obtain ⟨e,q⟩:=x; exact ⟨k _ _ (.inl rfl) e,ih q⟩
 | tbl ps =>
  have e:h.get? a=some { cls:=.none,data:=.fields ps }:=x
  show h'.get? a=some { cls:=.none,data:=.fields ps }
  exact k a _ (.inl rfl) e
 | met f y =>
  have e:h.get? a=some (PySem.W.methodObj (.ref f) (.ref y)):=x
  show h'.get? a=some (PySem.W.methodObj (.ref f) (.ref y))
  exact k a _ (.inl rfl) e
 | ext φ=>obtain ⟨p,⟨o,e⟩,st⟩:=x; exact ⟨st _ _ p fun o q=>k _ _ (.inl rfl) q,⟨o,k _ _ (.inl rfl) e⟩,st⟩
theorem HOk.lt (x:HOk P w H h) (e:H a=some o):a < h.objs.size:=(x a o e).lt
theorem HOk.fresh (x:HOk P w H h) (e:h.objs.size≤a):H a=none:=by
 cases q:H a with
 | none=>rfl
 | some u=>exact absurd (Nat.lt_of_lt_of_le (x.lt q) e) (Nat.lt_irrefl _)
theorem HOk.kept (x:HOk P w H h) (k:∀ b u,h.get? b=some u→h'.get? b=some u):HOk P w H h':=fun a o e =>
 (x a o e).stay (fun b u _ q=>k b u q) (fun _ q=>q) fun _ _ q=>q
theorem HOk.laid (x:HOk P w H h) (k:∀ b u,h.get? b=some u→h'.get? b=some u) (hp:h.objs.size≤a) (new:bG P w (upd H a o) h' a o):HOk P w (upd H a o) h':=fun b u e=>by
 have hn:=x.fresh hp
 by_cases hb:b=a
 ·subst hb; rw [aN] at e; cases e; exact new
 ·rw [aK hb] at e
  exact (x b u e).stay (fun c v _ q=>k c v q) (fun c q=>by rw [aK (bh q hn)]; exact q) fun c xs q=>by rw [aK (bh q hn)]; exact q
end
def Rd (H:Hp) (a:Addr) (u:HO):Prop:=H a=some u∨∃ o,H a=some (.frz o u)
theorem Rd.ok {P:Program} {w:World} {H:Hp} {h:Heap} {a:Addr} {u:HO} (r:Rd H a u) (x:HOk P w H h):bG P w H h a u:=by
 rcases r with r | ⟨o,r⟩
 ·exact x a u r
 ·obtain ⟨_,q⟩:=x a _ r
  exact q
def Mut:Option HO→Prop
 | some (.lst _)=>True
 | some (.dK _)=>True
 | some (.dT _)=>True
 | some (.set _ _)=>True
 | some (.ins _ _ _)=>True
 | some (.ext _)=>True
 | _=>False
section
variable {P:Program} {w:World} {H:Hp} {h h':Heap} {x e:Addr} {o':HO}
theorem HOk.write (ok:HOk P w H h) (mu:Mut (H x)) (he:e=x∨H e=some (.own x)) (k:∀ b u,b ≠ e→h.get? b=some u→h'.get? b=some u) (heo:∃ u,h'.get? e=some u)
  (new:bG P w (upd H x o') h' x o'):HOk P w (upd H x o') h':=fun b u q=>by
 have nown:∀ c y,H c=some (.own y)→c ≠ x:=fun c y r z=>by subst z; rw [r] at mu; exact mu
 have ntup:∀ c xs,H c=some (.tup xs)→c ≠ x:=fun c xs r z=>by subst z; rw [r] at mu; exact mu
 by_cases hb:b=x
 ·subst hb; rw [aN] at q; cases q; exact new
 ·rw [aK hb] at q
  by_cases hbe:b=e
  ·have q':H b=some (.own x):=by
    rcases he with z | z
    ·exact absurd (hbe.trans z) hb
    ·rw [hbe]; exact z
   rw [q] at q'; cases q'
   obtain ⟨v,hv⟩:=heo
   exact ⟨v,by rw [hbe]; exact hv⟩
  ·refine (ok b u q).stay (fun c v hc r=>k c v ?_ r) (fun c r=>by rw [aK (nown c b r)]; exact r) fun c xs r=>by rw [aK (ntup c xs r)]; exact r
   rcases hc with rfl | hc
   ·exact hbe
   ·rintro rfl
    rcases he with z | z
    ·exact nown c b hc z
    ·rw [hc] at z; cases z; exact hb rfl
end
structure Un (fs ex:List Addr) (H H':Hp) (h h':Heap):Prop where
 keep:∀ b o,h.get? b=some o→H b=none→b ∉ fs→b ∉ ex→h'.get? b=some o
 slot:∀ b o,h.get? b=some o→H b=none→b∈fs→b ∉ ex→∃ sl,h'.get? b=some { o with slots:=sl }
 free:∀ b o,h.get? b=some o→H b=none→b ∉ ex→H' b=none
 there:∀ b o,h.get? b=some o→b ∉ ex→∃ o',h'.get? b=some o'
 tups:∀ b xs,H b=some (.tup xs)→H' b=some (.tup xs)
 frzs:∀ b o u,H b=some (.frz o u)→H' b=some (.frz o u)
 tbls:∀ b ps,H b=some (.tbl ps)→∃ more,H' b=some (.tbl (ps ++ more))
section
variable {fs fs' ex ex':List Addr} {H H1 H2:Hp} {h h1 h2 h':Heap} {a x e:Addr} {o:HO}
theorem Un.any (u:Un fs ex H H1 h h1) {b:Addr} {ob:Obj} (q:h.get? b=some ob) (n:H b=none) (hx:b ∉ ex):∃ sl,h1.get? b=some { ob with slots:=sl }:=by
 by_cases hb:b∈fs
 ·exact u.slot b ob q n hb hx
 ·exact ⟨ob.slots,u.keep b ob q n hb hx⟩
theorem Un.kept (k:∀ b u,h.get? b=some u→h'.get? b=some u):Un fs ex H H h h' :=
 ⟨fun b ob q _ _ _=>k b ob q,fun b ob q _ _ _=>⟨ob.slots,k b ob q⟩,fun _ _ _ n _=>n,fun b ob q _=>⟨ob,k b ob q⟩,fun _ _ q=>q,fun _ _ _ q=>q,fun _ ps q=>⟨#[],by rw [q]; simp⟩⟩
theorem Un.refl:Un fs ex H H h h:=Un.kept fun _ _ q=>q
theorem Un.laid (k:∀ b u,h.get? b=some u→h'.get? b=some u) (hp:h.objs.size≤a) (hn:H a=none):Un fs ex H (upd H a o) h h' where
 keep:=fun b u q _ _ _=>k b u q
 slot:=fun b u q _ _ _=>⟨u.slots,k b u q⟩
 free:=fun b u q n _=>by rw [aK (Nat.ne_of_lt (Nat.lt_of_lt_of_le (Heap.lt_size q) hp))]; exact n
 there:=fun b u q _=>⟨u,k b u q⟩
 tups:=fun b xs q=>by rw [aK (bh q hn)]; exact q
 frzs:=fun b u xs q=>by rw [aK (bh q hn)]; exact q
 tbls:=fun b ps q=>⟨#[],by rw [aK (bh q hn),q]; simp⟩
theorem Un.write (mu:Mut (H x)) (he:e=x∨H e=some (.own x)) (k:∀ b u,b ≠ e→h.get? b=some u→h'.get? b=some u) (heo:∃ u,h'.get? e=some u):Un fs ex H (upd H x o) h h':=by
 have hx:∀ b,H b=none→b ≠ x:=fun b n z=>by subst z; rw [n] at mu; exact mu
 have hb:∀ b,H b=none→b ≠ e:=fun b n z=>by
  subst z
  rcases he with r | r
  ·exact hx b n r
  ·rw [n] at r; cases r
 have hm:∀ b u,H b=some u→¬ Mut (some u)→b ≠ x:=fun b u q nm z=>by subst z; rw [q] at mu; exact nm mu
 refine ⟨fun b u q n _ _=>k b u (hb b n) q,fun b u q n _ _=>⟨u.slots,k b u (hb b n) q⟩,fun b u q n _=>by rw [aK (hx b n)]; exact n,fun b u q _=>?_,
  fun b xs q=>by rw [aK (hm b _ q fun z=>z)]; exact q,fun b u xs q=>by rw [aK (hm b _ q fun z=>z)]; exact q,fun b ps q=>⟨#[],by rw [aK (hm b _ q fun z=>z),q]; simp⟩⟩
 by_cases hbe:b=e
 ·subst hbe; exact heo
 ·exact ⟨u,k b u hbe q⟩
end
def trk (h:Heap) (H:Hp):List Addr:=(List.range h.objs.size).filter fun a=>(H a).isSome
def pO (h:Heap) (H:Hp):Heap:=PySem.W.hideAll h (trk h H)
theorem uT (h:Heap) (H:Hp):(pO h H).objs.size=h.objs.size:=PySem.W.hideAll_size _ _
theorem wk {h:Heap} {H:Hp} {b:Addr} {o:Obj} (e:h.get? b=some o) (n:H b=none):(pO h H).get? b=some o :=
 PySem.W.hideAll_get _ e fun hm=>by
  have q:(H b).isSome=true:=(List.mem_filter.mp hm).2
  rw [n] at q; simp at q
theorem yw {h:Heap} {H:Hp} {b:Addr} {o:Obj} (e:(pO h H).get? b=some o):h.get? b=some o∧H b=none:=by
 have e':h.get? b=some o:=PySem.W.of_hideAll (trk h H) e
 refine ⟨e',?_⟩
 cases q:H b with
 | none=>rfl
 | some x =>
  have hm:b∈trk h H:=List.mem_filter.mpr ⟨List.mem_range.mpr (Heap.lt_size e'),by simp [q]⟩
  have z:(pO h H).get? b=none:=PySem.W.hideAll_none (trk h H) hm
  rw [z] at e; cases e
end L2
namespace L2
open PySem PySem.Spec PyProof.Rows
structure Mod (K:PySem.W.Frag) (mg:Str→Option Value) (base:Heap):Prop where
 kin:K.In base
 glob:base.Ns mainGlobals mg
 blt:∃ mb,base.Ns builtinsNs mb∧∀ x:Str,x ≠ "__name__"→mb x=bootBuiltins x
 nolimit:base.NoLimit
structure Cx where
 prog:Program
 w:World
 K:PySem.W.Frag
 mg:Str→Option Value
 base:Heap
 A:Around
 N:List Str
 s₀:Shared
 H₀:Hp
 env:Env
 outer:List Env
 stack:List Env
 ex:List Addr
 fn:Str→Bool
 calm:Bool
 pn:List (Addr × Obj)
 xe:Value→Shared→Prop
def frs (l:List Env):List Addr:=l.filterMap (·.frame)
abbrev Cx.fs (X:Cx):List Addr:=frs X.outer
def Vis (sc:Scope) (x:Str):Prop:=sc.names.lookup x=some .local∨sc.names.lookup x=some .cell∨sc.names.lookup x=some .free
def Loc (sc:Scope) (x:Str):Prop:=sc.names.lookup x=some .local∨sc.names.lookup x=some .cell
def B1 (env:Env) (h:Heap) (m:Str→Option Value) (x:Str) (u:Value):Prop :=
 (env.kindOf x=some .local∧m x=some u)∨((env.kindOf x=some .cell∨env.kindOf x=some .free)∧∃ c,env.cells.lookup x=some c∧h.IsCell c (some u))
structure Cx.Ok (X:Cx):Prop where
 mod:Mod X.K X.mg X.base
 kind:X.env.scope.kind=.function
 glob:X.env.globals=mainGlobals
 blt:X.env.builtins=builtinsNs
 above:X.s₀.heap.objs.size≤X.env.locals
 inj:∀ x y c,X.env.cells.lookup x=some c→X.env.cells.lookup y=some c→x=y
 has:∀ x,(X.env.kindOf x=some .cell∨X.env.kindOf x=some .free)→∃ c,X.env.cells.lookup x=some c
 cab:∀ x c,X.fn x=true→X.env.cells.lookup x=some c→X.s₀.heap.objs.size≤c
 hd:X.calm=true→X.A.handled=none
 frames:X.A.frames=some X.stack
 stk:X.stack=X.outer∨(X.stack=X.env :: X.outer∧X.env.frame=some X.env.locals)
 exf:∀ b∈X.ex,b ≠ X.env.locals∧∀ x c,X.env.cells.lookup x=some c→c ≠ b
 bs:∀ b o,X.base.get? b=some o→X.s₀.heap.get? b=some o∧X.H₀ b=none
 bsz:X.base.objs.size≤X.s₀.heap.objs.size
 noex:∀ b o,X.base.get? b=some o→b ∉ X.ex
 exfs:∀ b∈X.ex,b ∉ X.fs
 funs:X.s₀.heap.FunFrames X.base X.outer
 frf:∀ b∈X.fs,X.H₀ b=none
structure Inv (X:Cx) (pins:List (Addr × Obj)) (σ:List (Option V)) (H:Hp) (s:Shared):Prop where
 ok:X.Ok
 os:s.os=X.s₀.os
 bare:AllBare s.gens
 base:Un X.fs X.ex X.H₀ H X.s₀.heap s.heap
 loc:∃ m,s.heap.Ns X.env.locals m∧∀ (i:Nat) (x:Str) (v:V),X.N[i]?=some x→σ[i]?=some (some v)→Vis X.env.scope x→∃ u,bf v u∧B1 X.env s.heap m x u
 cell:∀ x c,X.env.cells.lookup x=some c→∃ v,s.heap.IsCell c v
 free:H X.env.locals=none
 freeC:∀ x c,X.env.cells.lookup x=some c→H c=none
 pin:∀ p∈X.pn ++ pins,s.heap.get? p.1=some p.2∧H p.1=none∧p.1 ≠ X.env.locals∧p.1 ∉ X.fs∧∀ v,p.2.data ≠ .cell v
 hok:HOk X.prog X.w H s.heap
 len:σ.length=X.N.length
section
variable {X:Cx} {pins:List (Addr × Obj)} {σ:List (Option V)} {H H':Hp} {s:Shared} {h':Heap}
theorem Cx.Ok.nofr (ok:X.Ok) {b:Addr} {o:Obj} (e:X.base.get? b=some o):b ∉ X.fs:=fun hb=>by
 have:=(ok.funs.mem hb).1
 rw [e] at this; cases this
theorem Inv.bs (I:Inv X pins σ H s):∀ b o,X.base.get? b=some o→s.heap.get? b=some o∧H b=none:=fun b o e =>
 ⟨I.base.keep b o (I.ok.bs b o e).1 (I.ok.bs b o e).2 (I.ok.nofr e) (I.ok.noex b o e),I.base.free b o (I.ok.bs b o e).1 (I.ok.bs b o e).2 (I.ok.noex b o e)⟩
theorem Inv.bk (I:Inv X pins σ H s):∀ b o,X.base.get? b=some o→s.heap.get? b=some o:=fun b o e=>(I.bs b o e).1
theorem Inv.mod (I:Inv X pins σ H s):Mod X.K X.mg X.base:=I.ok.mod
theorem Inv.kIn (I:Inv X pins σ H s):X.K.In s.heap:=I.ok.mod.kin.keeps I.bk
theorem Inv.nolimit (I:Inv X pins σ H s):s.heap.NoLimit:=I.ok.mod.nolimit.keeps I.bk
theorem Inv.fr (I:Inv X pins σ H s):∃ m,Fr X.base X.env.locals s.heap m :=
 let ⟨m,hn,_⟩:=I.loc
 ⟨m,hn,I.bk,Nat.le_trans I.ok.bsz I.ok.above⟩
theorem Inv.lt (I:Inv X pins σ H s):X.env.locals < s.heap.objs.size:=let ⟨_,hn,_⟩:=I.loc; hn.lt
theorem Inv.sz (I:Inv X pins σ H s):X.s₀.heap.objs.size≤s.heap.objs.size:=Nat.le_trans I.ok.above (Nat.le_of_lt I.lt)
theorem Inv.nofs (I:Inv X pins σ H s) {a:Addr} (h:s.heap.objs.size≤a):a ∉ X.fs:=fun hb=>by
 obtain ⟨_,o,ho,_⟩:=I.ok.funs.mem hb
 exact absurd (Nat.lt_of_lt_of_le (Heap.lt_size ho) (Nat.le_trans I.sz h)) (Nat.lt_irrefl _)
theorem Inv.cne (I:Inv X pins σ H s):∀ x c,X.env.cells.lookup x=some c→c ≠ X.env.locals:=fun x c e z=>by
 obtain ⟨v,o,ho,hd⟩:=I.cell x c e
 obtain ⟨m,⟨o',es,ep,ho',hd',_⟩,_⟩:=I.loc
 rw [z,ho'] at ho; cases ho; rw [hd'] at hd; cases hd
theorem Inv.funs (I:Inv X pins σ H s):s.heap.FunFrames X.base X.outer:=by
 have all:∀ (l:List Env),(∀ b∈frs l,b∈X.fs)→X.s₀.heap.FunFrames X.base l→s.heap.FunFrames X.base l:=by
  intro l
  induction l with
  | nil=>intro _ _; trivial
  | cons env r ih =>
   intro hs hl
   obtain ⟨hk,⟨L,o,hf,hn,ho,hd⟩,hr⟩:=hl
   have hL:L∈X.fs:=hs L (by unfold frs; rw [List.filterMap_cons,hf]; exact List.mem_cons_self)
   obtain ⟨sl,e⟩:=I.base.slot L o ho (I.ok.frf L hL) hL fun z=>I.ok.exfs L z hL
   exact ⟨hk,⟨L,_,hf,hn,e,hd⟩,ih (fun b hb=>hs b (by unfold frs; rw [List.filterMap_cons,hf]; exact List.mem_cons_of_mem _ hb)) hr⟩
 exact all X.outer (fun _ hb=>hb) I.ok.funs
theorem Inv.stack (I:Inv X pins σ H s):s.heap.FunFrames X.base X.stack:=by
 rcases I.ok.stk with e | ⟨e,hf⟩
 ·rw [e]; exact I.funs
 ·rw [e]
  obtain ⟨m,hn,_⟩:=I.loc
  refine .cons (by rw [I.ok.kind]; decide) hf hn ?_ I.funs
  exact Heap.get?_none_of_le (Nat.le_trans I.ok.bsz I.ok.above)
theorem Inv.stkSub (I:Inv X pins σ H s):∀ b∈frs X.stack,b∈X.env.locals :: X.fs:=fun b hb=>by
 rcases I.ok.stk with e | ⟨e,hf⟩
 ·rw [e] at hb; exact List.mem_cons_of_mem _ hb
 ·rw [e] at hb
  unfold frs at hb
  rw [List.filterMap_cons,hf] at hb
  exact hb
theorem Inv.stkFree (I:Inv X pins σ H s):∀ b∈frs X.stack,H b=none:=fun b hb=>by
 rcases List.mem_cons.mp (I.stkSub b hb) with e | hb
 ·rw [e]; exact I.free
 ·obtain ⟨_,o,ho,_⟩:=I.ok.funs.mem hb
  exact I.base.free b o ho (I.ok.frf b hb) fun z=>I.ok.exfs b z hb
theorem Inv.step {g':Array GenState} {t':Nat} {d':Drawn} {ch:List Addr} (I:Inv X pins σ H s)
  (hch:∀ b∈ch,(b∈X.ex∨X.s₀.heap.objs.size≤b)∧b ≠ X.env.locals∧(∀ x c,X.env.cells.lookup x=some c→c ≠ b)∧∀ p∈X.pn ++ pins,p.1 ≠ b)
  (keep:∀ b o,b ≠ X.env.locals→b ∉ X.fs→b ∉ ch→s.heap.get? b=some o→H b=none→h'.get? b=some o)
  (slot:∀ b o,b ≠ X.env.locals→b∈X.fs→b ∉ ch→s.heap.get? b=some o→H b=none→∃ sl,h'.get? b=some { o with slots:=sl }) (free:∀ b o,b ∉ ch→s.heap.get? b=some o→H b=none→H' b=none)
  (there:∀ b o,b ∉ ch→s.heap.get? b=some o→∃ o',h'.get? b=some o')
  (tups:∀ b xs,H b=some (.tup xs)→H' b=some (.tup xs)) (frzs:∀ b o u,H b=some (.frz o u)→H' b=some (.frz o u)) (tbls:∀ b ps,H b=some (.tbl ps)→∃ more,H' b=some (.tbl (ps ++ more)))
  (ns:∀ m,s.heap.Ns X.env.locals m→h'.Ns X.env.locals m) (hok:HOk X.prog X.w H' h') (hg:AllBare g') :
  Inv X pins σ H' { s with heap:=h',gens:=g',drawn:=d',toks:=t' }:=by
 have neL:∀ b o,X.s₀.heap.get? b=some o→b ≠ X.env.locals:=fun b o e=>Nat.ne_of_lt (Nat.lt_of_lt_of_le (Heap.lt_size e) I.ok.above)
 have neC:∀ b o,X.s₀.heap.get? b=some o→b ∉ X.ex→b ∉ ch:=fun b o e hx hb=>by
  rcases (hch b hb).1 with z | z
  ·exact hx z
  ·exact absurd (Nat.lt_of_lt_of_le (Heap.lt_size e) z) (Nat.lt_irrefl _)
 have cellK:∀ x c,X.env.cells.lookup x=some c→∀ v,s.heap.IsCell c v→h'.IsCell c v:=fun x c e v ⟨o,ho,hd⟩=>by
  have nch:c ∉ ch:=fun z=>(hch c z).2.2.1 x c e rfl
  by_cases hc:c∈X.fs
  ·obtain ⟨sl,q⟩:=slot c o (I.cne x c e) hc nch ho (I.freeC x c e)
   exact ⟨_,q,hd⟩
  ·exact ⟨o,keep c o (I.cne x c e) hc nch ho (I.freeC x c e),hd⟩
 refine ⟨I.ok,I.os,hg,⟨fun b o e n hb hx=>?_,fun b o e n hb hx=>?_,fun b o e n hx=>?_,fun b o e hx=>?_,fun b xs e=>tups b xs (I.base.tups b xs e),fun b o xs e=>frzs b o xs (I.base.frzs b o xs e),fun b ps e=>?_⟩,?_,fun x c e=>?_,?_,fun x c e=>?_,fun p hp=>?_,hok,I.len⟩
 ·exact keep b o (neL b o e) hb (neC b o e hx) (I.base.keep b o e n hb hx) (I.base.free b o e n hx)
 ·obtain ⟨sl,e1⟩:=I.base.slot b o e n hb hx
  obtain ⟨sl',e2⟩:=slot b _ (neL b o e) hb (neC b o e hx) e1 (I.base.free b o e n hx)
  exact ⟨sl',e2⟩
 ·obtain ⟨o',e1⟩:=I.base.there b o e hx
  exact free b o' (neC b o e hx) e1 (I.base.free b o e n hx)
 ·obtain ⟨o',e1⟩:=I.base.there b o e hx
  exact there b o' (neC b o e hx) e1
 ·obtain ⟨m1,e1⟩:=I.base.tbls b ps e
  obtain ⟨m2,e2⟩:=tbls b _ e1
  exact ⟨m1 ++ m2,by rw [e2,Array.append_assoc]⟩
 ·obtain ⟨m,hn,hl⟩:=I.loc
  refine ⟨m,ns m hn,fun i x v e1 e2 e3=>?_⟩
  obtain ⟨u,r,l⟩:=hl i x v e1 e2 e3
  refine ⟨u,r,?_⟩
  rcases l with l | ⟨k,c,e,z⟩
  ·exact .inl l
  ·exact .inr ⟨k,c,e,cellK x c e _ z⟩
 ·obtain ⟨v,z⟩:=I.cell x c e
  exact ⟨v,cellK x c e v z⟩
 ·obtain ⟨m,⟨o,_,_,ho,_⟩,_⟩:=I.loc
  exact free _ o (fun z=>(hch _ z).2.1 rfl) ho I.free
 ·obtain ⟨v,o,ho,hd⟩:=I.cell x c e
  exact free c o (fun z=>(hch c z).2.2.1 x c e rfl) ho (I.freeC x c e)
 ·obtain ⟨e,n,ne,nf,d⟩:=I.pin p hp
  have nch:p.1 ∉ ch:=fun z=>(hch p.1 z).2.2.2 p hp rfl
  exact ⟨keep p.1 p.2 ne nf nch e n,free p.1 p.2 nch e n,ne,nf,d⟩
theorem Inv.un {t':Nat} (I:Inv X pins σ H s) (u:Un X.fs [] H H' s.heap h') (hok:HOk X.prog X.w H' h'):Inv X pins σ H' { s with heap:=h',toks:=t' }:=by
 obtain ⟨m,⟨o,es,ep,ho,r⟩,_⟩:=id I.loc
 obtain ⟨sl,hL⟩:=u.any ho I.free (by simp)
 exact I.step (g':=s.gens) (d':=s.drawn) (ch:=[]) (fun _ z=>nomatch z) (fun b o _ hb _ e n=>u.keep b o e n hb (by simp)) (fun b o _ hb _ e n=>u.slot b o e n hb (by simp)) (fun b o _ e n=>u.free b o e n (by simp)) (fun b o _ e=>u.there b o e (by simp)) u.tups u.frzs u.tbls (fun m' hm=>by
  obtain ⟨o',es',ep',ho',r'⟩:=hm
  rw [ho] at ho'; cases ho'
  exact ⟨_,es',ep',hL,r'⟩) hok I.bare
theorem Inv.call {g':Array GenState} {t':Nat} {d':Drawn} {ch:List Addr} (I:Inv X pins σ H s) (u:Un (frs X.stack) ch H H' s.heap h') (hok:HOk X.prog X.w H' h') (hg:AllBare g')
  (hch:∀ b∈ch,(b∈X.ex∨X.s₀.heap.objs.size≤b)∧b ≠ X.env.locals∧(∀ x c,X.env.cells.lookup x=some c→c ≠ b)∧∀ p∈X.pn ++ pins,p.1 ≠ b) :
  Inv X pins σ H' { s with heap:=h',gens:=g',drawn:=d',toks:=t' }:=by
 obtain ⟨m,⟨o,es,ep,ho,r⟩,_⟩:=id I.loc
 obtain ⟨sl,hL⟩:=u.any ho I.free fun z=>(hch _ z).2.1 rfl
 exact I.step (ch:=ch) hch (fun b o hL hb hc e n=>u.keep b o e n (fun z=>(List.mem_cons.mp (I.stkSub b z)).elim hL hb) hc) (fun b o _ _ hc e n=>u.any e n hc) (fun b o hc e n=>u.free b o e n hc) (fun b o hc e=>u.there b o e hc) u.tups u.frzs u.tbls (fun m' hm=>by
  obtain ⟨o',es',ep',ho',r'⟩:=hm
  rw [ho] at ho'; cases ho'
  exact ⟨_,es',ep',hL,r'⟩) hok hg
theorem Inv.turned {t':Nat} {it:Addr} (I:Inv X pins σ H s) (k:∀ b o,b ≠ it→s.heap.get? b=some o→h'.get? b=some o) (hn:H it=none) (hL:it ≠ X.env.locals)
  (h1:it∈X.ex∨X.s₀.heap.objs.size≤it) (h2:∀ x c,X.env.cells.lookup x=some c→c ≠ it) (h3:∀ p∈X.pn ++ pins,p.1 ≠ it):Inv X pins σ H { s with heap:=h',toks:=t' }:=by
 have nit:∀ b u,H b=some u→b ≠ it:=fun b u e z=>by rw [z,hn] at e; cases e
 refine I.step (g':=s.gens) (d':=s.drawn) (ch:=[it]) (fun b hb=>?_) (fun b o _ _ hc e _=>k b o (fun z=>hc (by simp [z])) e) (fun b o _ _ hc e _=>⟨o.slots,k b o (fun z=>hc (by simp [z])) e⟩) (fun _ _ _ _ n=>n)
  (fun b o hc e=>⟨o,k b o (fun z=>hc (by simp [z])) e⟩) (fun _ _ e=>e) (fun _ _ _ e=>e) (fun b ps e=>⟨#[],by rw [e]; simp⟩) (fun m hm=>?_) (fun b u e=>?_) I.bare
 ·have e:b=it:=by simpa using hb
  subst e
  exact ⟨h1,hL,h2,h3⟩
 ·obtain ⟨o,es,ep,ho,r⟩:=hm
  exact ⟨o,es,ep,k _ o (Ne.symm hL) ho,r⟩
 ·refine (I.hok b u e).stay (fun c v hc q=>k c v ?_ q) (fun _ q=>q) fun _ _ q=>q
  rcases hc with z | z
  ·rw [z]; exact nit b u e
  ·exact nit c _ z
theorem Inv.tok (I:Inv X pins σ H s) (t:Nat):Inv X pins σ H { s with toks:=t }:=I.un (h':=s.heap) (t':=t) Un.refl I.hok
theorem Inv.kept {t':Nat} (I:Inv X pins σ H s) (k:∀ b u,s.heap.get? b=some u→h'.get? b=some u):Inv X pins σ H { s with heap:=h',toks:=t' }:=I.un (Un.kept k) (I.hok.kept k)
theorem Inv.laid {a:Addr} {o:HO} {t':Nat} (I:Inv X pins σ H s) (k:∀ b u,s.heap.get? b=some u→h'.get? b=some u) (hp:s.heap.objs.size≤a) (new:bG X.prog X.w (upd H a o) h' a o) :
  Inv X pins σ (upd H a o) { s with heap:=h',toks:=t' }:=I.un (Un.laid k hp (I.hok.fresh hp)) (I.hok.laid k hp new)
theorem Inv.write {x e:Addr} {o:HO} {t':Nat} (I:Inv X pins σ H s) (mu:Mut (H x)) (he:e=x∨H e=some (.own x)) (k:∀ b u,b ≠ e→s.heap.get? b=some u→h'.get? b=some u) (heo:∃ u,h'.get? e=some u)
  (new:bG X.prog X.w (upd H x o) h' x o):Inv X pins σ (upd H x o) { s with heap:=h',toks:=t' }:=I.un (Un.write mu he k heo) (I.hok.write mu he k heo new)
theorem Inv.weak {σ':List (Option V)} (I:Inv X pins σ H s) (hl:σ'.length=σ.length) (w:∀ (i:Nat) v,σ'[i]?=some (some v)→σ[i]?=some (some v)):Inv X pins σ' H s :=
 ⟨I.ok,I.os,I.bare,I.base,let ⟨m,hn,hl'⟩:=I.loc; ⟨m,hn,fun i x v e1 e2 e3=>hl' i x v e1 (w i v e2) e3⟩,I.cell,I.free,I.freeC,I.pin,I.hok,hl.trans I.len⟩
theorem Inv.pins_of {pins':List (Addr × Obj)} (I:Inv X pins σ H s) (h:∀ p∈pins',s.heap.get? p.1=some p.2∧H p.1=none∧p.1 ≠ X.env.locals∧p.1 ∉ X.fs∧∀ v,p.2.data ≠ .cell v):Inv X pins' σ H s :=
 ⟨I.ok,I.os,I.bare,I.base,I.loc,I.cell,I.free,I.freeC,fun p hp=>(List.mem_append.mp hp).elim (fun z=>I.pin p (List.mem_append_left _ z)) (h p),I.hok,I.len⟩
theorem qQ {N:List Str} (hN:N.Nodup) {i j:Nat} {x:Str} (a:N[i]?=some x) (b:N[j]?=some x):i=j:=by
 obtain ⟨h1,e1⟩:=List.getElem?_eq_some_iff.mp a
 obtain ⟨h2,e2⟩:=List.getElem?_eq_some_iff.mp b
 exact (List.getElem_inj hN).mp (e1.trans e2.symm)
theorem nR {M:Model} {A:Around} {E:Value→Shared→Prop} {i:Nat} {x:Str} {v:V} {u:Value} {Q:Unit→Shared→Prop} (I:Inv X pins σ H s) (hN:X.N.Nodup) (hi:X.N[i]?=some x) (hx:Loc X.env.scope x) (r:bf v u)
  (h:∀ s',Inv X pins (σ.set i (some v)) H s'→(∃ a,Heap.SameBut a s.heap s'.heap∧(a=X.env.locals∨X.env.cells.lookup x=some a))→Q () s') (hf:X.fn x=true∨X.env.scope.names.lookup x=some .local:=by first | exact .inl rfl | exact .inr rfl | assumption):wpAny M A (storeName X.env x u) Q E s:=by
 obtain ⟨m,hn,hl⟩:=id I.loc
 have hcls:(X.env.scope.kind == .class || (X.env.scope.kind == .module && X.env.locals != X.env.globals))=false:=by rw [I.ok.kind]; rfl
 have hiσ:i < σ.length:=by rw [I.len]; exact (List.getElem?_eq_some_iff.mp hi).1
 have cne:=I.cne
 have tracked:∀ {a:Addr} {h':Heap},(∃ o,s.heap.get? a=some o∧H a=none)→Heap.SameBut a s.heap h'→HOk X.prog X.w H h':=fun {a h'} ha hs b ob e=>by
  obtain ⟨_,_,hfree⟩:=ha
  refine (I.hok b ob e).stay (fun c w' hc q=>(hs.2 c ?_).trans q) (fun _ q=>q) fun _ _ q=>q
  rintro rfl
  rcases hc with rfl | hc
  ·rw [hfree] at e; cases e
  ·rw [hfree] at hc; cases hc
 rcases hx with hk | hk
 ·refine wpAny_storeName_local hk hn (fun h' hn' hs=>?_) hcls
  obtain ⟨oL,_,_,hoL,_⟩:=id hn
  refine h _ ⟨I.ok,I.os,I.bare,⟨fun b o e n hb hx=>?_,fun b o e n hb hx=>?_,I.base.free,fun b o e hx=>?_,I.base.tups,I.base.frzs,I.base.tbls⟩,⟨_,hn',fun j y v' e1 e2 e3=>?_⟩,fun y c e=>?_,I.free,I.freeC,fun p hp=>?_,tracked ⟨oL,hoL,I.free⟩ hs,by simpa using I.len⟩ ⟨_,hs,.inl rfl⟩
  ·exact (hs.2 b (Nat.ne_of_lt (Nat.lt_of_lt_of_le (Heap.lt_size e) I.ok.above))).trans (I.base.keep b o e n hb hx)
  ·obtain ⟨sl,e1⟩:=I.base.slot b o e n hb hx
   exact ⟨sl,(hs.2 b (Nat.ne_of_lt (Nat.lt_of_lt_of_le (Heap.lt_size e) I.ok.above))).trans e1⟩
  ·obtain ⟨o',e1⟩:=I.base.there b o e hx
   exact ⟨o',(hs.2 b (Nat.ne_of_lt (Nat.lt_of_lt_of_le (Heap.lt_size e) I.ok.above))).trans e1⟩
  ·by_cases hj:j=i
   ·subst hj
    rw [hi] at e1; cases e1
    rw [List.getElem?_set_self hiσ] at e2
    cases e2
    exact ⟨u,r,.inl ⟨hk,by simp⟩⟩
   ·rw [List.getElem?_set_ne (Ne.symm hj)] at e2
    obtain ⟨u',r',q⟩:=hl j y v' e1 e2 e3
    refine ⟨u',r',?_⟩
    rcases q with ⟨k,e⟩ | ⟨k,c,e,z⟩
    ·refine .inl ⟨k,?_⟩
     have:y ≠ x:=fun e=>hj (qQ hN e1 (e ▸ hi))
     simp [this,e]
    ·exact .inr ⟨k,c,e,z.sameBut hs (cne y c e)⟩
  ·obtain ⟨w',z⟩:=I.cell y c e
   exact ⟨w',z.sameBut hs (cne y c e)⟩
  ·obtain ⟨e,n,ne,nf,d⟩:=I.pin p hp
   exact ⟨(hs.2 p.1 ne).trans e,n,ne,nf,d⟩
 ·have hfn:X.fn x=true:=by
   rcases hf with z | z
   ·exact z
   ·rw [z] at hk; cases hk
  obtain ⟨c,hc⟩:=I.ok.has x (.inl hk)
  obtain ⟨w',z⟩:=I.cell x c hc
  refine wpAny_storeName_cell I.ok.kind hk hc z (fun h' hc' hs=>?_)
  obtain ⟨oc,hoc,hocd⟩:=id z
  refine h { s with heap:=h' } ⟨I.ok,I.os,I.bare,⟨fun b o e n hb hx=>?_,fun b o e n hb hx=>?_,I.base.free,fun b o e hx=>?_,I.base.tups,I.base.frzs,I.base.tbls⟩,⟨m,hn.sameBut hs (Ne.symm (cne x c hc)),fun j y v' e1 e2 e3=>?_⟩,fun y c' e=>?_,I.free,I.freeC,fun p hp=>?_,tracked ⟨oc,hoc,I.freeC x c hc⟩ hs,by simpa using I.len⟩ ⟨c,hs,.inr hc⟩
  ·exact (hs.2 b (Nat.ne_of_lt (Nat.lt_of_lt_of_le (Heap.lt_size e) (I.ok.cab x c hfn hc)))).trans (I.base.keep b o e n hb hx)
  ·obtain ⟨sl,e1⟩:=I.base.slot b o e n hb hx
   exact ⟨sl,(hs.2 b (Nat.ne_of_lt (Nat.lt_of_lt_of_le (Heap.lt_size e) (I.ok.cab x c hfn hc)))).trans e1⟩
  ·obtain ⟨o',e1⟩:=I.base.there b o e hx
   exact ⟨o',(hs.2 b (Nat.ne_of_lt (Nat.lt_of_lt_of_le (Heap.lt_size e) (I.ok.cab x c hfn hc)))).trans e1⟩
  ·by_cases hj:j=i
   ·subst hj
    rw [hi] at e1; cases e1
    rw [List.getElem?_set_self hiσ] at e2
    cases e2
    exact ⟨u,r,.inr ⟨.inl hk,c,hc,hc'⟩⟩
   ·rw [List.getElem?_set_ne (Ne.symm hj)] at e2
    obtain ⟨u',r',q⟩:=hl j y v' e1 e2 e3
    refine ⟨u',r',?_⟩
    rcases q with q | ⟨k,c',e,z'⟩
    ·exact .inl q
    ·refine .inr ⟨k,c',e,z'.sameBut hs ?_⟩
     rintro rfl
     exact hj (qQ hN e1 (I.ok.inj _ _ _ e hc ▸ hi))
  ·by_cases hcc:c'=c
   ·subst hcc; exact ⟨_,hc'⟩
   ·obtain ⟨w2,z2⟩:=I.cell y c' e
    exact ⟨w2,z2.sameBut hs hcc⟩
  ·obtain ⟨e,n,ne,nf,d⟩:=I.pin p hp
   refine ⟨(hs.2 p.1 ?_).trans e,n,ne,nf,d⟩
   intro q
   rw [q,hoc] at e
   have q':oc=p.2:=Option.some.inj e
   exact d w' (by rw [← q']; exact hocd)
theorem rq {M:Model} {A:Around} {E:Value→Shared→Prop} {i:Nat} {x:Str} {v:V} {u:Value} {Q:Unit→Shared→Prop} (I:Inv X pins σ H s) (hN:X.N.Nodup) (hi:X.N[i]?=some x) (hx:Loc X.env.scope x) (r:bf v u)
  (h:∀ s',Inv X pins (σ.set i (some v)) H s'→Q () s') (hf:X.fn x=true∨X.env.scope.names.lookup x=some .local:=by first | exact .inl rfl | exact .inr rfl | assumption):wpAny M A (storeName X.env x u) Q E s :=
 nR I hN hi hx r (fun s' I' _=>h s' I') hf
theorem Inv.call' {s':Shared} {ch:List Addr} (I:Inv X pins σ H s) (ho:s'.os=s.os) (u:Un (frs X.stack) ch H H' s.heap s'.heap) (hok:HOk X.prog X.w H' s'.heap) (hg:AllBare s'.gens)
  (hch:∀ b∈ch,(b∈X.ex∨X.s₀.heap.objs.size≤b)∧b ≠ X.env.locals∧(∀ x c,X.env.cells.lookup x=some c→c ≠ b)∧∀ p∈X.pn ++ pins,p.1 ≠ b):Inv X pins σ H' s':=by
 obtain ⟨h',g',d',t',o'⟩:=s'
 have e:o'=s.os:=ho
 subst e
 exact I.call (g':=g') (t':=t') (d':=d') u hok hg hch
end
abbrev XK:=Value→Option Addr→Hp→Prop
abbrev St:=List (Option V)
abbrev VK:=V→Hp→Prop
abbrev TE:=St→Hp→VK→Prop
abbrev TT:=St→Hp→(Bool→Hp→Prop)→Prop
abbrev TA:=St→Hp→(List V→Hp→Prop)→Prop
structure pq where
 nx:St→Hp→Prop
 rt:VK
 bk:St→Hp→Prop:=fun _ _=>False
 ct:St→Hp→Prop:=fun _ _=>False
abbrev TS:=pq→St→Hp→Prop
def EP (X:Cx) (pins:List (Addr × Obj)) (σ:St) (Q:VK) (u:Value) (s':Shared):Prop:=∃ v H',Inv X pins σ H' s'∧bf v u∧Q v H'
def TP (X:Cx) (pins:List (Addr × Obj)) (σ:St) (Q:Bool→Hp→Prop) (b:Bool) (s':Shared):Prop:=∃ H',Inv X pins σ H' s'∧Q b H'
def AP (X:Cx) (pins:List (Addr × Obj)) (σ:St) (Q:List V→Hp→Prop) (us:List Value) (s':Shared):Prop:=∃ vs H',Inv X pins σ H' s'∧aU vs us∧Q vs H'
def SP (X:Cx) (pins:List (Addr × Obj)) (D:pq) (f:Flow) (s':Shared):Prop :=
 match f with
 | .next=>∃ σ' H',Inv X pins σ' H' s'∧D.nx σ' H'
 | .brk=>∃ σ' H',Inv X pins σ' H' s'∧D.bk σ' H'
 | .cont=>∃ σ' H',Inv X pins σ' H' s'∧D.ct σ' H'
 | .ret u=>∃ v σ' H',Inv X pins σ' H' s'∧bf v u∧D.rt v H'
def PE (X:Cx) (e:Expr) (t:TE):Prop :=
 ∀ (pins:List (Addr × Obj)) (s:Shared) (σ:St) (H:Hp) (Q:VK),Inv X pins σ H s→t σ H Q→wpAny (model X.prog X.w) X.A (eval e X.env) (EP X pins σ Q) X.xe s
def PT (X:Cx) (e:Expr) (t:TT):Prop :=
 ∀ (pins:List (Addr × Obj)) (s:Shared) (σ:St) (H:Hp) (Q:Bool→Hp→Prop),Inv X pins σ H s→t σ H Q→wpAny (model X.prog X.w) X.A (isTrue e X.env (eval e X.env)) (TP X pins σ Q) X.xe s
def PW (X:Cx) (e:Expr) (t:TT):Prop :=
 ∀ (whole:Sem Value) (pins:List (Addr × Obj)) (s:Shared) (σ:St) (H:Hp) (Q:Bool→Hp→Prop),Inv X pins σ H s→t σ H Q→wpAny (model X.prog X.w) X.A (isTrue e X.env whole) (TP X pins σ Q) X.xe s
theorem PW.pt {X:Cx} {e:Expr} {t:TT} (h:PW X e t):PT X e t:=h _
def PA (X:Cx) (es:List Expr) (t:TA):Prop :=
 ∀ (pos:Pos) (pins:List (Addr × Obj)) (s:Shared) (σ:St) (H:Hp) (Q:List V→Hp→Prop),Inv X pins σ H s→t σ H Q→wpAny (model X.prog X.w) X.A (spliced (backTo pos (starEach es X.env))) (AP X pins σ Q) X.xe s
def PS (X:Cx) (st:Stmt) (t:TS):Prop :=
 ∀ (pins:List (Addr × Obj)) (s:Shared) (σ:St) (H:Hp) (D:pq),Inv X pins σ H s→t D σ H→wpAny (model X.prog X.w) X.A (exec st X.env) (SP X pins D) X.xe s
def PSs (X:Cx) (st:List Stmt) (t:TS):Prop :=
 ∀ (pins:List (Addr × Obj)) (s:Shared) (σ:St) (H:Hp) (D:pq),Inv X pins σ H s→t D σ H→wpAny (model X.prog X.w) X.A (execs st X.env) (SP X pins D) X.xe s
theorem thn {α:Type} {t:Sem α} {Q Q':α→Shared→Prop} {M:Model} {A:Around} {E:Value→Shared→Prop} {s:Shared} (h:wpAny M A t Q E s) (hQ:∀ a s,Q a s→Q' a s):wpAny M A t Q' E s:=wpAny_mono h hQ fun _ _ x=>x
end L2
namespace L2
open PySem PySem.Spec PyProof.Rows
section
variable {X:Cx}
def rG (i:Nat):TE:=fun σ H Q=>∃ v,σ[i]?=some (some v)∧Q v H
def tC (v:V):TE:=fun _ H Q=>Q v H
theorem AM {i:Nat} {x:Str} {pos:Pos} (hN:X.N[i]?=some x) (hv:Vis X.env.scope x) (hd:(x == ("__debug__":Str))=false:=by decide) (hcd:(x == ("__classdict__":Str))=false:=by decide):PE X (.Name x pos) (rG i):=by
 intro pins s σ H Q I h
 obtain ⟨v,e,h⟩:=h
 obtain ⟨m,hn,hl⟩:=I.loc
 obtain ⟨u,r,l⟩:=hl i x v hN e hv
 have fin:EP X pins σ Q u s:=⟨v,H,I,r,h⟩
 rcases l with ⟨hk,hm⟩ | ⟨hk,c,hc,hcell⟩
 ·exact wpAny_Name (wpAny_loadName_local I.ok.kind hk hn hm fin) hd
 ·rcases hk with hk | hk
  ·exact wpAny_Name (wpAny_loadName_cell I.ok.kind hk hc hcell fin) hd
  ·exact wpAny_Name (wpAny_loadName_free I.ok.kind hk hc hcell fin hcd) hd
theorem Bg {i j pos}:PE X (.Constant (.int i) j pos) (tC (.int i)):=fun _ _ _ H _ I h=>wpAny_Constant_int ⟨.int i,H,I.tok _,⟨_,rfl⟩,h⟩
theorem B9 {b j pos}:PE X (.Constant (.bool b) j pos) (tC (.bl b)):=fun _ _ _ H _ I h=>Constant_bool ⟨.bl b,H,I,rfl,h⟩
theorem Ax {j pos}:PE X (.Constant .none j pos) (tC .non):=fun _ _ _ H _ I h=>Constant_none ⟨.non,H,I,rfl,h⟩
theorem BE {x j pos}:PE X (.Constant (.str x) j pos) (tC (.str x)):=fun _ _ _ H _ I h=>Calls.Constant_str ⟨.str x,H,I.tok _,⟨_,rfl⟩,h⟩
def Gl (X:Cx) (x:Str):Prop:=X.env.kindOf x=some .globalImplicit
theorem fX {E:Value→Shared→Prop} {pins:List (Addr × Obj)} {s:Shared} {σ:St} {H:Hp} {x:Str} {u:Value} {pos:Pos} {Q:Value→Shared→Prop} (I:Inv X pins σ H s) (hg:Gl X x) (hm:X.mg x=some u) (h:Q u s)
  (hd:(x == ("__debug__":Str))=false:=by decide):wpAny (model X.prog X.w) X.A (eval (.Name x pos) X.env) Q E s :=
 Calls.Name_function_global I.ok.kind hg (Calls.loadGlobal_global (by rw [I.ok.glob]; exact I.mod.glob.keeps I.bk) hm h) hd
theorem gO {E:Value→Shared→Prop} {pins:List (Addr × Obj)} {s:Shared} {σ:St} {H:Hp} {x:Str} {u:Value} {pos:Pos} {Q:Value→Shared→Prop} (I:Inv X pins σ H s) (hg:Gl X x) (hm:X.mg x=none) (hv:bootBuiltins x=some u) (h:Q u s)
  (hn:x ≠ "__name__":=by decide) (hd:(x == ("__debug__":Str))=false:=by decide):wpAny (model X.prog X.w) X.A (eval (.Name x pos) X.env) Q E s:=by
 obtain ⟨mb,h1,h2⟩:=I.mod.blt
 exact Calls.Name_function_global I.ok.kind hg (Calls.loadGlobal_builtin (by rw [I.ok.glob]; exact I.mod.glob.keeps I.bk) hm (by rw [I.ok.blt]; exact h1.keeps I.bk) ((h2 x hn).trans hv) h) hd
theorem ye {x:Str} {v:V} {u:Value} {pos:Pos} (hg:Gl X x) (hm:X.mg x=some u) (r:bf v u) (hd:(x == ("__debug__":Str))=false:=by decide):PE X (.Name x pos) (tC v) :=
 fun _ _ _ H _ I h=>fX I hg hm ⟨v,H,I,r,h⟩ hd
theorem yB {x:Str} {v:V} {u:Value} {pos:Pos} (hg:Gl X x) (hm:X.mg x=none) (hv:bootBuiltins x=some u) (r:bf v u) (hn:x ≠ "__name__":=by decide) (hd:(x == ("__debug__":Str))=false:=by decide):PE X (.Name x pos) (tC v) :=
 fun _ _ _ H _ I h=>gO I hg hm hv ⟨v,H,I,r,h⟩ hn hd
variable {a b:Expr} {ta tb:TE} {pos:Pos}
def tB (t:TE):TT:=fun σ H Q=>t σ H fun x H1=>∃ c,x=.bl c∧Q c H1
theorem AX {e:Expr} {t:TE} (h:PE X e t) (he:∀ whole,isTrue e X.env whole=(do let v ← whole; standAt e.pos; holding [v] (truthy v)):=by intro _; rfl):PT X e (tB t):=by
 intro pins s σ H Q I hw
 refine isTrue_plain (thn (h pins s σ H _ I hw) fun v s1 ⟨x,H1,I1,r1,q1⟩=>?_) (he _)
 obtain ⟨d,rfl,q⟩:=q1
 cases r1
 exact wpAny_truthy_bool ⟨H1,I1,q⟩
variable {tA tB':TT} {rest:List Expr}
def DD (t u:TT):TT:=fun σ H Q=>t σ H fun c H1=>if c=true then u σ H1 Q else Q false H1
def tOr (t u:TT):TT:=fun σ H Q=>t σ H fun c H1=>if c=true then Q true H1 else u σ H1 Q
def Dt (t:TT):TT:=fun σ H Q=>t σ H fun c H1=>Q (!c) H1
theorem yA (ha:PT X a tA):PW X (.BoolOp .And [a] pos) tA:=by
 intro wh pins s σ H Q I h
 refine isTrue_and (thn (ha pins s σ H Q I h) fun c s1 e=>?_)
 cases c with
 | true=>exact isTrue_and_nil e
 | false=>exact e
theorem As (ha:PT X a tA):PW X (.BoolOp .Or [a] pos) tA:=by
 intro wh pins s σ H Q I h
 refine isTrue_or (thn (ha pins s σ H Q I h) fun c s1 e=>?_)
 cases c with
 | false=>exact isTrue_or_nil e
 | true=>exact e
theorem A9 (ha:PT X a tA) (hb:PW X (.BoolOp .And (b :: rest) pos) tB'):PW X (.BoolOp .And (a :: b :: rest) pos) (DD tA tB'):=by
 intro wh pins s σ H Q I h
 refine isTrue_and (thn (ha pins s σ H _ I h) fun c s1 ⟨H1,I1,q1⟩=>?_)
 cases c with
 | true=>exact hb wh pins s1 σ H1 Q I1 q1
 | false=>exact ⟨H1,I1,q1⟩
theorem Cm (ha:PT X a tA) (hb:PW X (.BoolOp .Or (b :: rest) pos) tB'):PW X (.BoolOp .Or (a :: b :: rest) pos) (tOr tA tB'):=by
 intro wh pins s σ H Q I h
 refine isTrue_or (thn (ha pins s σ H _ I h) fun c s1 ⟨H1,I1,q1⟩=>?_)
 cases c with
 | true=>exact ⟨H1,I1,q1⟩
 | false=>exact hb wh pins s1 σ H1 Q I1 q1
theorem A5 (ha:PT X a tA):PT X (.UnaryOp .Not a pos) (Dt tA):=by
 intro pins s σ H Q I h
 exact isTrue_not (ha pins s σ H (fun c H1=>Q (!c) H1) I h)
def Ci (ta tb:TE):TE:=fun σ H Q=>ta σ H fun x H1=>∃ c,x=.bl c∧if c=true then tb σ H1 Q else Q (.bl false) H1
def Du (ta tb:TE):TE:=fun σ H Q=>ta σ H fun x H1=>∃ c,x=.bl c∧if c=true then Q (.bl true) H1 else tb σ H1 Q
theorem AK {op} {t:TE} (h:PE X a t):PE X (.BoolOp op [a] pos) t:=fun pins s σ H Q I hw=>BoolOp_one (h pins s σ H Q I hw)
theorem A6 (ha:PE X a ta) (hb:PE X (.BoolOp .And (b :: rest) pos) tb):PE X (.BoolOp .And (a :: b :: rest) pos) (Ci ta tb):=by
 intro pins s σ H Q I h
 refine BoolOp_and (thn (ha pins s σ H _ I h) fun v s1 ⟨x,H1,I1,r1,q1⟩=>?_)
 obtain ⟨c,rfl,q1⟩:=q1
 cases r1
 refine wpAny_truthy_bool ?_
 cases c with
 | true=>exact hb pins s1 σ H1 Q I1 q1
 | false=>exact ⟨.bl false,H1,I1,rfl,q1⟩
theorem CV (ha:PE X a ta) (hb:PE X (.BoolOp .Or (b :: rest) pos) tb):PE X (.BoolOp .Or (a :: b :: rest) pos) (Du ta tb):=by
 intro pins s σ H Q I h
 refine BoolOp_or (thn (ha pins s σ H _ I h) fun v s1 ⟨x,H1,I1,r1,q1⟩=>?_)
 obtain ⟨c,rfl,q1⟩:=q1
 cases r1
 refine wpAny_truthy_bool ?_
 cases c with
 | false=>exact hb pins s1 σ H1 Q I1 q1
 | true=>exact ⟨.bl true,H1,I1,rfl,q1⟩
def tIf (t:TT) (ta tb:TE):TE:=fun σ H Q=>t σ H fun c H1=>if c=true then ta σ H1 Q else tb σ H1 Q
theorem vv {c:Expr} (hc:PT X c tA) (ha:PE X a ta) (hb:PE X b tb):PE X (.IfExp c a b pos) (tIf tA ta tb):=by
 intro pins s σ H Q I h
 refine wpAny_IfExp (thn (hc pins s σ H _ I h) fun d s1 ⟨H1,I1,q1⟩=>?_)
 cases d with
 | true=>exact ha pins s1 σ H1 Q I1 q1
 | false=>exact hb pins s1 σ H1 Q I1 q1
end
end L2
namespace L2
open PySem PySem.Spec PyProof.Rows
def SqL (K:PySem.W.Frag) (H:Hp) (a:Addr) (xs:List V):Prop :=
 Rd H a (.lst xs) ∨
  ∃ (o:Obj) (its:Array Value) (n:Nat),K.lookup a=some o∧o.cls=.type "list"∧o.dict=none∧o.data=.seq its n∧its.size≤sizeLine∧aU xs its.toList
def SqT (K:PySem.W.Frag) (H:Hp) (a:Addr) (xs:List V):Prop :=
 Rd H a (.tup xs) ∨
  ∃ (o:Obj) (its:Array Value) (n:Nat),K.lookup a=some o∧o.cls=.type "tuple"∧o.dict=none∧o.data=.seq its n∧its.size≤sizeLine∧aU xs its.toList
def Dj:Value→Option V
 | .none=>some .non
 | .bool b=>some (.bl b)
 | .int i _=>some (.int i)
 | .str x _=>some (.str x)
 | .bytes b _=>some (.byt b)
 | .float b _=>some (.flt b)
 | .ref a=>some (.ref a)
 | .type n=>some (.ty n)
 | _=>none
theorem bf.abs {x:V} {u:Value} (r:bf x u):Dj u=some x:=by
 cases x with
 | non=>cases r; rfl
 | bl _=>cases r; rfl
 | int _=>obtain ⟨t,rfl⟩:=r; rfl
 | str _=>obtain ⟨t,rfl⟩:=r; rfl
 | byt _=>obtain ⟨t,rfl⟩:=r; rfl
 | flt _=>obtain ⟨t,rfl⟩:=r; rfl
 | ref _=>cases r; rfl
 | ty _=>cases r; rfl
theorem bf.inj {x y:V} {u:Value} (r:bf x u) (q:bf y u):x=y:=Option.some.inj (r.abs.symm.trans q.abs)
theorem aU.inj:∀ {xs ys:List V} {us:List Value},aU xs us→aU ys us→xs=ys
 | _,_,_,.nil,.nil=>rfl
 | _,_,_,.cons r t,.cons r' t'=>by rw [r.inj r',aU.inj t t']
section
variable {X:Cx} {pins:List (Addr × Obj)} {σ:St} {H:Hp} {s:Shared} {a:Addr} {xs ys:List V}
theorem SqT.of {K:PySem.W.Frag} (h:H a=some (.tup xs)):SqT K H a xs:=.inl (.inl h)
theorem Inv.list (I:Inv X pins σ H s) (h:SqL X.K H a xs):∃ its:List Value,aU xs its∧PlainL s.heap a its.toArray∧xs.length≤sizeLine:=by
 rcases h with h | ⟨o,its,n,hk,hc,hd,hs,hz,r⟩
 ·obtain ⟨z,its,n,r,e⟩:=h.ok I.hok
  exact ⟨its,r,⟨_,n,e,rfl,rfl,rfl⟩,z⟩
 ·refine ⟨its.toList,r,⟨o,n,I.kIn a o hk,hc,hd,by simpa using hs⟩,?_⟩
  have e:=r.length
  simp only [Array.length_toList] at e
  omega
theorem Inv.tupleN (I:Inv X pins σ H s) (h:SqT X.K H a xs):∃ its:List Value,aU xs its∧mU s.heap a its.toArray∧xs.length≤sizeLine:=by
 rcases h with h | ⟨o,its,n,hk,hc,hd,hs,hz,r⟩
 ·obtain ⟨z,its,r,p⟩:=h.ok I.hok
  exact ⟨its,r,p,z⟩
 ·refine ⟨its.toList,r,⟨o,I.kIn a o hk,hc,⟨n,by simpa using hs⟩,hd⟩,?_⟩
  have e:=r.length
  simp only [Array.length_toList] at e
  omega
theorem Inv.tuple (I:Inv X pins σ H s) (h:SqT X.K H a xs):∃ its:List Value,aU xs its∧IsTup s.heap a its.toArray∧xs.length≤sizeLine:=by
 rcases h with h | ⟨o,its,n,hk,hc,hd,hs,hz,r⟩
 ·obtain ⟨z,its,r,p⟩:=h.ok I.hok
  exact ⟨its,r,p.is,z⟩
 ·refine ⟨its.toList,r,⟨o,I.kIn a o hk,hc,n,by simpa using hs⟩,?_⟩
  have e:=r.length
  simp only [Array.length_toList] at e
  omega
theorem Inv.list_inj (I:Inv X pins σ H s) (h:SqL X.K H a xs) (h':SqL X.K H a ys):xs=ys:=by
 obtain ⟨its,r,⟨o,n,e,_,_,d⟩,_⟩:=I.list h
 obtain ⟨its',r',⟨o',n',e',_,_,d'⟩,_⟩:=I.list h'
 rw [e] at e'; cases e'
 rw [d] at d'
 injection d' with d1 _
 have:its=its':=by simpa using congrArg Array.toList d1
 subst this
 exact r.inj r'
theorem Inv.tuple_inj (I:Inv X pins σ H s) (h:SqT X.K H a xs) (h':SqT X.K H a ys):xs=ys:=by
 obtain ⟨its,r,⟨o,e,_,n,d⟩,_⟩:=I.tuple h
 obtain ⟨its',r',⟨o',e',_,n',d'⟩,_⟩:=I.tuple h'
 rw [e] at e'; cases e'
 rw [d] at d'
 injection d' with d1 _
 have:its=its':=by simpa using congrArg Array.toList d1
 subst this
 exact r.inj r'
end
abbrev Cx.wish (X:Cx) (E:Value→Shared→Prop):Cx:={ X with xe:=E }
abbrev Cx.nox (X:Cx):Cx:=X.wish fun _ _=>False
theorem Cx.Ok.wish {X:Cx} (ok:X.Ok) (E:Value→Shared→Prop):(X.wish E).Ok :=
 ⟨ok.mod,ok.kind,ok.glob,ok.blt,ok.above,ok.inj,ok.has,ok.cab,ok.hd,ok.frames,ok.stk,ok.exf,ok.bs,ok.bsz,ok.noex,ok.exfs,ok.funs,ok.frf⟩
theorem Cx.Ok.unwish {X:Cx} {E:Value→Shared→Prop} (ok:(X.wish E).Ok):X.Ok :=
 ⟨ok.mod,ok.kind,ok.glob,ok.blt,ok.above,ok.inj,ok.has,ok.cab,ok.hd,ok.frames,ok.stk,ok.exf,ok.bs,ok.bsz,ok.noex,ok.exfs,ok.funs,ok.frf⟩
section
variable {X:Cx} {pins:List (Addr × Obj)} {σ:St} {H:Hp} {s:Shared} {E:Value→Shared→Prop}
theorem Inv.wish (I:Inv X pins σ H s) (E:Value→Shared→Prop):Inv (X.wish E) pins σ H s:=⟨I.ok.wish E,I.os,I.bare,I.base,I.loc,I.cell,I.free,I.freeC,I.pin,I.hok,I.len⟩
theorem Inv.unwish (I:Inv (X.wish E) pins σ H s):Inv X pins σ H s:=⟨I.ok.unwish,I.os,I.bare,I.base,I.loc,I.cell,I.free,I.freeC,I.pin,I.hok,I.len⟩
theorem SP.unwish {D:pq} {f:Flow} {s':Shared} (h:SP (X.wish E) pins D f s'):SP X pins D f s':=by
 cases f with
 | next=>obtain ⟨σ',H',I,q⟩:=h; exact ⟨σ',H',I.unwish,q⟩
 | brk=>obtain ⟨σ',H',I,q⟩:=h; exact ⟨σ',H',I.unwish,q⟩
 | cont=>obtain ⟨σ',H',I,q⟩:=h; exact ⟨σ',H',I.unwish,q⟩
 | ret u=>obtain ⟨v,σ',H',I,r,q⟩:=h; exact ⟨v,σ',H',I.unwish,r,q⟩
theorem PSs.nox {st:List Stmt} {t:TS} (h:PSs X.nox st t):PSs X st t:=fun pins s σ H D I hw =>
 wpAny_mono (h pins s σ H D (I.wish _) hw) (fun _ _ q=>q.unwish) fun _ _ z=>False.elim z
end
section
variable {X:Cx} {st:Stmt} {rest:List Stmt} {t u:TS} {e:Expr} {te:TE} {pos:Pos}
def CA:TS:=fun D σ H=>D.nx σ H
def Dh (t u:TS):TS:=fun D σ H=>t { D with nx:=u D } σ H
theorem yN:PSs X [] CA:=fun _ _ σ H _ I h=>wpAny_execs_nil ⟨σ,H,I,h⟩
theorem vp (h1:PS X st t) (h2:PSs X rest u):PSs X (st :: rest) (Dh t u):=by
 intro pins s σ H D I h
 refine wpAny_execs_cons (thn (h1 pins s σ H { D with nx:=u D } I h) fun f s1 q=>?_)
 cases f with
 | next =>
  obtain ⟨σ',H',I',q⟩:=q
  exact h2 pins s1 σ' H' D I' q
 | ret v=>exact q
 | brk=>exact q
 | cont=>exact q
theorem tD (h1:PS X st t):PSs X [st] t:=by
 intro pins s σ H D I h
 refine wpAny_execs_cons (thn (h1 pins s σ H D I h) fun f s1 q=>?_)
 cases f with
 | next=>exact wpAny_execs_nil q
 | ret v=>exact q
 | brk=>exact q
 | cont=>exact q
theorem Inv.quiet {pins:List (Addr × Obj)} {σ:St} {H:Hp} {s:Shared} (I:Inv X pins σ H s):interactive X.env=false:=by simp [interactive,I.ok.kind]
def CJ (te:TE):TS:=fun D σ H=>te σ H fun _ H1=>D.nx σ H1
theorem zF (he:PE X e te) (hs:swapsWith e none pos.line X.env=pure false:=by rfl):PS X (.Expr e pos) (CJ te):=by
 intro pins s σ H D I h
 exact wpAny_Expr_any (thn (he pins s σ H _ I h) fun v s1 ⟨x,H1,I1,r1,q1⟩=>⟨σ,H1,I1,q1⟩) I.quiet hs
def C8 (te:TE):TS:=fun D σ H=>te σ H D.rt
theorem AA (he:PE X e te):PS X (.Return (some e) pos) (C8 te):=by
 intro pins s σ H D I h
 exact wpAny_Return_some (thn (he pins s σ H _ I h) fun v s1 ⟨x,H1,I1,r1,q1⟩=>⟨x,σ,H1,I1,r1,q1⟩)
def Dl (c:TT) (t u:TS):TS:=fun D σ H=>c σ H fun b H1=>if b=true then t D σ H1 else u D σ H1
theorem C4 {c:Expr} {a b:List Stmt} {tc:TT} (hc:PT X c tc) (ha:PSs X a t) (hb:PSs X b u):PS X (.If c a b pos) (Dl tc t u):=by
 intro pins s σ H D I h
 refine wpAny_If (thn (hc pins s σ H _ I h) fun d s1 ⟨H1,I1,q1⟩=>?_)
 cases d with
 | true=>exact ha pins s1 σ H1 D I1 q1
 | false=>exact hb pins s1 σ H1 D I1 q1
def AD:TS:=fun _ _ _=>False
theorem vC:PS X st AD:=fun _ _ _ _ _ _ h=>h.elim
end
abbrev TG:=V→St→Hp→(St→Hp→Prop)→Prop
abbrev TGs:=List V→St→Hp→(St→Hp→Prop)→Prop
def PG (X:Cx) (target:Expr) (t:TG):Prop :=
 ∀ (pins:List (Addr × Obj)) (s:Shared) (σ:St) (H:Hp) (v:V) (u:Value) (Q:St→Hp→Prop),Inv X pins σ H s→bf v u→t v σ H Q →
  wpAny (model X.prog X.w) X.A (assign target X.env u) (fun _ s'=>∃ σ' H',Inv X pins σ' H' s'∧Q σ' H') X.xe s
def PGs (X:Cx) (ts:List Expr) (t:TGs):Prop :=
 ∀ (pins:List (Addr × Obj)) (s:Shared) (σ:St) (H:Hp) (vs:List V) (us:List Value) (Q:St→Hp→Prop),Inv X pins σ H s→aU vs us→t vs σ H Q →
  wpAny (model X.prog X.w) X.A (assignInOrder ((assignEach ts X.env).map (·.2)) us) (fun _ s'=>∃ σ' H',Inv X pins σ' H' s'∧Q σ' H') X.xe s
abbrev BD:=V→V→V→Hp→(Hp→Prop)→Prop
def Cd (X:Cx) (t:BD):Prop :=
 ∀ (pins:List (Addr × Obj)) (s:Shared) (σ:St) (H:Hp) (o i v:V) (ov iv u:Value) (Q:Hp→Prop),Inv X pins σ H s→bf o ov→bf i iv→bf v u→t o i v H Q →
  wpAny (model X.prog X.w) X.A (setItem ov iv u) (fun _ s'=>∃ H',Inv X pins σ H' s'∧Q H') X.xe s
section
variable {X:Cx} {pos:Pos}
def xF (i:Nat):TG:=fun v σ H Q=>Q (σ.set i (some v)) H
theorem yc {i:Nat} {x:Str} (hN:X.N.Nodup) (hi:X.N[i]?=some x) (hx:Loc X.env.scope x) (hf:X.fn x=true∨X.env.scope.names.lookup x=some .local:=by first | exact .inl rfl | exact .inr rfl | assumption):PG X (.Name x pos) (xF i):=by
 intro pins s σ H v u Q I r h
 exact wpAny_assign_Name (rq I hN hi hx r (fun s' I'=>⟨_,H,I',h⟩) hf)
def De:TGs:=fun vs σ H Q=>vs=[]∧Q σ H
def Cb (t:TG) (u:TGs):TGs:=fun vs σ H Q=>∃ v r,vs=v :: r∧t v σ H fun σ' H'=>u r σ' H' Q
theorem zt:PGs X [] De:=by
 intro pins s σ H vs us Q I r h
 obtain ⟨e,h⟩:=h
 subst e
 cases r
 exact assignInOrder_nil ⟨σ,H,I,h⟩
theorem wt {e:Expr} {es:List Expr} {t:TG} {u:TGs} (h1:PG X e t) (h2:PGs X es u)
  (hs:(assignEach (e :: es) X.env).map (·.2)=assign e X.env :: (assignEach es X.env).map (·.2):=by rfl):PGs X (e :: es) (Cb t u):=by
 intro pins s σ H vs us Q I r h
 obtain ⟨v,vr,e1,h⟩:=h
 subst e1
 cases r with
 | cons r rr =>
  rw [hs]
  refine assignInOrder_cons (thn (h1 pins s σ H _ _ _ I r h) fun _ s1 ⟨σ1,H1,I1,q1⟩=>?_)
  exact h2 pins s1 σ1 H1 _ _ Q I1 rr q1
def Dq (K:PySem.W.Frag) (n:Nat) (t:TGs):TG:=fun v σ H Q=>∃ a xs,v=.ref a∧SqT K H a xs∧xs.length=n∧t xs σ H Q
theorem Bs {es:List Expr} {k:Nat} {t:TGs} {n:Nat} (hc:X.calm=true) (h:PGs X es t)
  (hn:(assignEach es X.env).length=n:=by rfl) (hst:(assignEach es X.env).findIdx? (·.1)=none:=by rfl):PG X (.Tuple es k pos) (Dq X.K n t):=by
 intro pins s σ H v u Q I r hw
 obtain ⟨a,xs,e1,hq,hl,hw⟩:=hw
 subst e1
 cases r
 obtain ⟨its,rv,ht,hz⟩:=I.tuple hq
 refine assign_Tuple_tuple (I.ok.hd hc) ht (by simp [hn,← hl,rv.length]) hst fun h' hx=>?_
 have I1:Inv X pins σ H { s with heap:=h' }:=I.kept (t':=s.toks) fun b o e=>hx b o (Nat.ne_of_lt (Heap.lt_size e)) e
 exact h pins _ σ H xs _ Q I1 (by simpa using rv) hw
def Dp (to ti:TE) (t:BD):TG:=fun v σ H Q=>to σ H fun o H1=>ti σ H1 fun i H2=>t o i v H2 fun H3=>Q σ H3
theorem A8 {o i:Expr} {to ti:TE} {t:BD} (ho:PE X o to) (hi:PE X i ti) (hs:Cd X t)
  (ha:∀ v,assign (.Subscript o i pos) X.env v=(do
   let ov ← holding [v] (eval o X.env)
   let iv ← holding [v,ov] (eval i X.env)
   standAt pos
   holding [v,ov,iv] (setItem ov iv v)
   release [v,ov,iv] []):=by intro _; rfl):PG X (.Subscript o i pos) (Dp to ti t):=by
 intro pins s σ H v u Q I r h
 rw [ha]
 refine wpAny_bind (wpAny_holding (thn (ho pins s σ H _ I h) fun ov s1 ⟨x,H1,I1,r1,q1⟩=>?_))
 refine wpAny_bind (wpAny_holding (thn (hi pins s1 σ H1 _ I1 q1) fun iv s2 ⟨y,H2,I2,r2,q2⟩=>?_))
 refine wpAny_bind (wpAny_standAt (wpAny_bind (wpAny_holding (thn (hs pins s2 σ H2 x y v ov iv u _ I2 r1 r2 r q2) fun _ s3 ⟨H3,I3,q3⟩=>?_))))
 exact wpAny_release ⟨σ,H3,I3,q3⟩
def Bb (te:TE) (g:TG):TS:=fun D σ H=>te σ H fun x H1=>g x σ H1 D.nx
theorem BC {tg e:Expr} {te:TE} {g:TG} (he:PE X e te) (hg:PG X tg g) (hs:swapsWithSole [tg] e pos.line X.env=pure false:=by rfl) (hw:swappedStores [tg] e X.env=pure none:=by rfl)
  (h1:(assignEach [tg] X.env).map (·.2)=[assign tg X.env]:=by rfl):PS X (.Assign [tg] e pos) (Bb te g):=by
 intro pins s σ H D I h
 refine wpAny_Assign_stores (thn (he pins s σ H _ I h) fun v s1 ⟨x,H1,I1,r1,q1⟩=>?_) hs hw
 rw [h1]
 exact thn (hg pins s1 σ H1 x v _ I1 r1 q1) fun _ s2 q=>q
theorem BB {i:Nat} {x:Str} {e:Expr} {te:TE} {pos':Pos} (hN:X.N.Nodup) (hi:X.N[i]?=some x) (hx:Loc X.env.scope x) (he:PE X e te) (hs:swapsWith e (some (.Name x pos')) pos.line X.env=pure false:=by rfl) (hf:X.fn x=true∨X.env.scope.names.lookup x=some .local:=by first | exact .inl rfl | exact .inr rfl | assumption) :
  PS X (.Assign [.Name x pos'] e pos) (Bb te (xF i)):=by
 intro pins s σ H D I h
 refine wpAny_Assign_Name (thn (he pins s σ H _ I h) fun v s1 ⟨y,H1,I1,r1,q1⟩=>?_) hs
 exact rq I1 hN hi hx r1 (fun s2 I2=>⟨_,H1,I2,q1⟩) hf
end
section
variable {X:Cx} {pos:Pos}
def AQ (c:TT) (tb:TS):TS:=fun D σ H=>∃ W:Nat→St→Hp→Prop,(∃ m,W m σ H)∧∀ m σ H,W m σ H →
 c σ H fun b H1=>if b=true then ∃ N:St→Hp→Prop,(∀ σ' H',N σ' H'→∃ m',m' < m∧W m' σ' H')∧tb { D with nx:=N,ct:=N,bk:=D.nx } σ H1 else D.nx σ H1
theorem wT {c:Expr} {body:List Stmt} {tc:TT} {tb:TS} (hp:PassesOwn (model X.prog X.w) X.A X.env X.xe) (hc:PT X c tc) (hb:PSs X body tb):PS X (.While c body [] pos) (AQ tc tb):=by
 intro pins s σ H D I h
 obtain ⟨W,⟨m0,w0⟩,turn⟩:=h
 refine wpAny_While (codeAny_whileLoop (fun n s'=>∃ σ' H',Inv X pins σ' H' s'∧W n σ' H') ?_ m0 ⟨σ,H,I,w0⟩)
 rintro n s1 ⟨σ1,H1,I1,w1⟩
 refine wpAny_passesOwn hp (thn (hc pins s1 σ1 H1 _ I1 (turn n σ1 H1 w1)) fun b s2 ⟨H2,I2,q2⟩=>?_)
 cases b with
 | true =>
  obtain ⟨N,hN,q2⟩:=q2
  rw [if_pos rfl]
  refine wpAny_passesOwn hp (thn (hb pins s2 σ1 H2 _ I2 q2) fun f s3 q3=>?_)
  cases f with
  | next =>
   obtain ⟨σ3,H3,I3,n3⟩:=q3
   obtain ⟨m',hm,w3⟩:=hN σ3 H3 n3
   exact ⟨m',hm,σ3,H3,I3,w3⟩
  | cont =>
   obtain ⟨σ3,H3,I3,n3⟩:=q3
   obtain ⟨m',hm,w3⟩:=hN σ3 H3 n3
   exact ⟨m',hm,σ3,H3,I3,w3⟩
  | brk=>exact q3
  | ret v=>exact q3
 | false =>
  rw [if_neg Bool.false_ne_true]
  exact wpAny_execs_nil ⟨σ1,H2,I2,q2⟩
end
structure It where
 go:Nat→Hp→Prop
 yld:Nat→Hp→V→Hp→Prop
 stop:Nat→Hp→Prop
def mf (X:Cx) (pins:List (Addr × Obj)) (H:Hp) (b:Addr):Prop :=
 H b=none∧b ≠ X.env.locals∧b ∉ X.fs∧(b∈X.ex∨X.s₀.heap.objs.size≤b)∧(∀ x c,X.env.cells.lookup x=some c→c ≠ b)∧∀ p∈X.pn ++ pins,p.1 ≠ b
theorem Inv.fpOk {X:Cx} {pins:List (Addr × Obj)} {σ:St} {H H':Hp} {s:Shared} {b:Addr} (I:Inv X pins σ H s) (hb:s.heap.objs.size≤b) (hn:H' b=none):mf X pins H' b:=by
 refine ⟨hn,Nat.ne_of_gt (Nat.lt_of_lt_of_le I.lt hb),I.nofs hb,.inr (Nat.le_trans I.sz hb),fun x c e z=>?_,fun p hp z=>?_⟩
 ·obtain ⟨v,q⟩:=I.cell x c e
  exact absurd (Nat.lt_of_lt_of_le q.lt (by rw [z]; exact hb)) (Nat.lt_irrefl _)
 ·exact absurd (Nat.lt_of_lt_of_le (Heap.lt_size (I.pin p hp).1) (by rw [z]; exact hb)) (Nat.lt_irrefl _)
structure rE (P:Program) (w:World) (K:PySem.W.Frag) (tg:Expr) (J:It) (fp:List Addr) (it:Addr) (tn:Nat→Heap→Prop):Prop where
 mem:it∈fp
 obj:∀ i h,tn i h→∀ b∈fp,∃ o,h.get? b=some o∧∀ v,o.data ≠ .cell v
 keep:∀ i h h',tn i h→(∀ b∈fp,∀ o,h.get? b=some o→h'.get? b=some o)→tn i h'
 item:∀ (X:Cx),X.prog=P→X.w=w→X.K=K→X.calm=true→∀ (i:Nat) (pins:List (Addr × Obj)) (s:Shared) (σ:St) (H:Hp) (E:Value→Shared→Prop),Inv X pins σ H s→(∀ b∈fp,mf X pins H b)→tn i s.heap→J.go i H →
  wpAny (model P w) X.A (pyNext (.ref it)) (fun r s1=>∃ u,r=some u ∧
   wpAny (model P w) X.A (letOwnedTupleGo tg (.ref it) u) (fun _ s2=>∃ x H',Inv X pins σ H' s2∧bf x u∧J.yld i H x H'∧tn (i + 1) s2.heap∧∀ b∈fp,H' b=none) E s1) E s
 done:∀ (X:Cx),X.prog=P→X.w=w→X.K=K→X.calm=true→∀ (i:Nat) (pins:List (Addr × Obj)) (s:Shared) (σ:St) (H:Hp) (E:Value→Shared→Prop),Inv X pins σ H s→(∀ b∈fp,mf X pins H b)→tn i s.heap→J.stop i H →
  wpAny (model P w) X.A (pyNext (.ref it)) (fun r s1=>r=none∧Inv X pins σ H s1) E s
 self:∀ (A:Around) (i:Nat) (s:Shared) (Q:Value→Shared→Prop) (E:Value→Shared→Prop),tn i s.heap→Q (.ref it) s→wpAny (model P w) A (pyIter (.ref it)) Q E s
abbrev TI:=St→Hp→(It→Hp→Prop)→Prop
def PIE (X:Cx) (pins:List (Addr × Obj)) (σ:St) (tg:Expr) (R:It→Hp→Prop) (itv:Value) (s2:Shared):Prop :=
 ∃ (it:Addr) (fp:List Addr) (tn:Nat→Heap→Prop) (J:It) (H':Hp),itv=.ref it∧Inv X pins σ H' s2∧rE X.prog X.w X.K tg J fp it tn∧tn 0 s2.heap∧(∀ b∈fp,mf X pins H' b)∧R J H'
def PI (X:Cx) (tg iter:Expr) (wi:TI):Prop :=
 ∀ (pins:List (Addr × Obj)) (s:Shared) (σ:St) (H:Hp) (R:It→Hp→Prop),Inv X pins σ H s→wi σ H R →
  wpAny (model X.prog X.w) X.A (eval iter X.env) (fun v s1=>wpAny (model X.prog X.w) X.A (pyIter v) (PIE X pins σ tg R) X.xe s1) X.xe s
theorem ua {M:Model} {A:Around} {E:Value→Shared→Prop} {s:Shared} {tg:Expr} {it:Addr} {u:Value} {o:Obj} {n:String} {vs:Array Value} {Q:Unit→Shared→Prop} (ho:s.heap.get? it=some o) (hc:o.cls=.type n) (hd:o.data=.fields vs)
    (hn:["enumerate","zip","dict_itemiterator","dict_reverseitemiterator","odict_iterator","itertools.zip_longest","itertools.pairwise"].contains n=false) (hQ:Q () s):wpAny M A (letOwnedTupleGo tg (.ref it) u) Q E s:=by
  unfold letOwnedTupleGo
  cases tg <;> first
    | exact wpAny_pure hQ
    | (cases u <;> first
        | exact wpAny_pure hQ
        | (refine wpAny_bind (wpAny_load ho ?_)
           rw [hc,hd]
           show wpAny M A (if (["enumerate","zip","dict_itemiterator","dict_reverseitemiterator","odict_iterator","itertools.zip_longest","itertools.pairwise"].contains n && vs[0]? == some (rawInt _))=true then _ else _) Q E s
           rw [if_neg (by intro h; rw [hn,Bool.false_and] at h; cases h)]
           exact wpAny_pure hQ))
def Itl (K:PySem.W.Frag) (a:Addr):It :=
 ⟨fun i H=>∃ xs x,SqL K H a xs∧xs[i]?=some x,fun i H x H'=>H'=H∧∀ xs,SqL K H a xs→xs[i]?=some x,fun i H=>∃ xs,SqL K H a xs∧xs.length≤i⟩
def Itt (K:PySem.W.Frag) (a:Addr):It :=
 ⟨fun i H=>∃ xs x,SqT K H a xs∧xs[i]?=some x,fun i H x H'=>H'=H∧∀ xs,SqT K H a xs→xs[i]?=some x,fun i H=>∃ xs,SqT K H a xs∧xs.length≤i⟩
def Itr (lo:Int) (n:Nat):It:=⟨fun i _=>i < n,fun i H x H'=>H'=H∧x=.int (lo + i),fun i _=>n≤i⟩
theorem ve {P:Program} {w:World} {K:PySem.W.Frag} {tg:Expr} (a it:Addr):rE P w K tg (Itl K a) [it] it (fun i h=>h.IsListIter it a i) where
 mem:=by simp
 obj:=fun i h st b hb=>by
  have e:b=it:=by simpa using hb
  subst e
  obtain ⟨o,e,c,d⟩:=st
  exact ⟨o,e,fun v z=>by rw [d] at z; cases z⟩
 keep:=fun i h h' st k=>st.at fun o e=>k it (by simp) o e
 item:=by
  intro X hP hw hK hc i pins s σ H E I hf st hg
  subst hP hw hK
  obtain ⟨xs,x,hq,hx⟩:=hg
  obtain ⟨its,rv,p,hz⟩:=I.list hq
  obtain ⟨u,hu,ru⟩:=rv.get hx
  obtain ⟨f0,f1,f2,f3,f4,f5⟩:=hf it (by simp)
  refine wpAny_pyNext_list_item st p.isList (x:=u) (by simpa using hu) fun h' st' sb=>?_
  have I1:Inv X pins σ H { s with heap:=h' }:=I.turned (t':=s.toks) (fun b o hb e=>(sb.2 b hb).trans e) f0 f1 f3 f4 f5
  obtain ⟨o,e,c,d⟩:=id st'
  exact ⟨u,rfl,ua (s:={ s with heap:=h' }) e c d (by decide) ⟨x,H,I1,ru,⟨rfl,fun ys hy=>by rw [I.list_inj hy hq]; exact hx⟩,st',fun b hb=>(hf b hb).1⟩⟩
 done:=by
  intro X hP hw hK hc i pins s σ H E I hf st hg
  subst hP hw hK
  obtain ⟨xs,hq,hx⟩:=hg
  obtain ⟨its,rv,p,hz⟩:=I.list hq
  obtain ⟨f0,f1,f2,f3,f4,f5⟩:=hf it (by simp)
  have hl:=rv.length
  exact wpAny_pyNext_list_end (I.ok.hd hc) st p.isList (by simp; omega) fun h' eb=>⟨rfl,I.turned (t':=s.toks) (fun b o hb e=>eb b o hb e) f0 f1 f3 f4 f5⟩
 self:=fun _ _ _ _ _ st h=>wpAny_pyIter_listiter st h
theorem sJ {P:Program} {w:World} {K:PySem.W.Frag} {tg:Expr} (a it:Addr):rE P w K tg (Itt K a) [it] it (fun i h=>h.IsTupleIter it a i) where
 mem:=by simp
 obj:=fun i h st b hb=>by
  have e:b=it:=by simpa using hb
  subst e
  obtain ⟨o,e,c,d⟩:=st
  exact ⟨o,e,fun v z=>by rw [d] at z; cases z⟩
 keep:=fun i h h' st k=>st.at fun o e=>k it (by simp) o e
 item:=by
  intro X hP hw hK hc i pins s σ H E I hf st hg
  subst hP hw hK
  obtain ⟨xs,x,hq,hx⟩:=hg
  obtain ⟨its,rv,p,hz⟩:=I.tuple hq
  obtain ⟨u,hu,ru⟩:=rv.get hx
  obtain ⟨f0,f1,f2,f3,f4,f5⟩:=hf it (by simp)
  refine wpAny_pyNext_tuple_item st (show s.heap.IsTuple a its.toArray from p) (x:=u) (by simpa using hu) fun h' st' sb=>?_
  have I1:Inv X pins σ H { s with heap:=h' }:=I.turned (t':=s.toks) (fun b o hb e=>(sb.2 b hb).trans e) f0 f1 f3 f4 f5
  obtain ⟨o,e,c,d⟩:=id st'
  exact ⟨u,rfl,ua (s:={ s with heap:=h' }) e c d (by decide) ⟨x,H,I1,ru,⟨rfl,fun ys hy=>by rw [I.tuple_inj hy hq]; exact hx⟩,st',fun b hb=>(hf b hb).1⟩⟩
 done:=by
  intro X hP hw hK hc i pins s σ H E I hf st hg
  subst hP hw hK
  obtain ⟨xs,hq,hx⟩:=hg
  obtain ⟨its,rv,p,hz⟩:=I.tuple hq
  obtain ⟨f0,f1,f2,f3,f4,f5⟩:=hf it (by simp)
  have hl:=rv.length
  exact wpAny_pyNext_tuple_end (I.ok.hd hc) st (show s.heap.IsTuple a its.toArray from p) (by simp; omega) fun h' eb=>⟨rfl,I.turned (t':=s.toks) (fun b o hb e=>eb b o hb e) f0 f1 f3 f4 f5⟩
 self:=fun _ _ _ _ _ st h=>wpAny_pyIter_tupleiter st h
theorem rD {P:Program} {w:World} {K:PySem.W.Frag} {tg:Expr} (it:Addr) (lo:Int) (n:Nat):rE P w K tg (Itr lo n) [it] it (fun i h=>IsRangeIter h it (lo + (i:Nat) * 1) ((n:Int) - (i:Nat)) 1) where
 mem:=by simp
 obj:=fun i h st b hb=>by
  have e:b=it:=by simpa using hb
  subst e
  exact ⟨_,st,fun v z=>by
   have z':Data.fields _=Data.cell v:=z
   cases z'⟩
 keep:=fun i h h' st k=>k it (by simp) _ st
 item:=by
  intro X hP hw hK hc i pins s σ H E I hf st hg
  subst hP hw hK
  obtain ⟨f0,f1,f2,f3,f4,f5⟩:=hf it (by simp)
  have W:=Walks.range (prog:=X.prog) (w:=X.w) (I.ok.hd hc) it lo 1 n
  refine W.item i s _ _ hg st fun v h' tk hv st' kk=>?_
  obtain ⟨t,rfl⟩:=hv
  have I1:Inv X pins σ H { s with heap:=h',toks:=tk }:=I.turned (fun b o hb e=>kk b o (by simpa using hb) e) f0 f1 f3 f4 f5
  refine ⟨_,rfl,ua (s:={ s with heap:=h',toks:=tk }) (n:="range_iterator") st' rfl rfl (by decide) ⟨.int (lo + i),H,I1,⟨t,?_⟩,⟨rfl,rfl⟩,st',fun b hb=>(hf b hb).1⟩⟩
  rw [Int.mul_one]
 done:=by
  intro X hP hw hK hc i pins s σ H E I hf st hg
  subst hP hw hK
  obtain ⟨f0,f1,f2,f3,f4,f5⟩:=hf it (by simp)
  exact wpAny_pyNext_range_end (I.ok.hd hc) st (by have:n≤i:=hg; omega) fun h' eb=>⟨rfl,I.turned (t':=s.toks) (fun b o hb e=>eb b o hb e) f0 f1 f3 f4 f5⟩
 self:=fun _ _ _ _ _ st h=>wpAny_pyIter_rangeiter st h
end L2
namespace L2
open PySem PySem.Spec PyProof.Rows
section
variable {X:Cx} {tg:Expr}
theorem vo {pins:List (Addr × Obj)} {σ:St} {H:Hp} {s:Shared} {R:It→Hp→Prop} {E:Value→Shared→Prop} {lo hi:Int} {t u v:Tok} {tk:Nat} (I:Inv X pins σ H s) (h1:-(2 ^ 62)≤lo) (h2:lo < 2 ^ 62) (h3:-(2 ^ 62)≤hi) (h4:hi < 2 ^ 62)
  (q:R (Itr lo (hi - lo).toNat) H):wpAny (model X.prog X.w) X.A (pyIter (.ref s.heap.objs.size)) (PIE X pins σ tg R) E { s with heap:=s.heap.push { cls:=.type "range",data:=.fields #[.int lo t,.int hi u,.int 1 v] },toks:=tk }:=by
 refine wpAny_pyIter_range (IsRange.new ..) (small_one h1 h2 h3 h4) ?_
 have I1:Inv X pins σ H { s with heap:=s.heap.push { cls:=.type "range",data:=.fields #[.int lo t,.int hi u,.int 1 v] },toks:=tk }:=I.kept fun b o e=>Heap.get?_push_of_some _ e
 refine ⟨(s.heap.push { cls:=.type "range",data:=.fields #[.int lo t,.int hi u,.int 1 v] }).objs.size,[(s.heap.push { cls:=.type "range",data:=.fields #[.int lo t,.int hi u,.int 1 v] }).objs.size],_,_,H,rfl,
  I1.kept (t':=tk) fun b o e=>Heap.get?_push_of_some _ e,rD _ lo (hi - lo).toNat,?_,fun b hb=>?_,q⟩
 ·have e1:lo + ((0:Nat):Int) * 1=lo:=by simp
  have e2:(((hi - lo).toNat:Nat):Int) - ((0:Nat):Int)=Builtin.Range.rangeSize lo hi 1:=by rw [rangeSize_one]; split <;> omega
  show IsRangeIter _ _ (lo + ((0:Nat):Int) * 1) ((((hi - lo).toNat:Nat):Int) - ((0:Nat):Int)) 1
  rw [e1,e2]
  exact Heap.get?_push_size _ rfl
 ·have e:b=(s.heap.push { cls:=.type "range",data:=.fields #[.int lo t,.int hi u,.int 1 v] }).objs.size:=by simpa using hb
  subst e
  exact I1.fpOk (Nat.le_refl _) (I1.hok.fresh (Nat.le_refl _))
def B0 (ta:TA):TI:=fun σ H R=>ta σ H fun vs H1=>∃ j:Int,vs=[.int j]∧-(2 ^ 62)≤j∧j < 2 ^ 62∧R (Itr 0 j.toNat) H1
theorem uX {a:Expr} {ta:TA} {p pos:Pos} (hg:Gl X "range") (hm:X.mg "range"=none) (ha:PA X [a] ta) (hs:starEach [a] X.env=[(false,eval a X.env)]:=by rfl):PI X tg (.Call (.Name "range" p) [a] [] pos) (B0 ta):=by
 intro pins s σ H R I h
 refine Call_ (gO I hg hm boot_range (PyProof.Rows.callWith_type1 (thn (ha pos pins s σ H _ I h) fun us s1 ⟨vs,H1,I1,r1,q1⟩=>?_) hs rfl))
 obtain ⟨j,e,q1,q2,q⟩:=q1
 subst e
 cases r1 with
 | cons r rr =>
  cases rr
  obtain ⟨t,rfl⟩:=r
  exact call_range_1 (vo I1 (by omega) (by omega) q1 q2 (by simpa using q))
def Di (wi:TI) (g:TG) (tb:TS):TS:=fun D σ H=>wi σ H fun J H1=>∃ W:Nat→Nat→St→Hp→Prop,(∃ m,W 0 m σ H1)∧∀ i m σ H,W i m σ H →
 (J.stop i H∧D.nx σ H)∨(J.go i H∧∃ N:St→Hp→Prop,(∀ σ' H',N σ' H'→∃ m',m' < m∧W (i + 1) m' σ' H')∧∀ x H',J.yld i H x H'→g x σ H' fun σ2 H2=>tb { D with nx:=N,ct:=N,bk:=D.nx } σ2 H2)
def lh (fp:List Addr) (h:Heap):List (Addr × Obj):=fp.filterMap fun b=>(h.get? b).map fun o=>(b,o)
theorem eE {fp:List Addr} {h:Heap} {b:Addr} {o:Obj} (hb:b∈fp) (e:h.get? b=some o):(b,o)∈lh fp h:=List.mem_filterMap.mpr ⟨b,hb,by rw [e]; rfl⟩
theorem vd {fp:List Addr} {h:Heap} {p:Addr × Obj} (hp:p∈lh fp h):p.1∈fp∧h.get? p.1=some p.2:=by
 obtain ⟨b,hb,e⟩:=List.mem_filterMap.mp hp
 cases q:h.get? b with
 | none=>rw [q] at e; cases e
 | some o =>
  rw [q] at e
  have e':(b,o)=p:=Option.some.inj e
  subst e'
  exact ⟨hb,q⟩
theorem Inv.pinned {pins:List (Addr × Obj)} {σ:St} {H:Hp} {s:Shared} {fp:List Addr} (I:Inv X pins σ H s) (hf:∀ b∈fp,mf X pins H b) (ho:∀ b∈fp,∃ o,s.heap.get? b=some o∧∀ v,o.data ≠ .cell v):Inv X (pins ++ lh fp s.heap) σ H s :=
 I.pins_of fun p hp=>(List.mem_append.mp hp).elim (fun z=>I.pin p (List.mem_append_right _ z)) fun z=>by
  obtain ⟨hb,e⟩:=vd z
  obtain ⟨f0,f1,f2,_⟩:=hf p.1 hb
  obtain ⟨o,e',d⟩:=ho p.1 hb
  rw [e] at e'; cases e'
  exact ⟨e,f0,f1,f2,d⟩
theorem Inv.unpinned {pins pl:List (Addr × Obj)} {σ:St} {H:Hp} {s:Shared} (I:Inv X (pins ++ pl) σ H s):Inv X pins σ H s:=I.pins_of fun p hp=>I.pin p (List.mem_append_right _ (List.mem_append_left _ hp))
theorem Bj {iter:Expr} {body:List Stmt} {wi:TI} {g:TG} {tb:TS} {pos:Pos} (hp:PassesOwn (model X.prog X.w) X.A X.env X.xe) (hc:X.calm=true) (hi:PI X tg iter wi) (hg:PG X tg g) (hb:PSs X body tb)
  (hs:∀ x,foldedSetIterable iter X.env x=pure x:=by intro _; rfl):PS X (.For tg iter body [] pos) (Di wi g tb):=by
 intro pins s σ H D I h
 refine wpAny_For (thn (hi pins s σ H _ I h) fun v s1 h1=>thn h1 fun itv s2 h2=>?_) hs
 obtain ⟨it,fp,tn,J,H2,e,I2,T,st2,f2,W,⟨m0,w0⟩,turn⟩:=h2
 subst e
 have stat:∀ {H':Hp},(∀ b∈fp,H' b=none)→∀ b∈fp,mf X pins H' b:=fun hn b hb=>⟨hn b hb,(f2 b hb).2⟩
 refine codeAny_forLoop_any (fun n s'=>∃ i σ' H',Inv X pins σ' H' s'∧tn i s'.heap∧(∀ b∈fp,H' b=none)∧W i n σ' H') ?_ m0 ⟨0,σ,H2,I2,st2,fun b hb=>(f2 b hb).1,w0⟩
 rintro n s3 ⟨i,σ3,H3,I3,st3,fr3,w3⟩
 rcases turn i n σ3 H3 w3 with ⟨stop,qn⟩ | ⟨go,N,hN,step⟩
 ·refine wpAny_passesOwn hp (thn (T.done X rfl rfl rfl hc i pins s3 σ3 H3 X.xe I3 (stat fr3) st3 stop) fun r s4 ⟨hr,I4⟩=>?_)
  subst hr
  exact wpAny_execs_nil ⟨σ3,H3,I4,qn⟩
 ·refine wpAny_passesOwn hp (thn (T.item X rfl rfl rfl hc i pins s3 σ3 H3 X.xe I3 (stat fr3) st3 go) fun r s4 ⟨u,hr,h4⟩=>?_)
  subst hr
  refine wpAny_passesOwn hp (thn h4 fun _ s5 ⟨x,H5,I5,r5,y5,st5,fr5⟩=>?_)
  have I5':=I5.pinned (stat fr5) (T.obj _ _ st5)
  refine wpAny_passesOwn hp (thn (hg _ s5 σ3 H5 x u _ I5' r5 (step x H5 y5)) fun _ s6 ⟨σ6,H6,I6,q6⟩=>?_)
  refine wpAny_passesOwn hp (thn (hb _ s6 σ6 H6 _ I6 q6) fun f s7 q7=>?_)
  have again:∀ {σ7:St} {H7:Hp},Inv X (pins ++ lh fp s5.heap) σ7 H7 s7→N σ7 H7→∃ m,m < n∧∃ i σ' H',Inv X pins σ' H' s7∧tn i s7.heap∧(∀ b∈fp,H' b=none)∧W i m σ' H':=fun {σ7 H7} I7 n7=>by
   obtain ⟨m',hm,w7⟩:=hN σ7 H7 n7
   refine ⟨m',hm,i + 1,σ7,H7,I7.unpinned,T.keep _ _ _ st5 fun b hb o e=>(I7.pin (b,o) (List.mem_append_right _ (List.mem_append_right _ (eE hb e)))).1,fun b hb=>?_,w7⟩
   obtain ⟨o,e,d⟩:=T.obj _ _ st5 b hb
   exact (I7.pin (b,o) (List.mem_append_right _ (List.mem_append_right _ (eE hb e)))).2.1
  cases f with
  | next=>obtain ⟨σ7,H7,I7,n7⟩:=q7; exact again I7 n7
  | cont=>obtain ⟨σ7,H7,I7,n7⟩:=q7; exact again I7 n7
  | brk=>obtain ⟨σ7,H7,I7,q7⟩:=q7; exact ⟨σ7,H7,I7.unpinned,q7⟩
  | ret v=>obtain ⟨x7,σ7,H7,I7,r7,q7⟩:=q7; exact ⟨x7,σ7,H7,I7.unpinned,r7,q7⟩
end
end L2
namespace L2
open PySem PySem.Spec PyProof.Rows
abbrev R2:=V→V→Hp→VK→Prop
def OpR (X:Cx) (f:Value→Value→Sem Value) (r:R2):Prop :=
 ∀ (pins:List (Addr × Obj)) (s:Shared) (σ:St) (H:Hp) (x y:V) (v u:Value) (Q:VK),Inv X pins σ H s→bf x v→bf y u→r x y H Q →
  wpAny (model X.prog X.w) X.A (f v u) (EP X pins σ Q) X.xe s
def UnR (X:Cx) (f:Value→Sem Value) (r:V→Hp→VK→Prop):Prop :=
 ∀ (pins:List (Addr × Obj)) (s:Shared) (σ:St) (H:Hp) (x:V) (v:Value) (Q:VK),Inv X pins σ H s→bf x v→r x H Q →
  wpAny (model X.prog X.w) X.A (f v) (EP X pins σ Q) X.xe s
def jh (X:Cx) (f:Value) (r:List V→Hp→VK→Prop):Prop :=
 ∀ (pins:List (Addr × Obj)) (s:Shared) (σ:St) (H:Hp) (xs:List V) (us:List Value) (Q:VK),Inv X pins σ H s→aU xs us→r xs H Q →
  wpAny (model X.prog X.w) X.A (call f us) (EP X pins σ Q) X.xe s
def tOp (r:R2) (ta tb:TE):TE:=fun σ H Q=>ta σ H fun x H1=>tb σ H1 fun y H2=>r x y H2 Q
def tUn (r:V→Hp→VK→Prop) (ta:TE):TE:=fun σ H Q=>ta σ H fun x H1=>r x H1 Q
def rI (C:Int→Int→Prop) (g:Int→Int→V):R2:=fun x y H Q=>∃ i j,x=.int i∧y=.int j∧C i j∧Q (g i j) H
def rI0 (g:Int→Int→V):R2:=fun x y H Q=>∃ i j,x=.int i∧y=.int j∧Q (g i j) H
def rU (g:Int→V):V→Hp→VK→Prop:=fun x H Q=>∃ i,x=.int i∧Q (g i) H
section
variable {X:Cx} {a b c:Expr} {ta tb tc:TE} {pos:Pos}
theorem Aq (ha:PE X a ta) (hb:PE X b tb) {pins:List (Addr × Obj)} {s:Shared} {σ:St} {H:Hp} {R:V→V→Hp→Prop} (I:Inv X pins σ H s)
  (h:ta σ H fun x H1=>tb σ H1 fun y H2=>R x y H2) {Q:Value→Shared→Prop} {f:Value→Value→Sem Value}
  (hf:∀ v u s2 x y H2,Inv X pins σ H2 s2→bf x v→bf y u→R x y H2→wpAny (model X.prog X.w) X.A (f v u) Q X.xe s2) :
  wpAny (model X.prog X.w) X.A (eval a X.env) (fun v s₁=>wpAny (model X.prog X.w) X.A (eval b X.env) (fun u s₂=>wpAny (model X.prog X.w) X.A (f v u) Q X.xe s₂) X.xe s₁) X.xe s:=by
 refine thn (ha pins s σ H _ I h) fun v s1 ⟨x,H1,I1,r1,q1⟩=>?_
 refine thn (hb pins s1 σ H1 _ I1 q1) fun u s2 ⟨y,H2,I2,r2,q2⟩=>?_
 exact hf v u s2 x y H2 I2 r1 r2 q2
theorem C1 {op:Operator} {r:R2} (ho:OpR X (binaryOp op) r) (ha:PE X a ta) (hb:PE X b tb):PE X (.BinOp a op b pos) (tOp r ta tb):=by
 intro pins s σ H Q I h
 exact wpAny_BinOp (Aq ha hb I h fun v u s2 x y H2 I2 rx ry q=>ho pins s2 σ H2 x y v u Q I2 rx ry q)
theorem Cp {op:UnaryOp} {r:V→Hp→VK→Prop} (ho:UnR X (unaryOp op) r) (ha:PE X a ta):PE X (.UnaryOp op a pos) (tUn r ta):=by
 intro pins s σ H Q I h
 exact UnaryOp_ (thn (ha pins s σ H _ I h) fun v s1 ⟨x,H1,I1,r1,q1⟩=>ho pins s1 σ H1 x v Q I1 r1 q1)
theorem opI {f:Value→Value→Sem Value} {C:Int→Int→Prop} {g:Int→Int→Int}
  (rule:∀ (i j:Int) (t u:Tok) (s:Shared) (Q:Value→Shared→Prop) (E:Value→Shared→Prop),C i j→Q (.int (g i j) s.toks) { s with toks:=s.toks + 1 }→wpAny (model X.prog X.w) X.A (f (.int i t) (.int j u)) Q E s) :
  OpR X f (rI C fun i j=>.int (g i j)):=by
 intro pins s σ H x y v u Q I rx ry h
 obtain ⟨i,j,rfl,rfl,hc,q⟩:=h
 obtain ⟨t,rfl⟩:=rx
 obtain ⟨t',rfl⟩:=ry
 exact rule i j t t' s _ _ hc ⟨.int (g i j),H,I.tok _,⟨_,rfl⟩,q⟩
theorem CL {f:Value→Value→Sem Value} {g:Int→Int→Int}
  (rule:∀ (i j:Int) (t u:Tok) (s:Shared) (Q:Value→Shared→Prop) (E:Value→Shared→Prop),Q (.int (g i j) s.toks) { s with toks:=s.toks + 1 }→wpAny (model X.prog X.w) X.A (f (.int i t) (.int j u)) Q E s) :
  OpR X f (rI0 fun i j=>.int (g i j)):=by
 intro pins s σ H x y v u Q I rx ry h
 obtain ⟨i,j,rfl,rfl,q⟩:=h
 obtain ⟨t,rfl⟩:=rx
 obtain ⟨t',rfl⟩:=ry
 exact rule i j t t' s _ _ ⟨.int (g i j),H,I.tok _,⟨_,rfl⟩,q⟩
theorem zw {f:Value→Value→Sem Value} {g:Int→Int→Bool}
  (rule:∀ (i j:Int) (t u:Tok) (s:Shared) (Q:Value→Shared→Prop) (E:Value→Shared→Prop),Q (.bool (g i j)) s→wpAny (model X.prog X.w) X.A (f (.int i t) (.int j u)) Q E s) :
  OpR X f (rI0 fun i j=>.bl (g i j)):=by
 intro pins s σ H x y v u Q I rx ry h
 obtain ⟨i,j,rfl,rfl,q⟩:=h
 obtain ⟨t,rfl⟩:=rx
 obtain ⟨t',rfl⟩:=ry
 exact rule i j t t' s _ _ ⟨.bl (g i j),H,I,rfl,q⟩
def CO (i j:Int):Prop:=0 < j∧j < 1073741824
def mR (i j:Int):Prop:=(-(2 ^ 64) < i∧i < 2 ^ 64)∨(-(2 ^ 64) < j∧j < 2 ^ 64)
theorem mR.ok {i j:Int} (h:mR i j):IntMulOk i j:=by
 rcases h with ⟨h1,h2⟩ | ⟨h1,h2⟩
 ·exact .of_left (intBits_le_64 h1 h2)
 ·exact .of_right (intBits_le_64 h1 h2)
theorem AE:OpR X (binaryOp .Add) (rI0 fun i j=>.int (i + j)):=CL fun _ _ _ _ _ _ _ q=>add_int q
theorem AB:OpR X (binaryOp .Sub) (rI0 fun i j=>.int (i - j)):=CL fun _ _ _ _ _ _ _ q=>sub_int q
theorem Bk:OpR X (binaryOp .Mult) (rI mR fun i j=>.int (i * j)):=opI fun _ _ _ _ _ _ _ hc q=>mul_int q hc.ok
theorem zM:OpR X (binaryOp .FloorDiv) (rI CO fun i j=>.int (i / j)):=opI fun i j _ _ _ _ _ hc q=>by
 have h1:(0:Int) < j:=hc.1
 have h2:j < 1073741824:=hc.2
 exact floordiv_int (by omega) (by rw [Int.fdiv_eq_ediv_of_nonneg i (by omega)]; exact q) (.inl (PyProof.noPylong_small (by omega)))
theorem AL:OpR X (binaryOp .Mod) (rI (fun _ j=>0 < j) fun i j=>.int (i % j)):=opI fun i j _ _ _ _ _ hc q=>by
 have h1:(0:Int) < j:=hc
 exact mod_int' (by omega) (by rw [Int.fmod_eq_emod_of_nonneg i (by omega)]; exact q)
theorem unI {f:Value→Sem Value} {g:Int→Int}
  (rule:∀ (i:Int) (t:Tok) (s:Shared) (Q:Value→Shared→Prop) (E:Value→Shared→Prop),Q (.int (g i) s.toks) { s with toks:=s.toks + 1 }→wpAny (model X.prog X.w) X.A (f (.int i t)) Q E s) :
  UnR X f (rU fun i=>.int (g i)):=by
 intro pins s σ H x v Q I rx h
 obtain ⟨i,rfl,q⟩:=h
 obtain ⟨t,rfl⟩:=rx
 exact rule i t s _ _ ⟨.int (g i),H,I.tok _,⟨_,rfl⟩,q⟩
theorem AR:UnR X (unaryOp .USub) (rU fun i=>.int (-i)):=unI fun _ _ _ _ _ q=>neg_int q
end
section
variable {X:Cx} {a b c:Expr} {ta tb tc:TE} {pos:Pos}
theorem sg {pins:List (Addr × Obj)} {σ:St} {H:Hp} {s:Shared} {Q:VK} {k k':Bool} (I:Inv X pins σ H s) (q:Q (.bl k) H) (e:k=k'):EP X pins σ Q (.bool k') s:=by
 subst e
 exact ⟨.bl k,H,I,rfl,q⟩
theorem B4:OpR X (compareOp .Lt) (rI0 fun i j=>.bl (decide (i < j))):=zw fun _ _ _ _ _ _ _ q=>lt_int q
theorem B6:OpR X (compareOp .LtE) (rI0 fun i j=>.bl (decide (i≤j))):=zw fun _ _ _ _ _ _ _ q=>le_int q
theorem BV:OpR X (compareOp .Gt) (rI0 fun i j=>.bl (decide (j < i))):=zw fun _ _ _ _ _ _ _ q=>gt_int q
theorem B8:OpR X (compareOp .GtE) (rI0 fun i j=>.bl (decide (j≤i))):=zw fun _ _ _ _ _ _ _ q=>ge_int q
theorem uM:OpR X (compareOp .In) (fun x y H Q=>∃ i j,x=.str i∧y=.str j∧Q (.bl (!(Builtin.Str.occurrences j i 0 j.length 1).isEmpty)) H):=by
 intro pins s σ H x y v u Q I rx ry h
 obtain ⟨i,j,rfl,rfl,q⟩:=h
 obtain ⟨t,rfl⟩:=rx
 obtain ⟨t',rfl⟩:=ry
 exact in_str (sg I q rfl)
theorem Bq:OpR X (compareOp .Is) (fun x y H Q=>y=.non∧Q (.bl (decide (x=.non))) H):=by
 intro pins s σ H x y v u Q I rx ry h
 obtain ⟨rfl,q⟩:=h
 cases ry
 refine is_none_gen (sg I q ?_)
 cases x <;> first
  | (cases rx; rfl)
  | (obtain ⟨t,rfl⟩:=rx; rfl)
theorem yl:OpR X (compareOp .IsNot) (fun x y H Q=>y=.non∧Q (.bl (!decide (x=.non))) H):=by
 intro pins s σ H x y v u Q I rx ry h
 obtain ⟨rfl,q⟩:=h
 cases ry
 refine isnot_none_gen (sg I q ?_)
 cases x <;> first
  | (cases rx; rfl)
  | (obtain ⟨t,rfl⟩:=rx; rfl)
theorem oU (b:Expr) {op:CmpOp} (h:op ≠ .In:=by decide) (h2:op ≠ .NotIn:=by decide):behindInMarks op b=false:=by
 have e1:(op == CmpOp.In)=false:=by cases op <;> first | rfl | exact absurd rfl h
 have e2:(op == CmpOp.NotIn)=false:=by cases op <;> first | rfl | exact absurd rfl h2
 cases b <;> simp [behindInMarks,e1,e2]
theorem yM {op:CmpOp} {r:R2} (ho:OpR X (compareOp op) r) (ha:PE X a ta) (hb:PE X b tb) (hm:behindInMarks op b=false):PE X (.Compare a [op] [b] pos) (tOp r ta tb):=by
 intro pins s σ H Q I h
 exact wpAny_Compare1 (Aq ha hb I h fun v u s2 x y H2 I2 rx ry q=>ho pins s2 σ H2 x y v u Q I2 rx ry q) hm
def Af (t:TE):TT:=fun σ H Q=>t σ H fun x H'=>∃ k,x=.bl k∧Q k H'
theorem pQ {op:CmpOp} {r:R2} (ho:OpR X (compareOp op) r) (ha:PE X a ta) (hb:PE X b tb) (hm:behindInMarks op b=false):PT X (.Compare a [op] [b] pos) (Af (tOp r ta tb)):=by
 intro pins s σ H Q I h
 refine wpAny_isTrue_Compare1 (thn (ha pins s σ H _ I h) fun v s1 ⟨x,H1,I1,r1,q1⟩=>thn (hb pins s1 σ H1 _ I1 q1) fun u s2 ⟨y,H2,I2,r2,q2⟩ =>
  thn (ho pins s2 σ H2 x y v u _ I2 r1 r2 q2) fun c s3 ⟨z,H3,I3,r3,k,e,q3⟩=>?_) hm
 subst e
 cases r3
 exact wpAny_truthy_bool ⟨H3,I3,q3⟩
def v4 (r r':R2) (ta tb tc:TE):TE:=fun σ H Q=>ta σ H fun x H1=>tb σ H1 fun y H2=>r x y H2 fun z H3=>∃ k,z=.bl k ∧
 (if k=true then tc σ H3 fun w' H4=>r' y w' H4 Q else Q (.bl false) H3)
theorem wc {op op':CmpOp} {r r':R2} (ho:OpR X (compareOp op) r) (ho':OpR X (compareOp op') r') (ha:PE X a ta) (hb:PE X b tb) (hc:PE X c tc)
  (hm:lastMarks [op,op'] [b,c]=false:=by with_unfolding_all rfl):PE X (.Compare a [op,op'] [b,c] pos) (v4 r r' ta tb tc):=by
 intro pins s σ H Q I h
 refine Compare_chain (thn (ha pins s σ H _ I h) fun v s1 ⟨x,H1,I1,r1,q1⟩=>chain_link (thn (hb pins s1 σ H1 _ I1 q1) fun u s2 ⟨y,H2,I2,r2,q2⟩ =>
  thn (ho pins s2 σ H2 x y v u _ I2 r1 r2 q2) fun d s3 ⟨z,H3,I3,r3,k,e,q3⟩=>?_)) hm
 subst e
 cases r3
 refine wpAny_truthy_bool ?_
 cases k with
 | false=>exact ite_ff ⟨.bl false,H3,I3,rfl,q3⟩
 | true=>exact ite_tt (chain_last (thn (hc pins s3 σ H3 _ I3 q3) fun w' s4 ⟨z',H4,I4,r4,q4⟩=>ho' pins s4 σ H4 y z' u w' Q I4 r2 r4 q4))
theorem v2 {op op':CmpOp} {r r':R2} (ho:OpR X (compareOp op) r) (ho':OpR X (compareOp op') r') (ha:PE X a ta) (hb:PE X b tb) (hc:PE X c tc)
  (hm:lastMarks [op,op'] [b,c]=false:=by with_unfolding_all rfl):PT X (.Compare a [op,op'] [b,c] pos) (Af (v4 r r' ta tb tc)):=by
 intro pins s σ H Q I h
 refine isTrue_chain (thn (ha pins s σ H _ I h) fun v s1 ⟨x,H1,I1,r1,q1⟩=>test_link (thn (hb pins s1 σ H1 _ I1 q1) fun u s2 ⟨y,H2,I2,r2,q2⟩ =>
  thn (ho pins s2 σ H2 x y v u _ I2 r1 r2 q2) fun d s3 ⟨z,H3,I3,r3,k,e,q3⟩=>?_)) hm
 subst e
 cases r3
 refine wpAny_truthy_bool ?_
 cases k with
 | false =>
  obtain ⟨k',e',q'⟩:=q3
  cases e'
  exact ite_ff ⟨H3,I3,q'⟩
 | true =>
  refine ite_tt (test_last (thn (hc pins s3 σ H3 _ I3 q3) fun w' s4 ⟨z',H4,I4,r4,q4⟩=>thn (ho' pins s4 σ H4 y z' u w' _ I4 r2 r4 q4) fun d' s5 ⟨z2,H5,I5,r5,k2,e2,q5⟩=>?_))
  subst e2
  cases r5
  exact wpAny_truthy_bool ⟨H5,I5,q5⟩
theorem iX:(sizeLine:Nat) < 2 ^ 63:=by rw [sizeLine_eq]; decide
theorem sB:OpR X (binaryOp .Add) (fun x y H Q=>∃ i j,x=.str i∧y=.str j∧i.length + j.length≤sizeLine∧Q (.str (i ++ j)) H):=by
 intro pins s σ H x y v u Q I rx ry h
 obtain ⟨i,j,rfl,rfl,hz,q⟩:=h
 obtain ⟨t,rfl⟩:=rx
 obtain ⟨t',rfl⟩:=ry
 exact add_str (fun t' tk=>⟨.str (i ++ j),H,I.tok _,⟨_,rfl⟩,q⟩) hz
theorem iA {x:V} {us:List Value} (r:aU [x] us):∃ u,us=[u]∧bf x u:=by
 cases r with
 | cons r1 r2=>cases r2; exact ⟨_,rfl,r1⟩
theorem z6 {x y:V} {us:List Value} (r:aU [x,y] us):∃ u w',us=[u,w']∧bf x u∧bf y w':=by
 cases r with
 | cons r1 r2 =>
  cases r2 with
  | cons r3 r4=>cases r4; exact ⟨_,_,rfl,r1,r3⟩
theorem va (hc:X.calm=true):jh X (.builtin "min") (fun xs H Q=>∃ i j,xs=[.int i,.int j]∧Q (.int (if j < i then j else i)) H):=by
 intro pins s σ H xs us Q I r h
 obtain ⟨i,j,rfl,q⟩:=h
 obtain ⟨u,w',rfl,⟨t,rfl⟩,⟨t',rfl⟩⟩:=z6 r
 refine min_two_ints (I.ok.hd hc) fun h' tk k=>⟨_,H,I.kept k,?_,q⟩
 by_cases hj:j < i
 ·rw [if_pos hj,if_pos hj]; exact ⟨_,rfl⟩
 ·rw [if_neg hj,if_neg hj]; exact ⟨_,rfl⟩
end
end L2
namespace L2
open PySem PySem.Spec PyProof.Rows
structure sO (h:Heap) (x dx C:Addr) (mA:Str→Option Value):Prop where
 obj:h.get? x=some (PySem.W.instObj C dx)
 ns:h.Ns1 dx mA
 ne:dx ≠ x
theorem u9 {h:Heap} {dx:Addr} {mA:Str→Option Value} (n:h.Ns1 dx mA):∃ od,h.get? dx=some od∧∀ name,PySem.W.lookIn name od=some (mA name):=by
 obtain ⟨o,es,ep,ho,hd,hk,_,hm⟩:=n
 refine ⟨o,ho,fun name=>?_⟩
 have e:=hm name
 unfold nsFind findBy at e
 rw [← Array.find?_toList] at e
 unfold PySem.W.lookIn
 rw [hd]
 dsimp only
 split
 ·rename_i y q
  rw [q] at e
  exact congrArg some e
 ·rename_i q
  rw [q] at e
  have a:es.toList.any (·.refKey)=false:=by
   rw [List.any_eq_false]
   intro y hy
   obtain ⟨z,t,hkey⟩:=hk y (Array.mem_toList_iff.mp hy)
   simp [DictEntry.refKey,hkey]
  have a':¬ es.toList.any (·.refKey)=true:=by rw [a]; exact Bool.false_ne_true
  rw [if_neg a']
  exact congrArg some e
theorem sO.look {h:Heap} {x dx C:Addr} {mA:Str→Option Value} (I:sO h x dx C mA):∃ od,PySem.W.InstAt h x (PySem.W.instObj C dx) C (some od)∧∀ name,PySem.W.lookIn name od=some (mA name) :=
 let ⟨od,ho,hl⟩:=u9 I.ns
 ⟨od,⟨I.obj,rfl,rfl,ho⟩,hl⟩
section
variable {prog:Program} {w:World} {A:Around} {E:Value→Shared→Prop} {s:Shared} {K:PySem.W.Frag} {x dx C f:Addr} {mA:Str→Option Value} {name:Str} {v:Value}
theorem yI {expr:Bool} {Q:Value→Shared→Prop} (X:K.In s.heap) (I:sO s.heap x dx C mA) (hg:PySem.W.plainGet K C name=true) (hh:PySem.W.hasDictIn K C=true)
  (ha:PySem.W.findIn K (.ref C) name=some none) (hv:mA name=some v) (hv':PySem.W.handedIn v=true) (h:Q v { s with toks:=s.toks + 1 }) :
  wpAny (model prog w) A (getAttr (.ref x) name expr) Q E s:=by
 obtain ⟨od,J,hl⟩:=I.look
 exact PySem.W.get_value X J (PySem.W.plainGet_of hg).1 (PySem.W.findObj_own hh ha rfl (by rw [hl,hv])) hv' h
theorem v9 {pl:Sem Bool} {Q:Value × List Value→Shared→Prop} (X:K.In s.heap) (I:sO s.heap x dx C mA) (hg:PySem.W.plainGet K C name=true)
  (hf:PySem.W.findIn K (.ref C) name=some (some (.ref f))) (ht:PySem.W.isFn K (.ref f)=true) (hv:mA name=none) (h:Q (.ref f,[.ref x]) s) :
  wpAny (model prog w) A (getMethod (.ref x) name pl) Q E s:=by
 obtain ⟨od,J,hl⟩:=I.look
 exact PySem.W.method_fn X J (PySem.W.plainGet_of hg).1 (PySem.W.plainGet_of hg).2 hf (beq_iff_eq.mp ht) (by show (PySem.W.lookIn name od).map (·.isSome)=some false; rw [hl,hv]; rfl) h
theorem zz {ns:List Str} {Q:Unit→Shared→Prop} (X:K.In s.heap) (I:sO s.heap x dx C mA)
  (hs:PySem.W.findIn K (.ref C) "__setattr__"=some (some (.builtin "object.__setattr__"))) (hp:PySem.W.plainOver K C=true) (ht:PySem.W.takerIn K C name=some none) (hh:PySem.W.hasDictIn K C=true)
  (hw:PySem.Within mA ns) (hsz:ns.length≤sizeLine)
  (h:∀ h',sO h' x dx C (fun y=>if y=name then some v else mA y)→Heap.SameBut dx s.heap h'→Q () { s with heap:=h',toks:=s.toks + 2 }) :
  wpAny (model prog w) A (setAttr (.ref x) name v) Q E s:=by
 obtain ⟨od,J,hl⟩:=I.look
 refine PySem.W.set_plain X J hs (PySem.W.osa_open (s:={ s with toks:=s.toks + 1 }) (r:=none) X J hp ht fun b=>?_)
 obtain ⟨cd,hc,hd'⟩:=PySem.W.any_some hh
 have hx:s.heap.get? x=some ⟨.ref C,some dx,.plain,#[]⟩:=I.obj
 refine wpAny_bind (wpAny_pure (wpAny_bind (wpAny_bind (wpAny_loadPart hx (wpAny_bind (PySem.W.Looks.here (s:={ s with toks:=s.toks + 1 }) (PySem.W.looks_clsIn X hc) ?_))))))
 rw [hd']
 refine wpAny_pure (a:=some dx) (wpAny_bind (wpAny_pure (wpAny_bind ?_)))
 refine wpAny_nsSet1 (s:={ s with toks:=s.toks + 1 }) I.ns fun h' hn2 hs2=>?_
 obtain ⟨oD,esD,epD,hoD,hdD,hcD⟩:=hn2.count (PySem.Within.cons name v hw)
 refine wpAny_bind (wpAny_lookBehind hoD (by rw [hdD]; exact pastItsLine_dict (Nat.le_trans hcD (by rw [List.length_cons]; omega))) ?_)
 exact wpAny_pure (h _ ⟨(hs2.2 _ (Ne.symm I.ne)).trans I.obj,hn2,I.ne⟩ hs2)
theorem wm {R:Result→Shared→Prop} {vs:List Value} {kw:List (Str × Value)} (X:K.In s.heap) (hm:PySem.W.makesIn K C=true)
  (hi:PySem.W.findIn K (.ref C) "__init__"=some (some (.ref f))) (hf:PySem.W.typeIn K (.ref f)=some (.type "function"))
  (h:codeAny (model prog w) (A.under (.builtin "type.__call__" ⟨.ref C :: vs,kw⟩)) (.call (.ref f) ⟨.ref (s.heap.objs.size + 1) :: vs,kw⟩) (PySem.W.InitBack (s.heap.objs.size + 1) R)
   { s with heap:=(s.heap.push PySem.W.emptyDict).push (PySem.W.instObj C s.heap.objs.size) }) :
  codeAny (model prog w) A (.call (.ref C) ⟨vs,kw⟩) R s:=by
 obtain ⟨hh,g,d,t,os⟩:=s
 exact PySem.W.make_core (PySem.W.makes_of X hm) (PySem.W.looks_findIn X hi) (fun self=>PySem.W.bind_fn X self hf) (.inl rfl) h
end
def fD (f:Str) (v:V):List (Str × V)→List (Str × V)
 | []=>[(f,v)]
 | (g,x) :: r=>if g=f then (g,v) :: r else (g,x) :: fD f v r
theorem j4 (f g:Str) (v:V):∀ fs:List (Str × V),(fD f v fs).lookup g=if g=f then some v else fs.lookup g
 | []=>by
  show List.lookup g [(f,v)]=_
  by_cases h:g=f
  ·have hb:(g == f)=true:=beq_iff_eq.mpr h
   simp only [List.lookup,hb,if_pos h]
  ·have hb:(g == f)=false:=beq_eq_false_iff_ne.mpr h
   simp only [List.lookup,hb,if_neg h]
 | (k,x) :: r=>by
  have ih:=j4 f g v r
  rw [show fD f v ((k,x) :: r)=(if k=f then (k,v) :: r else (k,x) :: fD f v r) from rfl]
  by_cases hk:k=f
  ·rw [if_pos hk]
   by_cases h:g=k
   ·have hb:(g == k)=true:=beq_iff_eq.mpr h
    simp only [List.lookup,hb,if_pos (h.trans hk)]
   ·have hb:(g == k)=false:=beq_eq_false_iff_ne.mpr h
    simp only [List.lookup,hb,if_neg (fun e:g=f=>h (e.trans hk.symm))]
  ·rw [if_neg hk]
   by_cases h:g=k
   ·have hb:(g == k)=true:=beq_iff_eq.mpr h
    simp only [List.lookup,hb,if_neg (fun e:g=f=>hk (h.symm.trans e))]
   ·have hb:(g == k)=false:=beq_eq_false_iff_ne.mpr h
    simp only [List.lookup,hb]
    exact ih
theorem jL (f:Str) (v:V):∀ fs:List (Str × V),f∈(fD f v fs).map (·.1)∧∀ g,g∈fs.map (·.1)→g∈(fD f v fs).map (·.1)
 | []=>⟨by simp [fD],fun g h=>by simp at h⟩
 | (k,x) :: r=>by
  obtain ⟨i1,i2⟩:=jL f v r
  rw [show fD f v ((k,x) :: r)=(if k=f then (k,v) :: r else (k,x) :: fD f v r) from rfl]
  by_cases hk:k=f
  ·rw [if_pos hk]
   subst hk
   exact ⟨by simp,fun g h=>by simpa using h⟩
  ·rw [if_neg hk]
   refine ⟨?_,fun g h=>?_⟩
   ·rw [List.map_cons]
    exact List.mem_cons_of_mem _ i1
   ·rw [List.map_cons] at h ⊢
    rcases List.mem_cons.mp h with e | e
    ·exact List.mem_cons.mpr (.inl e)
    ·exact List.mem_cons_of_mem _ (i2 g e)
theorem kg (f:Str) (v:V):∀ fs:List (Str × V),(fD f v fs).length≤fs.length + 1
 | []=>by simp [fD]
 | (k,x) :: r=>by
  have ih:=kg f v r
  rw [show fD f v ((k,x) :: r)=(if k=f then (k,v) :: r else (k,x) :: fD f v r) from rfl]
  by_cases hk:k=f
  ·rw [if_pos hk,List.length_cons,List.length_cons]; omega
  ·rw [if_neg hk,List.length_cons,List.length_cons]; omega
theorem h9.some_of {v:V} {o:Option Value} (r:h9 (some v) o):∃ u,o=some u∧bf v u:=by
 cases o with
 | none=>exact (show False from r).elim
 | some u=>exact ⟨u,rfl,r⟩
theorem h9.none_of {o:Option Value} (r:h9 none o):o=none:=by
 cases o with
 | none=>rfl
 | some u=>exact (show False from r).elim
theorem uR {v:V} {u:Value} (r:bf v u):PySem.W.handedIn u=true:=by
 cases v with
 | non=>cases (show u=Value.none from r); rfl
 | bl b=>cases (show u=Value.bool b from r); rfl
 | int i=>obtain ⟨t,e⟩:=(show ∃ t,u=Value.int i t from r); cases e; rfl
 | str x=>obtain ⟨t,e⟩:=(show ∃ t,u=Value.str x t from r); cases e; rfl
 | byt b=>obtain ⟨t,e⟩:=(show ∃ t,u=Value.bytes b t from r); cases e; rfl
 | flt b=>obtain ⟨t,e⟩:=(show ∃ t,u=Value.float b t from r); cases e; rfl
 | ref a=>cases (show u=Value.ref a from r); rfl
 | ty n=>cases (show u=Value.type n from r); rfl
section
variable {P:Program} {w:World} {H H':Hp} {h h':Heap} {a C dx:Addr} {fs fs':List (Str × V)}
theorem kX (hok:HOk P w H h) (e:H a=some (.ins C dx fs)):∃ mA,sO h a dx C mA∧(∀ f,h9 (fs.lookup f) (mA f))∧PySem.Within mA (fs.map (·.1))∧fs.length≤1000∧H dx=some (.own a):=by
 obtain ⟨d,z,ne,ob,mA,n,r,q⟩:=(show bG P w H h a (.ins C dx fs) from hok a _ e)
 exact ⟨mA,⟨ob,n,ne⟩,r,q,z,d⟩
end
structure Cls (K:PySem.W.Frag) (C:Addr):Prop where
 pg:PySem.W.plainGet K C Str.empty=true
 hd:PySem.W.hasDictIn K C=true
 po:PySem.W.plainOver K C=true
 sa:PySem.W.findIn K (.ref C) "__setattr__"=some (some (.builtin "object.__setattr__"))
theorem Cls.get {K:PySem.W.Frag} {C:Addr} (c:Cls K C) (f:Str):PySem.W.plainGet K C f=true:=c.pg
def fC (K:PySem.W.Frag) (C:Addr) (f:Str):Prop:=PySem.W.findIn K (.ref C) f=some none
theorem fC.taker {K:PySem.W.Frag} {C:Addr} {f:Str} (n:fC K C f):PySem.W.takerIn K C f=some none:=by
 unfold PySem.W.takerIn
 rw [show PySem.W.findIn K (.ref C) f=some none from n]
 rfl
structure Con (K:PySem.W.Frag) (C:Addr) (f:Str) (v:V) (u:Value):Prop where
 at_:PySem.W.findIn K (.ref C) f=some (some u)
 rel:bf v u
 get:PySem.W.specialIn K u "__get__"=some none
 cp:PySem.W.copiedNames.contains f=false
structure AZ (K:PySem.W.Frag) (C:Addr) (m:Str) (f:Addr):Prop where
 at_:PySem.W.findIn K (.ref C) m=some (some (.ref f))
 fn:PySem.W.isFn K (.ref f)=true
 kp:PySem.W.keepIn K (.ref f)=true
section
variable {X:Cx} {pins:List (Addr × Obj)} {σ:St} {H:Hp} {s:Shared} {a C dx:Addr} {fs:List (Str × V)} {f:Str} {v:V} {A:Around} {E:Value→Shared→Prop}
theorem sP {b:Bool} {Q:Value→Shared→Prop} (I:Inv X pins σ H s) (e:H a=some (.ins C dx fs)) (c:Cls X.K C) (n:fC X.K C f) (l:fs.lookup f=some v)
  (h:∀ u s',Inv X pins σ H s'→bf v u→Q u s'):wpAny (model X.prog X.w) A (getAttr (.ref a) f b) Q E s:=by
 obtain ⟨mA,O,r,_,_,_⟩:=kX I.hok e
 obtain ⟨u,hu,ru⟩:=h9.some_of (v:=v) (o:=mA f) (by rw [← l]; exact r f)
 exact yI I.kIn O (c.get f) c.hd n hu (uR ru) (h u _ (I.tok _) ru)
theorem lE {m:Str} {g:Addr} {pl:Sem Bool} {Q:Value × List Value→Shared→Prop} (I:Inv X pins σ H s) (e:H a=some (.ins C dx fs)) (c:Cls X.K C) (k:AZ X.K C m g) (l:fs.lookup m=none)
  (h:Q (.ref g,[.ref a]) s):wpAny (model X.prog X.w) A (getMethod (.ref a) m pl) Q E s:=by
 obtain ⟨mA,O,r,_,_,_⟩:=kX I.hok e
 have hn:mA m=none:=h9.none_of (by rw [← l]; exact r m)
 exact v9 I.kIn O (c.get m) k.at_ k.fn hn h
theorem rO {y:V} {u:Value} {Q:Unit→Shared→Prop} (I:Inv X pins σ H s) (e:H a=some (.ins C dx fs)) (c:Cls X.K C) (n:fC X.K C f) (hl:fs.length < 1000) (ry:bf y u)
  (h:∀ s',Inv X pins σ (upd H a (.ins C dx (fD f y fs))) s'→Q () s'):wpAny (model X.prog X.w) A (setAttr (.ref a) f u) Q E s:=by
 obtain ⟨mA,O,r,wi,_,ho⟩:=kX I.hok e
 have hz:(fs.map (·.1)).length≤sizeLine:=by rw [List.length_map,sizeLine_eq]; omega
 refine zz I.kIn O c.sa c.po n.taker c.hd wi hz fun h' O' sb=>h _ ?_
 have hd:∃ o,h'.get? dx=some o:=let ⟨o,_,_,e',_⟩:=O'.ns; ⟨o,e'⟩
 refine I.write (x:=a) (e:=dx) (by rw [e]; exact True.intro) (.inr ho) (fun b q hb z=>(sb.2 b hb).trans z) hd ?_
 refine ⟨by rw [aK O.ne]; exact ho,?_,O.ne,O'.obj,_,O'.ns,fun g=>?_,fun g hg=>?_⟩
 ·have:=kg f y fs; omega
 ·show h9 ((fD f y fs).lookup g) (if g=f then some u else mA g)
  rw [j4]
  by_cases q:g=f
  ·rw [if_pos q,if_pos q]; exact ry
  ·rw [if_neg q,if_neg q]; exact r g
 ·by_cases q:g=f
  ·rw [q]; exact (jL f y fs).1
  ·refine (jL f y fs).2 g (wi g fun z=>hg ?_)
   show (if g=f then some u else mA g)=none
   rw [if_neg q]; exact z
theorem Inv.made (I:Inv X pins σ H s):Inv X pins σ (upd (upd H s.heap.objs.size (.own (s.heap.objs.size + 1))) (s.heap.objs.size + 1) (.ins C s.heap.objs.size []))
  { s with heap:=(s.heap.push PySem.W.emptyDict).push (PySem.W.instObj C s.heap.objs.size) }:=by
 have e1:(s.heap.push PySem.W.emptyDict).get? s.heap.objs.size=some PySem.W.emptyDict:=Heap.get?_push_size s.heap rfl
 have e2:((s.heap.push PySem.W.emptyDict).push (PySem.W.instObj C s.heap.objs.size)).get? (s.heap.objs.size + 1)=some (PySem.W.instObj C s.heap.objs.size):=by
  have:=Heap.get?_push_size (s.heap.push PySem.W.emptyDict) (o:=PySem.W.instObj C s.heap.objs.size) rfl
  rwa [Heap.size_push] at this
 have e3:(s.heap.push PySem.W.emptyDict).Ns s.heap.objs.size (fun _=>none):=⟨PySem.W.emptyDict,#[],_,e1,rfl,(fun e he=>absurd he (by simp)),fun _=>rfl⟩
 have I1:=I.laid (a:=s.heap.objs.size) (o:=.own (s.heap.objs.size + 1)) (h':=s.heap.push PySem.W.emptyDict) (t':=s.toks) (fun b u q=>Heap.get?_push_of_some _ q) (Nat.le_refl _) ⟨_,e1⟩
 refine I1.laid (a:=s.heap.objs.size + 1) (o:=.ins C s.heap.objs.size []) (t':=s.toks) (fun b u q=>Heap.get?_push_of_some _ q) (Nat.le_of_eq (Heap.size_push _ _)) ?_
 have ne:s.heap.objs.size ≠ s.heap.objs.size + 1:=Nat.ne_of_lt (Nat.lt_succ_self _)
 refine ⟨by rw [aK ne,aN],Nat.zero_le _,ne,e2,fun _=>none,(Heap.Ns1.of_empty e3).at fun o q=>Heap.get?_push_of_some _ q,fun _=>True.intro,fun y hy=>absurd rfl hy⟩
theorem zd {prog:Program} {w:World} {env:Env} {e:Expr} {f:Str} {pos:Pos} {s:Shared} {Q:Value→Shared→Prop} (hb:attributeBase e f env (eval e env)=eval e env)
  (h:wpAny (model prog w) A (eval e env) (fun o s₁=>wpAny (model prog w) A (getAttr o f true) Q E s₁) E s):wpAny (model prog w) A (eval (.Attribute e f pos) env) Q E s :=
 Attribute_any_ h (by rw [arm_eval_Attribute,hb])
end
def Dv (K:PySem.W.Frag) (ta:TE) (f:Str):TE:=fun σ H Q=>ta σ H fun x H1=>∃ a C dx fs v,x=.ref a∧H1 a=some (.ins C dx fs)∧Cls K C∧fC K C f∧fs.lookup f=some v∧Q v H1
def Dd (K:PySem.W.Frag) (ta tv:TE) (f:Str):TS:=fun D σ H=>tv σ H fun y H1=>ta σ H1 fun x H2=>∃ a C dx fs,x=.ref a∧H2 a=some (.ins C dx fs)∧Cls K C∧fC K C f∧fs.length < 1000 ∧
 D.nx σ (upd H2 a (.ins C dx (fD f y fs)))
section
variable {X:Cx} {o e value:Expr} {f:Str} {pos pos' tpos:Pos} {ta tv:TE}
theorem By (he:PE X e ta) (hb:attributeBase e f X.env (eval e X.env)=eval e X.env):PE X (.Attribute e f pos) (Dv X.K ta f):=by
 intro pins s σ H Q I h
 refine zd hb (thn (he pins s σ H _ I h) fun u s1 ⟨x,H1,I1,rx,a,C,dx,fs,v,ex,ea,c,n,l,q⟩=>?_)
 subst ex
 obtain rfl:u=Value.ref a:=rx
 exact sP I1 ea c n l fun u' s2 I2 ru=>⟨v,H1,I2,ru,q⟩
theorem Bz (ha:PE X o ta) (hv:PE X value tv) (hs:swapsWith value (some (.Attribute o f pos')) pos.line X.env=pure false):PS X (.Assign [.Attribute o f pos'] value pos) (Dd X.K ta tv f):=by
 intro pins s σ H D I h
 refine plainObj_wpAny_Assign_Attribute (thn (hv pins s σ H _ I h) fun u s1 ⟨y,H1,I1,ry,q⟩=>thn (ha pins s1 σ H1 _ I1 q) fun ov s2 ⟨x,H2,I2,rx,a,C,dx,fs,ex,ea,c,n,l,q2⟩=>?_) hs
 subst ex
 obtain rfl:ov=Value.ref a:=rx
 exact rO I2 ea c n l ry fun s3 I3=>⟨σ,_,I3,q2⟩
end
section
variable {X:Cx} {pins:List (Addr × Obj)} {σ:St} {H:Hp} {s:Shared} {A:Around} {E:Value→Shared→Prop} {Q:Value→Shared→Prop} {c:Value} {b:Bool}
inductive kE (K:PySem.W.Frag) (H:Hp):V→Value→Prop where
 | non:kE K H .non (.type "NoneType")
 | bl (x:Bool):kE K H (.bl x) (.type "bool")
 | int (i:Int):kE K H (.int i) (.type "int")
 | str (x:Str):kE K H (.str x) (.type "str")
 | flt (x:UInt64):kE K H (.flt x) (.type "float")
 | lst {a:Addr} {xs:List V} (e:H a=some (.lst xs)):kE K H (.ref a) (.type "list")
 | frz {a:Addr} {o:Obj} {xs:List V} (e:H a=some (.frz o (.lst xs))):kE K H (.ref a) (.type "list")
 | tup {a:Addr} {xs:List V} (e:H a=some (.tup xs)):kE K H (.ref a) (.type "tuple")
 | dK {a:Addr} {kvs:List (Key × V)} (e:H a=some (.dK kvs)):kE K H (.ref a) (.type "dict")
 | dT {a:Addr} {kvs:List (List Key × V)} (e:H a=some (.dT kvs)):kE K H (.ref a) (.type "dict")
 | ins {a C dx:Addr} {fs:List (Str × V)} (e:H a=some (.ins C dx fs)) (cl:Cls K C) (ha:PySem.W.findIn K (.ref C) "__class__"=some (some (.builtin "object.__class__")))
   (hn:PySem.W.specialIn K (.builtin "object.__class__") "__get__"=some (some (.builtin "getset_descriptor.__get__"))) (htk:PySem.W.takesIn K (.builtin "object.__class__")=some true)
   (hm:PySem.W.mroIn K C (.type "object")=some true):kE K H (.ref a) (.ref C)
theorem dC {x:V} {u t:Value} (I:Inv X pins σ H s) (rx:bf x u) (ty:kE X.K H x t) (e:PySem.W.kitOne X.K t c=some b) (h:∀ tk,Q (.bool b) { s with toks:=tk }) :
  wpAny (model X.prog X.w) A (call (.builtin "isinstance") [u,c]) Q E s:=by
 cases ty with
 | non=>cases (show u=Value.none from rx); exact PySem.W.kia_one PySem.W.kitx_none I.kIn True.intro e (fun z=>nomatch z) h
 | bl y=>cases (show u=Value.bool y from rx); exact PySem.W.kia_one PySem.W.kitx_bool I.kIn True.intro e (fun z=>nomatch z) h
 | int i=>obtain ⟨t,q⟩:=(show ∃ t,u=Value.int i t from rx); cases q; exact PySem.W.kia_one PySem.W.kitx_int I.kIn True.intro e (fun z=>nomatch z) h
 | str y=>obtain ⟨t,q⟩:=(show ∃ t,u=Value.str y t from rx); cases q; exact PySem.W.kia_one PySem.W.kitx_str I.kIn True.intro e (fun z=>nomatch z) h
 | flt y=>obtain ⟨t,q⟩:=(show ∃ t,u=Value.float y t from rx); cases q; exact PySem.W.kia_one PySem.W.kitx_float I.kIn True.intro e (fun z=>nomatch z) h
 | @lst a xs ea =>
  cases (show u=Value.ref a from rx)
  obtain ⟨_,_,n,_,h1⟩:=(show bG X.prog X.w H s.heap a (.lst xs) from I.hok a _ ea)
  exact PySem.W.kia_one PySem.W.kitx_list I.kIn ⟨_,h1,rfl⟩ e (fun z=>nomatch z) h
 | @frz a ob xs ea =>
  cases (show u=Value.ref a from rx)
  obtain ⟨_,_,_,n,_,h1⟩:=(show bG X.prog X.w H s.heap a (.frz ob (.lst xs)) from I.hok a _ ea)
  exact PySem.W.kia_one PySem.W.kitx_list I.kIn ⟨_,h1,rfl⟩ e (fun z=>nomatch z) h
 | @tup a xs ea =>
  cases (show u=Value.ref a from rx)
  obtain ⟨_,_,_,p⟩:=(show bG X.prog X.w H s.heap a (.tup xs) from I.hok a _ ea)
  obtain ⟨o,h1,h2,_⟩:=p
  exact PySem.W.kia_one PySem.W.kitx_tuple I.kIn ⟨o,h1,h2⟩ e (fun z=>nomatch z) h
 | @dK a kvs ea =>
  cases (show u=Value.ref a from rx)
  obtain ⟨_,_,vs,_,p⟩:=(show bG X.prog X.w H s.heap a (.dK kvs) from I.hok a _ ea)
  obtain ⟨o,es,ep,h1,h2,_⟩:=p
  exact PySem.W.kia_one PySem.W.kitx_dict I.kIn ⟨o,h1,h2.1⟩ e (fun z=>nomatch z) h
 | @dT a kvs ea =>
  cases (show u=Value.ref a from rx)
  obtain ⟨_,_,xs,_,o,es,ep,h1,h2,_⟩:=(show bG X.prog X.w H s.heap a (.dT kvs) from I.hok a _ ea)
  exact PySem.W.kia_one PySem.W.kitx_dict I.kIn ⟨o,h1,h2.1⟩ e (fun z=>nomatch z) h
 | @ins a C dx fs ea cl ha hn htk hm =>
  cases (show u=Value.ref a from rx)
  obtain ⟨mA,O,_⟩:=kX I.hok ea
  obtain ⟨od,J,_⟩:=O.look
  exact PySem.W.kia_one (PySem.W.kitx_own (cl.get _) cl.hd ha hn htk hm) I.kIn J e (fun z=>nomatch z) h
end
end L2
namespace L2
open PySem PySem.Spec PyProof.Rows
structure bJ (k:Nat) (A:Around):Prop where
 hd:A.handled=none
 dp:A.depth + 3 * k + 5 < recursionLimit
 un:A.units + 16 * k + 200 < cLine
theorem bJ.mono {j k:Nat} {A:Around} (r:bJ k A) (h:j≤k):bJ j A:=⟨r.hd,by have:=r.dp; omega,by have:=r.un; omega⟩
theorem bJ.deeper {k:Nat} {A:Around} (r:bJ (k + 1) A) (env:Env):bJ k (A.deeper env) :=
 ⟨r.hd,by have:=r.dp; show A.depth + 1 + 3 * k + 5 < _; omega,by have:=r.un; show A.units + 3 + 16 * k + 200 < _; omega⟩
theorem sC {A:Around} {C:Addr} {us:List Value} {kw:List (Str × Value)}:(A.under (.builtin "type.__call__" ⟨.ref C :: us,kw⟩)).depth=A.depth + 1:=by
 first | rfl | simp [Around.under,Code.weight,Code.isCreation,Code.isGuard,Code.isCaller,Code.frames,Code.isFrame,guardIds]
theorem sS {A:Around} {C:Addr} {us:List Value} {kw:List (Str × Value)}:(A.under (.builtin "type.__call__" ⟨.ref C :: us,kw⟩)).units=A.units + 1:=by
 first | rfl | simp [Around.under,Code.cUnits,Code.frames,Code.isFrame]
theorem bJ.make {k:Nat} {A:Around} (r:bJ (k + 1) A) (C:Addr) (us:List Value) (kw:List (Str × Value)):bJ k (A.under (.builtin "type.__call__" ⟨.ref C :: us,kw⟩)) :=
 ⟨r.hd,by have:=r.dp; rw [sC]; omega,by have:=r.un; rw [sS]; omega⟩
theorem bJ.depth {k:Nat} {A:Around} (r:bJ k A):A.depth < recursionLimit:=by have:=r.dp; omega
theorem bJ.units {k:Nat} {A:Around} (r:bJ k A):A.units + 64 < cLine:=by have:=r.un; omega
def C0:TA:=fun _ H Q=>Q [] H
def Cg (ta:TE) (tr:TA):TA:=fun σ H Q=>ta σ H fun x H1=>tr σ H1 fun xs H2=>Q (x :: xs) H2
section
variable {X:Cx} {e:Expr} {es:List Expr} {te:TE} {t:TA} {pos:Pos}
theorem Av:PA X [] C0:=fun _ _ _ _ H Q I h=>Calls.spliced_nil ⟨[],H,I,.nil,h⟩
theorem x8 (ha:PE X e te) (hr:PA X es t) (hs:starEach (e :: es) X.env=(false,eval e X.env) :: starEach es X.env:=by rfl):PA X (e :: es) (Cg te t):=by
 intro pos pins s σ H Q I h
 rw [hs]
 show wpAny _ _ (spliced ((false,eval e X.env) :: backTo pos (starEach es X.env))) _ _ s
 refine Calls.spliced_cons (thn (ha pins s σ H _ I h) fun u s1 ⟨x,H1,I1,r1,q1⟩=>?_)
 exact thn (hr pos pins s1 σ H1 _ I1 q1) fun us s2 ⟨xs,H2,I2,r2,q2⟩=>⟨x :: xs,H2,I2,.cons r1 r2,q2⟩
def DF (t:TA):TE:=fun σ H Q=>t σ H fun xs H1=>xs.length≤sizeLine∧∀ p,H1 p=none→Q (.ref p) (upd H1 p (.tup xs))
def DB (t:TA):TE:=fun σ H Q=>t σ H fun xs H1=>xs.length≤sizeLine∧∀ p,H1 p=none→Q (.ref p) (upd H1 p (.lst xs))
theorem AS {x1} (h:PA X es t):PE X (.Tuple es x1 pos) (DF t):=by
 intro pins s σ H Q I hq
 refine wpAny_Tuple_spliced (thn (h pos pins s σ H _ I hq) fun us s1 ⟨xs,H1,I1,r,z,q⟩=>⟨by rw [← r.length]; exact z,?_⟩)
 have hf:H1 s1.heap.objs.size=none:=I1.hok.fresh (Nat.le_refl _)
 refine ⟨.ref s1.heap.objs.size,upd H1 s1.heap.objs.size (.tup xs),I1.laid (t':=s1.toks) (fun b u e=>Heap.get?_push_of_some _ e) (Nat.le_refl _) ?_,rfl,q _ hf⟩
 exact ⟨z,us,r,⟨_,Heap.get?_push_size _ rfl,rfl,⟨_,rfl⟩,rfl⟩⟩
theorem BP (h:PA X es t):PE X (.List es pos) (DB t):=by
 intro pins s σ H Q I hq
 refine wpAny_List_spliced (thn (h pos pins s σ H _ I hq) fun us s1 ⟨xs,H1,I1,r,z,q⟩=>⟨by rw [← r.length]; exact z,?_⟩)
 have hf:H1 s1.heap.objs.size=none:=I1.hok.fresh (Nat.le_refl _)
 refine ⟨.ref s1.heap.objs.size,upd H1 s1.heap.objs.size (.lst xs),I1.laid (t':=s1.toks) (fun b u e=>Heap.get?_push_of_some _ e) (Nat.le_refl _) ?_,rfl,q _ hf⟩
 exact ⟨z,us,0,r,Heap.get?_push_size _ rfl⟩
end
abbrev Sp:=List V→Hp→VK→XK→Prop
abbrev CXT:=List Env→Hp→Shared→XK→Value→Shared→Prop
structure rP (P:Program) (w:World) (K:PySem.W.Frag) (mg:Str→Option Value) (base:Heap) (A:Around) (outer:List Env) (s:Shared) (H:Hp):Prop where
 frames:A.frames=some outer
 mod:Mod K mg base
 bs:∀ b o,base.get? b=some o→s.heap.get? b=some o∧H b=none
 bsz:base.objs.size≤s.heap.objs.size
 funs:s.heap.FunFrames base outer
 frf:∀ b∈frs outer,H b=none
 hok:HOk P w H s.heap
 bare:AllBare s.gens
def CE (outer:List Env) (P:Program) (w:World) (H:Hp) (s:Shared) (Q:VK) (u:Value) (s':Shared):Prop :=
 ∃ v H',s'.os=s.os∧AllBare s'.gens∧Un (frs outer) [] H H' s.heap s'.heap∧HOk P w H' s'.heap∧bf v u∧Q v H'
def CR (CX:CXT) (outer:List Env) (P:Program) (w:World) (H:Hp) (s:Shared) (Q:VK) (E:XK) (r:Result) (s':Shared):Prop :=
 match r with
 | .ok (.ret u)=>CE outer P w H s Q u s'
 | .ok _=>False
 | .error e=>CX outer H s E e s'
structure gx (P:Program) (w:World) (K:PySem.W.Frag) (mg:Str→Option Value) (base:Heap) (CX:CXT) (k:Nat) (f:Addr) (fd:FuncData) (ps:List Str) (sp:Sp):Prop where
 len:∀ vs H Q E,sp vs H Q E→vs.length=ps.length
 run:∀ (A:Around) (outer:List Env) (s:Shared) (H:Hp) (args:Args) (us:List Value) (vs:List V) (Q:VK) (E:XK),bJ k A→rP P w K mg base A outer s H→BindsTo s fd args (ps.zip us)→aU vs us→sp vs H Q E →
  codeAny (model P w) A (.call (.ref f) args) (CR CX outer P w H s Q E) s
theorem rP.make {P:Program} {w:World} {K:PySem.W.Frag} {mg:Str→Option Value} {base:Heap} {A:Around} {outer:List Env} {s:Shared} {H:Hp} (e:rP P w K mg base A outer s H) (C:Addr) (us:List Value) (kw:List (Str × Value)) :
  rP P w K mg base (A.under (.builtin "type.__call__" ⟨.ref C :: us,kw⟩)) outer s H:=⟨by first | exact e.frames | (simpa [Around.under,Code.envs,Code.isFrame,pushEnvs] using e.frames),e.mod,e.bs,e.bsz,e.funs,e.frf,e.hok,e.bare⟩
section
variable {X:Cx} {pins:List (Addr × Obj)} {σ:St} {H:Hp} {s s':Shared}
theorem Inv.env0 (I:Inv X pins σ H s):rP X.prog X.w X.K X.mg X.base X.A X.stack s H :=
 ⟨I.ok.frames,I.ok.mod,I.bs,Nat.le_trans I.ok.bsz I.sz,I.stack,I.stkFree,I.hok,I.bare⟩
theorem Inv.after {Q:VK} {u:Value} (I:Inv X pins σ H s) (h:CE X.stack X.prog X.w H s Q u s'):EP X pins σ Q u s':=by
 obtain ⟨v,H',os,bare,un,hok,r,q⟩:=h
 obtain ⟨hh,g,d,t,os'⟩:=s'
 obtain rfl:os'=s.os:=os
 exact ⟨v,H',I.call (h':=hh) (g':=g) (d':=d) (t':=t) (ch:=[]) un hok bare (fun b z=>absurd z (by simp)),r,q⟩
end
def BX (sp:Sp) (dvs:List V) (E:XK) (t:TA):TE:=fun σ H Q=>t σ H fun vs H1=>sp (vs ++ dvs) H1 Q E
def B7 (C:Addr) (sp:Sp) (dvs:List V) (E:XK) (t:TA):TE:=fun σ H Q=>t σ H fun vs H1=>∀ x dx,H1 x=none→H1 dx=none→dx ≠ x →
 sp (.ref x :: (vs ++ dvs)) (upd (upd H1 dx (.own x)) x (.ins C dx [])) (fun v H2=>v=.non∧Q (.ref x) H2) E
def dP (K:PySem.W.Frag) (fd:FuncData) (ps:List Str) (ds:List Value):Prop :=
 ∀ (s:Shared) (us:List Value),K.In s.heap→(us ++ ds).length=ps.length→BindsTo s fd ⟨us,[]⟩ (ps.zip (us ++ ds))
theorem dP.all {K:PySem.W.Frag} {fd:FuncData} {ps:List Str} (h:∀ us:List Value,us.length=ps.length→bindArgs fd ⟨us,[]⟩=pure (ps.zip us)):dP K fd ps []:=fun s us _ hl=>by
 rw [List.append_nil] at hl ⊢
 exact .of_eq (h us hl)
def lX (CX:CXT) (X:Cx) (E:XK):Prop:=∀ (pins:List (Addr × Obj)) (σ:St) (H:Hp) (s:Shared) (e:Value) (s':Shared),Inv X pins σ H s→CX X.stack H s E e s'→X.xe e s'
section
variable {X:Cx} {CX:CXT} {k:Nat} {f C:Addr} {fd:FuncData} {ps:List Str} {sp:Sp} {dvs:List V} {ds:List Value} {E:XK} {x m:Str} {p pos apos:Pos} {e o:Expr} {es:List Expr} {ta:TE} {t:TA}
theorem pR {pins:List (Addr × Obj)} {σ:St} {H:Hp} {s:Shared} {Q:VK} {us:List Value} {vs:List V} (F:gx X.prog X.w X.K X.mg X.base CX k f fd ps sp) (hr:bJ k X.A) (hb:dP X.K fd ps ds) (hd:aU dvs ds) (hx:lX CX X E)
  (I:Inv X pins σ H s) (r:aU vs us) (h:sp (vs ++ dvs) H Q E):wpAny (model X.prog X.w) X.A (call (.ref f) us) (EP X pins σ Q) X.xe s:=by
 have r2:aU (vs ++ dvs) (us ++ ds):=r.append hd
 have hl:(us ++ ds).length=ps.length:=by rw [← r2.length]; exact F.len _ _ _ _ h
 refine wpAny_call (codeAny_mono (F.run X.A X.stack s H ⟨us,[]⟩ (us ++ ds) (vs ++ dvs) Q E hr I.env0 (hb s us I.kIn hl) r2 h) fun r s' hq=>?_)
 cases r with
 | error e=>exact hx pins σ H s e s' I hq
 | ok fl =>
  cases fl with
  | ret u=>exact I.after hq
  | next=>exact False.elim hq
  | brk=>exact False.elim hq
  | cont=>exact False.elim hq
theorem zO (F:gx X.prog X.w X.K X.mg X.base CX k f fd ps sp) (hr:bJ k X.A) (hg:Gl X x) (hm:X.mg x=some (.ref f)) (hk:PySem.W.keepIn X.K (.ref f)=true) (hb:dP X.K fd ps ds) (hd:aU dvs ds) (hx:lX CX X E)
  (ha:PA X (e :: es) t) (hdb:(x == ("__debug__":Str))=false:=by decide) (he:starEach (e :: es) X.env=(false,eval e X.env) :: starEach es X.env:=by rfl) (hpl:(backTo pos (starEach es X.env)).any (·.1)=false:=by rfl) :
  PE X (.Call (.Name x p) (e :: es) [] pos) (BX sp dvs E t):=by
 intro pins s σ H Q I h
 refine wpAny_Call_Name_kw (fX I hg hm ?_ hdb)
 refine PySem.W.callWith_K (h₀:=X.base) I.ok.mod.kin hk (thn (ha pos pins s σ H _ I h) fun us s1 ⟨vs,H1,I1,r,q⟩=>⟨I1.kIn,?_⟩) he hpl
 exact pR F hr hb hd hx I1 r q
structure Mk (K:PySem.W.Frag) (C f:Addr):Prop where
 makes:PySem.W.makesIn K C=true
 init:PySem.W.findIn K (.ref C) "__init__"=some (some (.ref f))
 fn:PySem.W.isFn K (.ref f)=true
 kp:PySem.W.keepIn K (.ref C)=true
theorem xE {pins:List (Addr × Obj)} {σ:St} {H:Hp} {s:Shared} {Q:VK} {us:List Value} {vs:List V} (M:Mk X.K C f) (F:gx X.prog X.w X.K X.mg X.base CX k f fd ps sp) (hr:bJ (k + 1) X.A) (hb:dP X.K fd ps ds) (hd:aU dvs ds)
  (hx:lX CX X E) (I:Inv X pins σ H s) (r:aU vs us)
  (h:∀ x dx,H x=none→H dx=none→dx ≠ x→sp (.ref x :: (vs ++ dvs)) (upd (upd H dx (.own x)) x (.ins C dx [])) (fun v H2=>v=.non∧Q (.ref x) H2) E) :
  wpAny (model X.prog X.w) X.A (call (.ref C) us) (EP X pins σ Q) X.xe s:=by
 have hq:=h (s.heap.objs.size + 1) s.heap.objs.size (I.hok.fresh (Nat.le_succ _)) (I.hok.fresh (Nat.le_refl _)) (Nat.ne_of_lt (Nat.lt_succ_self _))
 have I2:=Inv.made (C:=C) I
 have r2:aU (V.ref (s.heap.objs.size + 1) :: (vs ++ dvs)) (Value.ref (s.heap.objs.size + 1) :: (us ++ ds)):=.cons rfl (r.append hd)
 have hl:(Value.ref (s.heap.objs.size + 1) :: us ++ ds).length=ps.length:=by
  have e:=r2.length
  rw [F.len _ _ _ _ hq] at e
  exact e.symm
 refine wpAny_call (wm (f:=f) I.kIn M.makes M.init (beq_iff_eq.mp M.fn) (codeAny_mono (F.run _ X.stack _ _ ⟨Value.ref (s.heap.objs.size + 1) :: us,[]⟩ (Value.ref (s.heap.objs.size + 1) :: (us ++ ds)) _ _ E (hr.make C us [])
  (I2.env0.make C us []) (hb _ (Value.ref (s.heap.objs.size + 1) :: us) I2.kIn hl) r2 hq) fun r s' hq'=>?_))
 cases r with
 | error e=>exact hx pins σ _ _ e s' I2 hq'
 | ok fl =>
  cases fl with
  | ret u =>
   obtain ⟨v,H',I3,rv,ev,q3⟩:=I2.after hq'
   subst ev
   exact ⟨rv,⟨V.ref (s.heap.objs.size + 1),H',I3,rfl,q3⟩⟩
  | next=>exact False.elim hq'
  | brk=>exact False.elim hq'
  | cont=>exact False.elim hq'
theorem yL (M:Mk X.K C f) (F:gx X.prog X.w X.K X.mg X.base CX k f fd ps sp) (hr:bJ (k + 1) X.A) (hg:Gl X x) (hm:X.mg x=some (.ref C)) (hb:dP X.K fd ps ds) (hd:aU dvs ds) (hx:lX CX X E)
  (ha:PA X (e :: es) t) (hdb:(x == ("__debug__":Str))=false:=by decide) (he:starEach (e :: es) X.env=(false,eval e X.env) :: starEach es X.env:=by rfl) (hpl:(backTo pos (starEach es X.env)).any (·.1)=false:=by rfl) :
  PE X (.Call (.Name x p) (e :: es) [] pos) (B7 C sp dvs E t):=by
 intro pins s σ H Q I h
 refine wpAny_Call_Name_kw (fX I hg hm ?_ hdb)
 refine PySem.W.callWith_K (h₀:=X.base) I.ok.mod.kin M.kp (thn (ha pos pins s σ H _ I h) fun us s1 ⟨vs,H1,I1,r,q⟩=>⟨I1.kIn,?_⟩) he hpl
 exact xE M F hr hb hd hx I1 r q
end
section
variable {X:Cx} {CX:CXT} {k:Nat} {f C:Addr} {fd:FuncData} {ps ks:List Str} {sp:Sp} {E:XK} {x m:Str} {p pos apos kpos:Pos} {e o:Expr} {es:List Expr} {kws:List Keyword} {te ta:TE} {t tk:TA} {nm:Option Str}
structure Dg (K:PySem.W.Frag) (fd:FuncData) (ps ks:List Str) (g:List Value→List Value→List Value) (gV:List V→List V→List V):Prop where
 to:∀ (s:Shared) (us ws:List Value),K.In s.heap→(g us ws).length=ps.length→BindsTo s fd ⟨us,ks.zip ws⟩ (ps.zip (g us ws))
 rel:∀ {vs:List V} {us:List Value} {zs:List V} {ws:List Value},aU vs us→aU zs ws→aU (gV vs zs) (g us ws)
variable {g:List Value→List Value→List Value} {gV:List V→List V→List V}
end
structure aq (N P:List Str) (sc:Scope):Prop where
 kind:sc.kind=.function
 co:sc.isCoroutine=false
 gen:sc.isGenerator=false
 nd:N.Nodup
 pre:N.take P.length=P
 par:∀ x∈P,sc.names.lookup x=some .local∨sc.names.lookup x=some .cell
 nofree:∀ y∈sc.names,y.2 ≠ .free
theorem oa {kindOf:Str→Option NameKind} {x:Str}:∀ {binds:List (Str × Value)} {m:Str→Option Value},(∀ v,(x,v) ∉ binds)→bindL kindOf binds m x=m x
 | [],_,_=>rfl
 | (n,v) :: r,m,h=>by
  unfold bindL
  rw [oa fun w hw=>h w (List.mem_cons_of_mem _ hw)]
  split
  ·have:x ≠ n:=by rintro rfl; exact h v List.mem_cons_self
   simp [this]
  ·rfl
theorem n0 {kindOf:Str→Option NameKind} {x:Str}:∀ {binds:List (Str × Value)} {m:Str→Option Value},(∀ v,(x,v) ∉ binds)→bindC kindOf binds m x=m x
 | [],_,_=>rfl
 | (n,v) :: r,m,h=>by
  unfold bindC
  rw [n0 fun w hw=>h w (List.mem_cons_of_mem _ hw)]
  split
  ·rfl
  ·have:x ≠ n:=by rintro rfl; exact h v List.mem_cons_self
   simp [this]
theorem oh {kindOf:Str→Option NameKind} {x:Str} {v:Value}:∀ {P:List Str} {vs:List Value} {i:Nat} {m:Str→Option Value},P.Nodup→P[i]?=some x→vs[i]?=some v→kindOf x=some .local →
  bindL kindOf (P.zip vs) m x=some v
 | [],_,_,_,_,h,_,_=>by simp at h
 | _ :: _,[],_,_,_,_,h,_=>by simp at h
 | p :: P,w :: vs,0,m,nd,h1,h2,hk=>by
  simp at h1 h2; subst h1; subst h2
  show bindL kindOf ((p,w) :: P.zip vs) m p=_
  unfold bindL
  rw [oa fun v hv=>(List.nodup_cons.mp nd).1 (List.of_mem_zip hv).1,if_pos hk]
  simp
 | p :: P,w :: vs,i + 1,m,nd,h1,h2,hk=>by
  show bindL kindOf ((p,w) :: P.zip vs) m x=_
  unfold bindL
  exact oh (i:=i) (List.nodup_cons.mp nd).2 (by simpa using h1) (by simpa using h2) hk
theorem nK {kindOf:Str→Option NameKind} {x:Str} {v:Value}:∀ {P:List Str} {vs:List Value} {i:Nat} {m:Str→Option Value},P.Nodup→P[i]?=some x→vs[i]?=some v→kindOf x ≠ some .local →
  bindC kindOf (P.zip vs) m x=some v
 | [],_,_,_,_,h,_,_=>by simp at h
 | _ :: _,[],_,_,_,_,h,_=>by simp at h
 | p :: P,w :: vs,0,m,nd,h1,h2,hk=>by
  simp at h1 h2; subst h1; subst h2
  show bindC kindOf ((p,w) :: P.zip vs) m p=_
  unfold bindC
  rw [n0 fun v hv=>(List.nodup_cons.mp nd).1 (List.of_mem_zip hv).1,if_neg hk]
  simp
 | p :: P,w :: vs,i + 1,m,nd,h1,h2,hk=>by
  show bindC kindOf ((p,w) :: P.zip vs) m x=_
  unfold bindC
  exact nK (i:=i) (List.nodup_cons.mp nd).2 (by simpa using h1) (by simpa using h2) hk
def ig (N:List Str) (vs:List V):St:=vs.map some ++ List.replicate (N.length - vs.length) none
def eO (CX:CXT) (P:Program) (w:World) (K:PySem.W.Frag) (mg:Str→Option Value) (base:Heap) (N:List Str) (qual:Str) (scope:Scope) (f:Addr) (cd:Value) (A:Around) (outer:List Env) (s:Shared) (H:Hp) (E:XK):Cx where
 prog:=P
 w:=w
 K:=K
 mg:=mg
 base:=base
 A:=A.deeper (envOfC qual scope s.heap.objs.size f cd)
 N:=N
 s₀:=s
 H₀:=H
 env:=envOfC qual scope s.heap.objs.size f cd
 outer:=outer
 stack:=envOfC qual scope s.heap.objs.size f cd :: outer
 ex:=[]
 calm:=true
 fn:=fun _=>true
 pn:=[]
 xe:=fun e s'=>wpAny (model P w) (A.deeper (envOfC qual scope s.heap.objs.size f cd)) (leaving (envOfC qual scope s.heap.objs.size f cd) e) (fun _ s''=>CX outer H s E e s'') (fun e' s''=>CX outer H s E e' s'') s'
theorem q8 {sc:Scope} {n:Nat} {x:Str} (h:sc.names.lookup x=some .cell):∃ c,(cellsFrom n sc.names []).lookup x=some c:=by
 have q:=PySem.W.cellsFrom_some sc.names n [] (.inl h)
 exact Option.isSome_iff_exists.mp q
theorem uD {CX:CXT} {P:Program} {w:World} {K:PySem.W.Frag} {mg:Str→Option Value} {base:Heap} {N ps:List Str} {qual:Str} {scope:Scope} {f:Addr} {cd:Value} {A:Around} {outer:List Env} {s s1:Shared} {H:Hp} {E:XK} {us:List Value} {vs:List V}
  (S:aq N ps scope) (hd:A.handled=none) (e0:rP P w K mg base A outer s H) (hl:vs.length=ps.length) (r:aU vs us)
  (x:InCallC s s.heap.objs.size (bindL (envOfC qual scope s.heap.objs.size f cd).kindOf (ps.zip us) fun _=>none) (cellsFrom (s.heap.objs.size + 1) scope.names []) (bindC (envOfC qual scope s.heap.objs.size f cd).kindOf (ps.zip us) fun _=>none) s1) :
  Inv (eO CX P w K mg base N qual scope f cd A outer s H E) [] (ig N vs) H s1:=by
 have hpl:ps.length≤N.length:=by have:=congrArg List.length S.pre; rw [List.length_take] at this; omega
 obtain ⟨h1,tk,rfl,hk⟩:=x.done
 have noA:∀ b:Addr,b ∉ (eO CX P w K mg base N qual scope f cd A outer s H E).ex:=fun b z=>absurd (show b∈([]:List Addr) from z) (by simp)
 refine ⟨⟨e0.mod,S.kind,rfl,rfl,Nat.le_refl _,fun y z c h1 h2=>?_,fun y hy=>?_,fun y c _ h=>?_,fun _=>hd,Around.frames_deeper e0.frames,.inr ⟨rfl,rfl⟩,fun b z=>absurd z (noA b),e0.bs,e0.bsz,fun b _ _=>noA b,fun b z=>absurd z (noA b),e0.funs,e0.frf⟩,
  rfl,e0.bare,Un.kept hk,⟨_,x.toInCall.ns,fun i y v h1 h2 h3=>?_⟩,fun y c h=>⟨_,x.cell y c h⟩,e0.hok.fresh (Nat.le_refl _),fun y c h=>?_,fun p hp=>absurd (show p∈([]:List (Addr × Obj)) from hp) (by simp),e0.hok.kept hk,?_⟩
 ·exact name_of_addr x.apart (PySem.mem_of_lookup h1) (PySem.mem_of_lookup h2)
 ·have hy:scope.names.lookup y=some .cell∨scope.names.lookup y=some .free:=hy
  rcases hy with hy | hy
  ·exact q8 hy
  ·exact absurd rfl (S.nofree _ (PySem.mem_of_lookup hy))
 ·exact Nat.le_of_lt (x.above y c (PySem.mem_of_lookup h))
 ·have hi:i < vs.length:=by
   unfold ig at h2
   by_cases hi:i < vs.length
   ·exact hi
   ·rw [List.getElem?_append_right (by simpa using hi)] at h2
    rw [List.getElem?_replicate] at h2
    split at h2 <;> cases h2
  have ha:vs[i]?=some v:=by
   unfold ig at h2
   rw [List.getElem?_append_left (by simpa using hi),List.getElem?_map] at h2
   cases e:vs[i]? with
   | none=>rw [e] at h2; cases h2
   | some a=>rw [e] at h2; cases h2; rfl
  obtain ⟨u,hu,rv⟩:=r.get ha
  have hp:ps[i]?=some y:=by
   rw [← S.pre,List.getElem?_take_of_lt (by omega)]; exact h1
  have ndP:ps.Nodup:=by rw [← S.pre]; exact S.nd.sublist (List.take_sublist _ _)
  refine ⟨u,rv,?_⟩
  rcases S.par y (List.mem_of_getElem? hp) with k | k
  ·exact .inl ⟨k,oh ndP hp hu k⟩
  ·obtain ⟨c,e⟩:=q8 (n:=s.heap.objs.size + 1) k
   refine .inr ⟨.inl k,c,e,?_⟩
   have q:=x.cell y c e
   rw [nK ndP hp hu (by show scope.names.lookup y ≠ _; rw [k]; decide)] at q
   exact q
 ·exact e0.hok.fresh (Nat.le_of_lt (x.above y c (PySem.mem_of_lookup h)))
 ·unfold ig
  show _=N.length
  rw [List.length_append,List.length_map,List.length_replicate]
  omega
theorem vQ {CX:CXT} {P:Program} {w:World} {K:PySem.W.Frag} {mg:Str→Option Value} {base:Heap} {k:Nat} {f:Addr} {name qual:Str} {params:Arguments} {body:List Stmt} {scope:Scope} {dV kV doc pm cdv ct oc:Value} {an od:Option Addr}
  {osl:Array (Option Value)} {N ps:List Str} {sp:Sp} (lk:K.lookup f=some ⟨oc,od,.func (PySem.W.fnOf name qual params body scope dV kV doc pm an cdv ct),osl⟩) (hcd:PySem.W.codeIn K cdv qual=true) (S:aq N ps scope)
  (len:∀ vs H Q E,sp vs H Q E→vs.length=ps.length)
  (hbody:∀ (A:Around) (outer:List Env) (s:Shared) (H:Hp) (vs:List V) (Q:VK) (E:XK),bJ k (A.deeper (envOfC qual scope s.heap.objs.size f cdv))→sp vs H Q E →
   ∃ t,PSs (eO CX P w K mg base N qual scope f cdv A outer s H E) body t∧t { nx:=fun _ H'=>Q .non H',rt:=Q } (ig N vs) H) :
  gx P w K mg base CX (k + 1) f (PySem.W.fnOf name qual params body scope dV kV doc pm an cdv ct) ps sp:=by
 refine ⟨len,fun A outer s H args us vs Q E hr e0 hb r hsp=>?_⟩
 have hl:=len _ _ _ _ hsp
 have KX:K.In s.heap:=e0.mod.kin.keeps fun b o e=>(e0.bs b o e).1
 have lim:s.heap.NoLimit:=e0.mod.nolimit.keeps fun b o e=>(e0.bs b o e).1
 have hkind:∀ y∈ps.zip us,scope.names.lookup y.1=some .local∨(scope.names.lookup y.1=some .cell∧((cellsFrom (s.heap.objs.size + 1) scope.names []).lookup y.1).isSome=true):=fun ⟨n,v⟩ hy=>by
  rcases S.par n (List.of_mem_zip hy).1 with q | q
  ·exact .inl q
  ·exact .inr ⟨q,PySem.W.cellsFrom_some _ _ _ (.inl q)⟩
 refine codeAny_call_function hr.depth (KX _ _ lk) rfl S.co S.gen rfl (PySem.W.codeRec_of KX hcd) (hb _ _ _ _ ?_)
 refine wpAny_newFunctionEnv_cells S.kind hkind fun env he s1 x=>?_
 subst he
 refine ⟨lim.keeps x.toInCall.keep,codeAny_func ?_⟩
 obtain ⟨t,ht,hq⟩:=hbody A outer s H vs Q E (hr.deeper _) hsp
 have I:Inv (eO CX P w K mg base N qual scope f cdv A outer s H E) [] (ig N vs) H s1:=uD S hr.hd e0 hl r x
 refine wpAny_mono (ht [] s1 (ig N vs) H _ I hq) (fun fl s' hs=>?_) fun e s' hs=>hs
 have fin:∀ {σ':St} {H':Hp} {v:V} {u:Value},Inv (eO CX P w K mg base N qual scope f cdv A outer s H E) [] σ' H' s'→bf v u→Q v H'→CE outer P w H s Q u s' :=
  fun {σ' H' v u} J rv q=>⟨v,H',J.os,J.bare,J.base,J.hok,rv,q⟩
 cases fl with
 | ret u =>
  obtain ⟨v,σ',H',J,rv,q⟩:=hs
  exact fin J rv q
 | next =>
  obtain ⟨σ',H',J,q⟩:=hs
  exact fin (v:=V.non) (u:=Value.none) J rfl q
 | brk =>
  obtain ⟨_,_,_,q⟩:=hs
  exact False.elim q
 | cont =>
  obtain ⟨_,_,_,q⟩:=hs
  exact False.elim q
end L2
namespace L2
open PySem PySem.Spec PyProof.Rows
section
variable {X:Cx} {x:Str} {p pos:Pos} {e:Expr} {es:List Expr} {t:TA} {id T:String} {r:List V→Hp→VK→Prop}
def tCB (r:List V→Hp→VK→Prop) (t:TA):TE:=fun σ H Q=>t σ H fun vs H1=>r vs H1 Q
theorem wD (hc:jh X (.builtin id) r) (hg:Gl X x) (hm:X.mg x=none) (hv:bootBuiltins x=some (.builtin id)) (ha:PA X (e :: es) t) (hn:x ≠ "__name__":=by decide) (hdb:(x == ("__debug__":Str))=false:=by decide)
  (he:starEach (e :: es) X.env=(false,eval e X.env) :: starEach es X.env:=by rfl) (hpl:(backTo pos (starEach es X.env)).any (·.1)=false:=by rfl):PE X (.Call (.Name x p) (e :: es) [] pos) (tCB r t):=by
 intro pins s σ H Q I h
 refine wpAny_Call_Name_kw (gO I hg hm hv ?_ hn hdb)
 exact PyProof.Rows.callWith_builtin1 (thn (ha pos pins s σ H _ I h) fun us s1 ⟨vs,H1,I1,r1,q1⟩=>hc pins s1 σ H1 vs us Q I1 r1 q1) he hpl
theorem vb (hc:jh X (.type T) r) (hg:Gl X x) (hm:X.mg x=none) (hv:bootBuiltins x=some (.type T)) (ha:PA X (e :: es) t) (hn:x ≠ "__name__":=by decide) (hdb:(x == ("__debug__":Str))=false:=by decide)
  (he:starEach (e :: es) X.env=(false,eval e X.env) :: starEach es X.env:=by rfl) (hpl:(backTo pos (starEach es X.env)).any (·.1)=false:=by rfl):PE X (.Call (.Name x p) (e :: es) [] pos) (tCB r t):=by
 intro pins s σ H Q I h
 refine wpAny_Call_Name_kw (gO I hg hm hv ?_ hn hdb)
 exact PyProof.Rows.callWith_type1 (thn (ha pos pins s σ H _ I h) fun us s1 ⟨vs,H1,I1,r1,q1⟩=>hc pins s1 σ H1 vs us Q I1 r1 q1) he hpl
end
end L2
namespace HT
open PySem PyProof.Rows
section
open PySem.SeqAt
open PySem.AutoSeq1 (wpAny_loadPart')
open PySem.MeetsSeq PySem.MeetsSeq2 PySem.MeetsSeq3
end
section
variable {prog:Program} {w:World} {A:Around} {E:Value→Shared→Prop} {s:Shared}
theorem zE {t b:Addr} {vs ws:List Value} {Q:Value→Shared→Prop} (ht:IsTup s.heap t vs.toArray) (hb:IsTup s.heap b ws.toArray) (hv:vs ≠ [])
  (h1:ws=[]→Q (.ref t) s) (h2:ws ≠ []→Q (.ref s.heap.objs.size) { s with heap:=s.heap.push { cls:=.type "tuple",data:=.seq (vs ++ ws).toArray } })
  (hsz:vs.length + ws.length≤sizeLine):wpAny (model prog w) A (binaryOp .Add (.ref t) (.ref b)) Q E s:=by
 obtain ⟨⟨cls,dd,data,sl⟩,ho,hc,n,hd⟩:=id ht
 obtain ⟨⟨cls2,dd2,data2,sl2⟩,ho2,hc2,n2,hd2⟩:=id hb
 simp only at hc hd hc2 hd2
 subst hc hd hc2 hd2
 have e:vs.toArray ++ ws.toArray=(vs ++ ws).toArray:=by simp
 by_cases hw:ws=[]
 ·exact concat_meets ⟨_,ho,rfl⟩ ⟨_,ho2,rfl⟩ noFill_tuple_add seq_tuple_add PySem.F.slot_tuple_add PySem.F.entry_tuple_add (PySem.F.args_tuple_add_2 _ _)
   (tuple_addW1 t b vs.toArray ws.toArray n n2 dd dd2 sl sl2 (by simpa using hv) (by simp [hw])) ⟨ho,ho2,h1 hw⟩
 ·refine concat_meets ⟨_,ho,rfl⟩ ⟨_,ho2,rfl⟩ noFill_tuple_add seq_tuple_add PySem.F.slot_tuple_add PySem.F.entry_tuple_add (PySem.F.args_tuple_add_2 _ _)
   (tuple_addW2 t b vs.toArray ws.toArray n n2 dd dd2 sl sl2 (by simpa using hv) (by simpa using hw) (by rw [List.size_toArray,List.size_toArray]; exact hsz)) ⟨ho,ho2,?_⟩
  rw [e]
  exact h2 hw
def sIx (n d:Nat):Option Int→Nat
 | none=>d
 | some v=>if v < 0 then (v + (n:Int)).toNat else min v.toNat n
theorem qD (n d:Nat):sIx n d none=d:=rfl
theorem sY (n d k:Nat):sIx n d (some (k:Int))=min k n:=by
 show (if (k:Int) < 0 then ((k:Int) + (n:Int)).toNat else min (k:Int).toNat n)=min k n
 rw [if_neg (by omega),Int.toNat_natCast]
theorem Bf (n d:Nat) (hd:d≤n) (o:Option Int):sIx n d o≤n:=by
 cases o with
 | none=>exact hd
 | some v =>
  show (if v < 0 then (v + (n:Int)).toNat else min v.toNat n)≤n
  by_cases hv:v < 0
  ·rw [if_pos hv]; omega
  ·rw [if_neg hv]; exact Nat.min_le_right _ _
theorem tL (v:Int) (n d:Nat):(if v < 0 then max (v + (n:Int)) 0 else min v (n:Int))=((sIx n d (some v):Nat):Int):=by
 show (if v < 0 then max (v + (n:Int)) 0 else min v (n:Int))=(((if v < 0 then (v + (n:Int)).toNat else min v.toNat n):Nat):Int)
 by_cases hv:v < 0
 ·simp only [if_pos hv]; omega
 ·simp only [if_neg hv]; omega
theorem su (lo hi:Option Int) (n:Nat):Builtin.Slice.sliceAdjust lo hi 1 (n:Int)=(((sIx n 0 lo:Nat):Int),((sIx n n hi:Nat):Int)):=by
 have h1:¬ ((1:Int) < 0):=by omega
 unfold Builtin.Slice.sliceAdjust
 simp only [h1,if_false]
 refine Prod.ext ?_ ?_
 ·cases lo with
  | none=>rfl
  | some v=>exact tL v n 0
 ·cases hi with
  | none=>rfl
  | some v=>exact tL v n n
theorem sI (i j:Nat):Builtin.Slice.slicePlaces (i:Int) (j:Int) 1=j - i:=by
 unfold Builtin.Slice.slicePlaces
 have h1:(1:Int) > 0:=by omega
 simp only [h1,if_true,Int.ediv_one]
 split <;> omega
theorem lK {v:Value} {o:Option Int} {Q:Option Int→Shared→Prop} (p:IsPart v o) (h:Q o s):wpAny (model prog w) A (Builtin.Slice.slicePartIndex v) Q E s:=by
 cases p with
 | none=>exact slicePart_none h
 | int i t=>exact slicePart_int h
theorem fF {sl:Addr} {vl vu:Value} {lo hi:Option Int} {n:Nat} {Q:Int × Int × Nat→Shared→Prop} (hs:s.heap.IsSliceOf sl vl vu .none) (pl:IsPart vl lo) (pu:IsPart vu hi)
  (h:Q (((sIx n 0 lo:Nat):Int),1,sIx n n hi - sIx n 0 lo) s):wpAny (model prog w) A (Builtin.Slice.sliceApplied (.ref sl) (pure (n:Int))) Q E s:=by
 obtain ⟨os,hos,hcs,hds⟩:=id hs
 unfold Builtin.Slice.sliceApplied Builtin.Slice.sliceFields
 refine wpAny_bind (wpAny_bind (wpAny_field hos hds (x:=vl) rfl (wpAny_bind (wpAny_field hos hds (x:=vu) rfl (wpAny_bind (wpAny_field hos hds (x:=.none) rfl (wpAny_pure ?_)))))))
 refine wpAny_bind (slicePart_none ?_)
 show wpAny _ _ (if ((1:Int) == 0)=true then _ else _) _ _ s
 rw [if_neg (by decide)]
 refine wpAny_bind (lK pl (wpAny_bind (lK pu (wpAny_bind (wpAny_pure ?_)))))
 show wpAny _ _ (match Builtin.Slice.sliceAdjust lo hi 1 (n:Int) with | (lo,hi)=>pure (lo,(1:Int),Builtin.Slice.slicePlaces lo hi 1)) _ _ s
 rw [su lo hi n]
 show wpAny _ _ (pure (((sIx n 0 lo:Nat):Int),(1:Int),Builtin.Slice.slicePlaces ((sIx n 0 lo:Nat):Int) ((sIx n n hi:Nat):Int) 1)) _ _ s
 rw [sI]
 exact wpAny_pure h
theorem xD (xs:Array Value) (i k:Nat):((List.range k).filterMap fun (m:Nat)=>xs[((i:Int) + (m:Int) * 1).toNat]?).toArray=((xs.toList.drop i).take k).toArray:=by
 have e:(fun (m:Nat)=>xs[((i:Int) + (m:Int) * 1).toNat]?)=fun m=>xs[i + m]?:=by
  funext m
  have:((i:Int) + (m:Int) * 1).toNat=i + m:=by omega
  rw [this]
 rw [e]
 have:=pick_run xs i k
 rw [List.filterMap_map] at this
 have e2:((fun x=>xs[x]?) ∘ fun x=>i + x)=fun m=>xs[i + m]?:=rfl
 rw [e2] at this
 rw [this]
theorem ji {t sl:Addr} {items:Array Value} {vl vu:Value} {lo hi:Option Int} {Q:Value→Shared→Prop} (ht:IsTup s.heap t items) (hs:s.heap.IsSliceOf sl vl vu .none) (pl:IsPart vl lo) (pu:IsPart vu hi)
  (hw:¬ (sIx items.size 0 lo=0∧sIx items.size items.size hi=items.size))
  (h:Q (.ref s.heap.objs.size) { s with heap:=s.heap.push { cls:=.type "tuple",data:=.seq ((items.toList.drop (sIx items.size 0 lo)).take (sIx items.size items.size hi - sIx items.size 0 lo)).toArray } })
  (hsz:items.size≤sizeLine):wpAny (model prog w) A (getItem (.ref t) (.ref sl)) Q E s:=by
 have htake:sizeOk (.seq ((items.toList.drop (sIx items.size 0 lo)).take (sIx items.size items.size hi - sIx items.size 0 lo)).toArray):=by
  show ((items.toList.drop (sIx items.size 0 lo)).take (sIx items.size items.size hi - sIx items.size 0 lo)).toArray.size≤sizeLine
  rw [List.size_toArray,List.length_take,List.length_drop,Array.length_toList]
  omega
 have hj:sIx items.size items.size hi≤items.size:=Bf _ _ (Nat.le_refl _) hi
 obtain ⟨os,hos,hcs,hds⟩:=id hs
 have hTs:s.TypeIs (.ref sl) "slice":=⟨os,hos,hcs⟩
 unfold getItem
 try with_reducible refine wpAny_holding ?_
 first | refine wpAny_bind (wpAny_pure ?_) | skip
 refine wpAny_bind (wpAny_sequenceKey ht.typeIs (by decide) ?_)
 refine wpAny_bind (wpAny_callSpecial?_slot (name:=Str.ofString "__getitem__") ht.typeIs PyProof.Rows.slot_tuple_getitem
  (wpAny_call_entry PyProof.Rows.slot_tuple_getitem ht.typeIs entry_tuple_getitem ?_ (args_tuple_getitem _ _)))
 show wpAny _ _ (Builtin.Tuple.tupleItemsOf (.ref t) >>= _) _ _ s
 refine wpAny_bind (tupleItemsOf_ ht ?_)
 refine wpAny_bind (wpAny_typeOf hTs ?_)
 rw [if_pos (by decide)]
 refine wpAny_bind (fF hs pl pu ?_)
 have hno:¬ ((((sIx items.size 0 lo:Nat):Int) == 0 && (1:Int) == 1 && (sIx items.size items.size hi - sIx items.size 0 lo) == items.size)=true):=by
  intro q
  rw [Bool.and_eq_true,Bool.and_eq_true] at q
  have q1:((sIx items.size 0 lo:Nat):Int)=0:=eq_of_beq q.1.1
  have q2:sIx items.size items.size hi - sIx items.size 0 lo=items.size:=eq_of_beq q.2
  exact hw ⟨by omega,by omega⟩
 show wpAny _ _ (if (((sIx items.size 0 lo:Nat):Int) == 0 && (1:Int) == 1 && (sIx items.size items.size hi - sIx items.size 0 lo) == items.size)=true then _ else _) _ _ s
 rw [if_neg hno,xD]
 first
  | exact wpAny_bind (m:=Builtin.Tuple.tupleExact _) (wpAny_newObj_type (wpAny_pure ⟨_,rfl,wpAny_pure h⟩) htake)
  | exact wpAny_bind (m:=Builtin.Tuple.tupleExact _) (wpAny_newObj_type (wpAny_bind (wpAny_pure (wpAny_pure ⟨_,rfl,wpAny_pure h⟩))) htake)
  | exact wpAny_bind (wpAny_bind (m:=Builtin.Tuple.tupleExact _) (wpAny_newObj_type (wpAny_pure (wpAny_pure ⟨_,rfl,wpAny_pure h⟩)) htake))
  | exact wpAny_bind (wpAny_bind (m:=Builtin.Tuple.tupleExact _) (wpAny_newObj_type (wpAny_pure ⟨_,rfl,wpAny_pure h⟩) htake))
end
end HT
namespace L2
open PySem PySem.Spec PyProof.Rows
abbrev TO:=St→Hp→(Option Int→Hp→Prop)→Prop
def PO (X:Cx) (e:Option Expr) (t:TO):Prop :=
 ∀ (pins:List (Addr × Obj)) (s:Shared) (σ:St) (H:Hp) (Q:Option Int→Hp→Prop),Inv X pins σ H s→t σ H Q →
  wpAny (model X.prog X.w) X.A (evalPart e X.env) (fun u s'=>∃ o H',Inv X pins σ H' s'∧IsPart u o∧Q o H') X.xe s
def yo:TO:=fun _ H Q=>Q none H
def Ck (t:TE):TO:=fun σ H Q=>t σ H fun x H1=>∃ i,x=.int i∧Q (some i) H1
section
variable {X:Cx} {e:Expr} {te:TE} {lo hi:Option Expr} {tl th:TO} {pos p2:Pos}
theorem zU:PO X none yo:=by
 intro pins s σ H Q I h
 rw [evalPart_none]
 exact wpAny_pure ⟨none,H,I,.none,h⟩
theorem zX (h:PE X e te):PO X (some e) (Ck te):=by
 intro pins s σ H Q I hw
 rw [evalPart_some]
 refine thn (h pins s σ H _ I hw) fun u s1 ⟨x,H1,I1,r1,q1⟩=>?_
 obtain ⟨i,rfl,q⟩:=q1
 obtain ⟨t,rfl⟩:=r1
 exact ⟨some i,H1,I1,.int i t,q⟩
def SlR (X:Cx) (r:V→Option Int→Option Int→Hp→VK→Prop):Prop :=
 ∀ (pins:List (Addr × Obj)) (s:Shared) (σ:St) (H:Hp) (x:V) (v vl vu:Value) (lo hi:Option Int) (sl:Addr) (Q:VK),Inv X pins σ H s→bf x v→s.heap.IsSliceOf sl vl vu .none→IsPart vl lo→IsPart vu hi→r x lo hi H Q →
  ∃ T id,typeLookup (.type T) "__getitem__"=pure (some (.builtin id))∧s.TypeIs v T∧wpAny (model X.prog X.w) X.A (getItem v (.ref sl)) (EP X pins σ Q) X.xe s
def tSl (r:V→Option Int→Option Int→Hp→VK→Prop) (te:TE) (tl th:TO):TE:=fun σ H Q=>te σ H fun x H1=>tl σ H1 fun l H2=>th σ H2 fun u H3=>r x l u H3 Q
theorem xw {r:V→Option Int→Option Int→Hp→VK→Prop} (hr:SlR X r) (he:PE X e te) (hl:PO X lo tl) (hu:PO X hi th):PE X (.Subscript e (.Slice lo hi none p2) pos) (tSl r te tl th):=by
 intro pins s σ H Q I h
 refine Subscript_ (thn (he pins s σ H _ I h) fun v s1 ⟨x,H1,I1,r1,q1⟩=>?_)
 refine wpAny_Slice (thn (hl pins s1 σ H1 _ I1 q1) fun vl s2 ⟨l,H2,I2,pl,q2⟩=>thn (hu pins s2 σ H2 _ I2 q2) fun vu s3 ⟨u,H3,I3,pu,q3⟩=>?_)
 rw [evalPart_none]
 refine wpAny_pure ?_
 have I4:Inv X pins σ H3 { s3 with heap:=s3.heap.push { cls:=.type "slice",data:=.fields #[vl,vu,.none] } }:=I3.kept (t':=s3.toks) fun b ob q=>Heap.get?_push_of_some _ q
 obtain ⟨T,id,hT,ht,hg⟩:=hr pins { s3 with heap:=s3.heap.push { cls:=.type "slice",data:=.fields #[vl,vu,.none] } } σ H3 x v vl vu l u s3.heap.objs.size Q I4 r1 (Heap.IsSliceOf.new ..) pl pu q3
 show wpAny (model X.prog X.w) X.A (subscriptTail e (.Slice lo hi none p2) v (.ref s3.heap.objs.size)) (EP X pins σ Q) X.xe { s3 with heap:=s3.heap.push { cls:=.type "slice",data:=.fields #[vl,vu,.none] } }
 exact tail_any (ops:=[.ref s3.heap.objs.size,v]) ht hT hg (by with_unfolding_all rfl)
def lC (xs:List V) (lo hi:Option Int):List V:=(xs.drop (HT.sIx xs.length 0 lo)).take (HT.sIx xs.length xs.length hi - HT.sIx xs.length 0 lo)
theorem kr (xs:List V) (lo hi:Option Int):(lC xs lo hi).length≤xs.length:=by
 unfold lC
 rw [List.length_take,List.length_drop]
 omega
def DI (K:PySem.W.Frag):V→Option Int→Option Int→Hp→VK→Prop:=fun x lo hi H Q=>∃ a xs,x=.ref a∧SqT K H a xs ∧
 ¬ (HT.sIx xs.length 0 lo=0∧HT.sIx xs.length xs.length hi=xs.length)∧∀ p,H p=none→Q (.ref p) (upd H p (.tup (lC xs lo hi)))
theorem BA:SlR X (DI X.K):=by
 intro pins s σ H x v vl vu lo hi sl Q I rx hs pl pu h
 obtain ⟨a,xs,rfl,hx,hw,q⟩:=h
 cases rx
 obtain ⟨its,r,ht,hz⟩:=I.tuple hx
 have hlen:its.toArray.size=xs.length:=by rw [List.size_toArray]; exact r.length.symm
 refine ⟨"tuple",_,PyProof.Rows.slot_tuple_getitem.lookup,ht.typeIs,?_⟩
 refine HT.ji ht hs pl pu (by rw [hlen]; exact hw) ?_ (by rw [hlen]; exact hz)
 rw [hlen]
 refine ⟨.ref s.heap.objs.size,_,I.laid (t':=s.toks) (o:=.tup (lC xs lo hi)) (fun b ob q=>Heap.get?_push_of_some _ q) (Nat.le_refl _) ?_,rfl,q _ (I.hok.fresh (Nat.le_refl _))⟩
 exact ⟨Nat.le_trans (kr xs lo hi) hz,_,(r.drop (HT.sIx xs.length 0 lo)).take (HT.sIx xs.length xs.length hi - HT.sIx xs.length 0 lo),mU.new _ _⟩
def Cn (K:PySem.W.Frag):R2:=fun x y H Q=>∃ a b xs ys,x=.ref a∧y=.ref b∧SqT K H a xs∧SqT K H b ys∧xs ≠ []∧xs.length + ys.length≤sizeLine ∧
 (ys=[]→Q (.ref a) H)∧(ys ≠ []→∀ p,H p=none→Q (.ref p) (upd H p (.tup (xs ++ ys))))
theorem aU.nil_iff {xs:List V} {us:List Value} (r:aU xs us):us=[] ↔ xs=[]:=by
 cases r with
 | nil=>simp
 | cons _ _=>simp
theorem ze:OpR X (binaryOp .Add) (Cn X.K):=by
 intro pins s σ H x y v u Q I rx ry h
 obtain ⟨a,b,xs,ys,rfl,rfl,ha,hb,hx,hz,q1,q2⟩:=h
 cases rx
 cases ry
 obtain ⟨its,r1,p1,_⟩:=I.tuple ha
 obtain ⟨its2,r2,p2,_⟩:=I.tuple hb
 refine HT.zE p1 p2 (fun z=>hx (r1.nil_iff.mp z)) (fun z=>⟨.ref a,H,I,rfl,q1 (r2.nil_iff.mp z)⟩) (fun z=>?_) (by rw [← r1.length,← r2.length]; exact hz)
 refine ⟨.ref s.heap.objs.size,_,I.laid (t':=s.toks) (o:=.tup (xs ++ ys)) (fun b ob q=>Heap.get?_push_of_some _ q) (Nat.le_refl _) ?_,rfl,q2 (fun w=>z (r2.nil_iff.mpr w)) _ (I.hok.fresh (Nat.le_refl _))⟩
 exact ⟨by rw [List.length_append]; exact hz,_,r1.append r2,mU.new _ _⟩
end
end L2
namespace L2
open PySem PySem.Spec PyProof.Rows
def ixN (n:Nat) (i:Int):Option Nat:=if 0≤i then (if i < n then some i.toNat else none) else if -(n:Int)≤i then some (i + n).toNat else none
def atI {α:Type} (xs:List α) (i:Int):Option α:=(ixN xs.length i).bind fun j=>xs[j]?
theorem ue {n:Nat} {i:Int} {j:Nat} (h:ixN n i=some j):seqIndex? i n=some j∧j < n∧-(n:Int)≤i∧i < n:=by
 unfold ixN at h
 by_cases h0:0≤i
 ·rw [if_pos h0] at h
  by_cases h1:i < n
  ·rw [if_pos h1] at h
   have e:i.toNat=j:=Option.some.inj h
   exact ⟨by rw [seqIndex_of h0 h1,e],by omega,by omega,h1⟩
  ·rw [if_neg h1] at h; cases h
 ·rw [if_neg h0] at h
  by_cases h1:-(n:Int)≤i
  ·rw [if_pos h1] at h
   have e:(i + n).toNat=j:=Option.some.inj h
   exact ⟨by rw [seqIndex_neg (by omega) h1,e],by omega,h1,by omega⟩
  ·rw [if_neg h1] at h; cases h
theorem oY {α:Type} {xs:List α} {i:Int} {v:α} (h:atI xs i=some v):∃ j,seqIndex? i xs.length=some j∧xs[j]?=some v∧j < xs.length∧-(xs.length:Int)≤i∧i < xs.length:=by
 unfold atI at h
 cases e:ixN xs.length i with
 | none=>rw [e] at h; cases h
 | some j =>
  rw [e] at h
  obtain ⟨h1,h2,h3,h4⟩:=ue e
  exact ⟨j,h1,h,h2,h3,h4⟩
theorem hU {α:Type} {xs:List α} {j:Nat} {v:α} (h:xs[j]?=some v):atI xs (j:Int)=some v:=by
 have hj:j < xs.length:=(List.getElem?_eq_some_iff.mp h).1
 have e:ixN xs.length (j:Int)=some j:=by
  unfold ixN
  rw [if_pos (by omega),if_pos (by omega)]; simp
 unfold atI; rw [e]; exact h
def pI (b:Expr):Prop:=∀ o i,subscripted b false o i=operate [o,i] (getItem o i)
def IxR (X:Cx) (r:R2):Prop :=
 ∀ (value slice:Expr) (pins:List (Addr × Obj)) (s:Shared) (σ:St) (H:Hp) (x y:V) (v u:Value) (Q:VK),Inv X pins σ H s→bf x v→bf y u→r x y H Q →
  subscripted slice false v u=operate [v,u] (getItem v u)→wpAny (model X.prog X.w) X.A (subscriptTail value slice v u) (EP X pins σ Q) X.xe s
def MtR (X:Cx) (id:String) (r:V→List V→Hp→VK→Prop):Prop :=
 ∀ (pins:List (Addr × Obj)) (s:Shared) (σ:St) (H:Hp) (x:V) (xs:List V) (v:Value) (us:List Value) (Q:VK),Inv X pins σ H s→bf x v→aU xs us→r x xs H Q →
  wpAny (model X.prog X.w) X.A (call (.builtin id) (v :: us)) (EP X pins σ Q) X.xe s
section
variable {X:Cx} {a b:Expr} {ta tb:TE} {pos:Pos}
theorem An {r:R2} (hr:IxR X r) (ha:PE X a ta) (hb:PE X b tb) (hs:pI b):PE X (.Subscript a b pos) (tOp r ta tb):=by
 intro pins s σ H Q I h
 exact Subscript_ (Aq ha hb I h fun v u s2 x y H2 I2 rx ry q=>hr a b pins s2 σ H2 x y v u Q I2 rx ry q (hs _ _))
def DH (K:PySem.W.Frag):R2:=fun x y H Q=>∃ p xs i v,x=.ref p∧y=.int i∧SqL K H p xs∧atI xs i=some v∧Q v H
def Dz (K:PySem.W.Frag):R2:=fun x y H Q=>∃ p xs i v,x=.ref p∧y=.int i∧SqT K H p xs∧atI xs i=some v∧Q v H
def Dc:R2:=fun x y H Q=>∃ z i c,x=.str z∧y=.int i∧z.length≤sizeLine∧atI z.cps.toList i=some c∧Q (.str ⟨#[c]⟩) H
theorem tQ:IxR X (DH X.K):=by
 intro value slice pins s σ H x y v u Q I rx ry h hs
 obtain ⟨p,xs,i,z,rfl,rfl,hq,he,q⟩:=h
 cases rx
 obtain ⟨t,rfl⟩:=ry
 obtain ⟨its,r,pl,hz⟩:=I.list hq
 obtain ⟨j,h1,h2,h3,h4,h5⟩:=oY he
 obtain ⟨w,ew,rw'⟩:=r.get h2
 have hl:=r.length
 have hn:=iX
 have fin:EP X pins σ Q w s:=⟨z,H,I,rw',q⟩
 by_cases h0:0≤i
 ·have hj:i.toNat=j:=by
   rw [seqIndex_of h0 h5] at h1
   exact Option.some.inj h1
  exact item_listR pl.isList h0 (by omega) (by rw [hj]; simpa using ew) fin hs
 ·have hj:(i + (its.toArray.size:Int)).toNat=j:=by
   rw [seqIndex_neg (by omega) h4] at h1
   rw [List.size_toArray,← hl]
   exact Option.some.inj h1
  exact subscriptTail_builtinR (x:=w) pl.isList.typeIs slot_list_getitem.lookup
   (wpAny_getItem_list_neg (Q:=fun r s'=>r=w∧EP X pins σ Q r s') pl.isList (by omega) (by rw [List.size_toArray] <;> omega) (by omega) (by rw [hj]; simpa using ew) ⟨rfl,fin⟩) hs
theorem Bx:IxR X (Dz X.K):=by
 intro value slice pins s σ H x y v u Q I rx ry h hs
 obtain ⟨p,xs,i,z,rfl,rfl,hq,he,q⟩:=h
 cases rx
 obtain ⟨t,rfl⟩:=ry
 obtain ⟨its,r,pl,hz⟩:=I.tuple hq
 obtain ⟨j,h1,h2,h3,h4,h5⟩:=oY he
 obtain ⟨w,ew,rw'⟩:=r.get h2
 have hl:=r.length
 have hn:=iX
 have fin:EP X pins σ Q w s:=⟨z,H,I,rw',q⟩
 exact subscriptTail_builtinR (x:=w) pl.typeIs slot_tuple_getitem.lookup
  (getItem_tuple (j:=j) (Q:=fun r s'=>r=w∧EP X pins σ Q r s') pl (by omega) (by omega) (by rw [List.size_toArray,← hl]; exact h1) (by simpa using ew) ⟨rfl,fin⟩) hs
theorem BI:IxR X Dc:=by
 intro value slice pins s σ H x y v u Q I rx ry h hs
 obtain ⟨z,i,c,rfl,rfl,hz,he,q⟩:=h
 obtain ⟨t,rfl⟩:=rx
 obtain ⟨t',rfl⟩:=ry
 obtain ⟨j,h1,h2,h3,h4,h5⟩:=oY he
 have hl:z.cps.toList.length=z.length:=by simp [Str.length]
 rw [hl] at h1 h4 h5
 have hn:=iX
 exact tail_any (typeIs_str s z t) slot_str_getitem.lookup (getItem_str (c:=c) (by
  have e1:decide (i < -(2 ^ 63:Int))=false:=decide_eq_false (by omega)
  have e2:decide (i ≥ 2 ^ 63)=false:=decide_eq_false (by omega)
  rw [e1,e2,Bool.or_false]) (by rw [h1]; simpa using h2) ⟨.str ⟨#[c]⟩,H,I.tok _,⟨_,rfl⟩,q⟩) hs
theorem sN (its:List Value) (n j:Nat) (u:Value):Obj.mapSeq (·.setIfInBounds j u) { cls:=.type "list",data:=.seq its.toArray n }={ cls:=.type "list",data:=.seq (its.set j u).toArray n }:=by
 simp [Obj.mapSeq]
theorem Inv.lst {pins:List (Addr × Obj)} {σ:St} {H:Hp} {s:Shared} {p:Addr} {xs:List V} (I:Inv X pins σ H s) (h:H p=some (.lst xs)) :
  ∃ (its:List Value) (n:Nat),aU xs its∧s.heap.get? p=some { cls:=.type "list",data:=.seq its.toArray n }∧xs.length≤sizeLine:=by
 obtain ⟨z,its,n,r,e⟩:=I.hok p _ h
 exact ⟨its,n,r,e,z⟩
theorem Inv.lstUpd {pins:List (Addr × Obj)} {σ:St} {H:Hp} {s:Shared} {p:Addr} {xs ys:List V} {its its':List Value} {n n':Nat} {f:Obj→Obj} (I:Inv X pins σ H s) (h:H p=some (.lst xs))
  (ho:s.heap.get? p=some { cls:=.type "list",data:=.seq its.toArray n }) (hf:f { cls:=.type "list",data:=.seq its.toArray n }={ cls:=.type "list",data:=.seq its'.toArray n' }) (r:aU ys its') (hz:ys.length≤sizeLine) (t:Nat) :
  Inv X pins σ (upd H p (.lst ys)) { s with heap:=s.heap.update p f,toks:=t }:=by
 have e:(s.heap.update p f).get? p=some { cls:=.type "list",data:=.seq its'.toArray n' }:=by
  rw [Heap.get?_update_self f ho (by rw [hf] <;> rfl),hf]
 refine I.write (x:=p) (e:=p) (by rw [h]; trivial) (.inl rfl) (fun b u hb q=>(Heap.get?_update_other _ _ (Ne.symm hb)).trans q) ⟨_,e⟩ ?_
 exact ⟨hz,its',n',r,e⟩
def CF:V→V→V→Hp→(Hp→Prop)→Prop:=fun o i v H Q=>∃ p xs k j,o=.ref p∧i=.int k∧H p=some (.lst xs)∧ixN xs.length k=some j∧Q (upd H p (.lst (xs.set j v)))
theorem wI:Cd X CF:=by
 intro pins s σ H o i v ov iv u Q I ro ri rv h
 obtain ⟨p,xs,k,j,rfl,rfl,hp,hj,q⟩:=h
 cases ro
 obtain ⟨t,rfl⟩:=ri
 obtain ⟨its,n,r,ho,hz⟩:=I.lst hp
 obtain ⟨h1,h2,h3,h4⟩:=ue hj
 have hl:=r.length
 have hn:=iX
 have I':Inv X pins σ (upd H p (.lst (xs.set j v))) { s with heap:=s.heap.update p (Obj.mapSeq (·.setIfInBounds j u)) } :=
  I.lstUpd hp ho (sN its n j u) (r.set rv j) (by rw [List.length_set]; exact hz) s.toks
 by_cases h0:0≤k
 ·have hk:k.toNat=j:=by
   rw [seqIndex_of h0 h4] at h1
   exact Option.some.inj h1
  exact PySem.W.ki_setAt ho h0 (by omega) (by rw [List.size_toArray,← hl]; exact h4) (by rw [hk]; exact ⟨_,I',q⟩)
 ·have hk:(k + (its.toArray.size:Int)).toNat=j:=by
   rw [seqIndex_neg (by omega) h3] at h1
   rw [List.size_toArray,← hl]
   exact Option.some.inj h1
  exact PySem.W.ki_setBack ho (by omega) (by rw [List.size_toArray,← hl]; exact h3) (by omega) (by rw [hk]; exact ⟨_,I',q⟩)
theorem oO (lo hi:Option Int) (n:Nat):(sliceBounds lo hi none n).1=((HT.sIx n 0 lo:Nat):Int)∧(sliceBounds lo hi none n).2.1=((HT.sIx n n hi:Nat):Int)∧(sliceBounds lo hi none n).2.2=1:=by
 refine ⟨?_,?_,rfl⟩
 ·cases lo with
  | none=>simp [sliceBounds,HT.sIx]
  | some i =>
   simp only [sliceBounds,HT.sIx,Option.getD_none,show (1:Int) > 0 by decide,if_true]
   by_cases h:i < 0
   ·simp only [h,if_true] <;> omega
   ·simp only [h,if_false] <;> omega
 ·cases hi with
  | none=>simp [sliceBounds,HT.sIx]
  | some i =>
   simp only [sliceBounds,HT.sIx,Option.getD_none,show (1:Int) > 0 by decide,if_true]
   by_cases h:i < 0
   ·simp only [h,if_true] <;> omega
   ·simp only [h,if_false] <;> omega
theorem m9 (its:List Value) (lo hi:Option Int):slicePick its.toArray lo hi none=((its.drop (HT.sIx its.length 0 lo)).take (HT.sIx its.length its.length hi - HT.sIx its.length 0 lo)).toArray:=by
 obtain ⟨h1,h2,h3⟩:=oO lo hi its.toArray.size
 unfold slicePick
 rw [h1,h2,h3]
 simp only [sliceRange_one,pick_run,List.size_toArray] <;> rfl
def Dk (K:PySem.W.Frag):V→Option Int→Option Int→Hp→VK→Prop:=fun x lo hi H Q=>∃ a xs,x=.ref a∧SqL K H a xs∧∀ p,H p=none→Q (.ref p) (upd H p (.lst (lC xs lo hi)))
theorem tM:SlR X (Dk X.K):=by
 intro pins s σ H x v vl vu lo hi sl Q I rx hs pl pu h
 obtain ⟨a,xs,rfl,hx,q⟩:=h
 cases rx
 obtain ⟨its,r,ht,hz⟩:=I.list hx
 have hlen:=r.length
 refine ⟨"list",_,slot_list_getitem.lookup,ht.isList.typeIs,?_⟩
 refine wpAny_getItem_list_slice ht.isList hs pl pu .none (by simp) ?_ (by rw [List.size_toArray] <;> omega)
 rw [m9,← hlen]
 refine ⟨.ref s.heap.objs.size,_,I.laid (t':=s.toks) (o:=.lst (lC xs lo hi)) (fun b ob q=>Heap.get?_push_of_some _ q) (Nat.le_refl _) ?_,rfl,q _ (I.hok.fresh (Nat.le_refl _))⟩
 exact ⟨Nat.le_trans (kr xs lo hi) hz,_,0,(r.drop (HT.sIx xs.length 0 lo)).take (HT.sIx xs.length xs.length hi - HT.sIx xs.length 0 lo),Heap.get?_push_size _ rfl⟩
def iB:V→Bool
 | .non=>true
 | .bl _=>true
 | .int _=>true
 | .str _=>true
 | _=>false
def eqV:V→V→Bool
 | .non,.non=>true
 | .bl a,.bl b=>a == b
 | .bl a,.int b=>(if a then 1 else 0) == b
 | .int a,.bl b=>a == (if b then 1 else 0)
 | .int a,.int b=>a == b
 | .str a,.str b=>a == b
 | _,_=>false
theorem BS {A:Around} {s:Shared} {y x:V} {u v:Value} (ry:bf y u) (rx:bf x v) (fy:iB y=true) (fx:iB x=true):SeqAt.EqAt A s u v (eqV y x):=by
 cases y with
 | non =>
  cases ry
  cases x with
  | non=>cases rx; exact SeqAt.EqAt.same _
  | bl b=>cases rx; exact SeqAt.EqAt.none_bool b
  | int b=>obtain ⟨t,rfl⟩:=rx; exact SeqAt.EqAt.none_int b t
  | str b=>obtain ⟨t,rfl⟩:=rx; exact SeqAt.EqAt.none_str b t
  | _=>exact absurd (show false=true from fx) Bool.false_ne_true
 | bl a =>
  cases ry
  cases x with
  | non=>cases rx; exact SeqAt.EqAt.bool_none a
  | bl b=>cases rx; exact SeqAt.EqAt.bool_bool a b
  | int b=>obtain ⟨t,rfl⟩:=rx; exact SeqAt.EqAt.bool_int a b t
  | str b=>obtain ⟨t,rfl⟩:=rx; exact SeqAt.EqAt.bool_str a b t
  | _=>exact absurd (show false=true from fx) Bool.false_ne_true
 | int a =>
  obtain ⟨t',rfl⟩:=ry
  cases x with
  | non=>cases rx; exact SeqAt.EqAt.int_none a t'
  | bl b=>cases rx; exact SeqAt.EqAt.int_bool a t' b
  | int b=>obtain ⟨t,rfl⟩:=rx; exact SeqAt.EqAt.int_int a t' b t
  | str b=>obtain ⟨t,rfl⟩:=rx; exact SeqAt.EqAt.int_str a t' b t
  | _=>exact absurd (show false=true from fx) Bool.false_ne_true
 | str a =>
  obtain ⟨t',rfl⟩:=ry
  cases x with
  | non=>cases rx; exact SeqAt.EqAt.str_none a t'
  | bl b=>cases rx; exact SeqAt.EqAt.str_bool a t' b
  | int b=>obtain ⟨t,rfl⟩:=rx; exact SeqAt.EqAt.str_int a t' b t
  | str b=>obtain ⟨t,rfl⟩:=rx; exact SeqAt.EqAt.str_str a t' b t
  | _=>exact absurd (show false=true from fx) Bool.false_ne_true
 | _=>exact absurd (show false=true from fy) Bool.false_ne_true
def eqU (x:V) (u:Value):Bool:=match u with
 | .none=>eqV .non x
 | .bool b=>eqV (.bl b) x
 | .int i _=>eqV (.int i) x
 | .str z _=>eqV (.str z) x
 | _=>false
theorem sj {x y:V} {u:Value} (r:bf y u) (f:iB y=true):eqU x u=eqV y x:=by
 cases y with
 | non=>cases r; rfl
 | bl b=>cases r; rfl
 | int i=>obtain ⟨t,rfl⟩:=r; rfl
 | str z=>obtain ⟨t,rfl⟩:=r; rfl
 | _=>exact absurd (show false=true from f) Bool.false_ne_true
theorem jg {x:V}:∀ {xs:List V} {us:List Value},aU xs us→xs.all iB=true→us.any (eqU x)=xs.any fun y=>eqV y x
 | _,_,.nil,_=>rfl
 | y :: xs,u :: us,.cons r t,f=>by
  rw [List.all_cons,Bool.and_eq_true] at f
  rw [List.any_cons,List.any_cons,sj r f.1,jg t f.2]
theorem fM {A:Around} {s:Shared} {x:V} {v:Value} (rx:bf x v) (fx:iB x=true):∀ {xs:List V} {us:List Value},aU xs us→xs.all iB=true→∀ u∈us,SeqAt.EqAt A s u v (eqU x u)
 | _,_,.nil,_=>fun u hu=>by cases hu
 | y :: xs,u :: us,.cons r t,f=>fun u' hu=>by
  rw [List.all_cons,Bool.and_eq_true] at f
  rcases List.mem_cons.mp hu with rfl | hu
  ·rw [sj r f.1]; exact BS r rx f.1 fx
  ·exact fM rx fx t f.2 u' hu
def inV (x:V) (xs:List V):Bool:=xs.any fun y=>eqV y x
def rIn (K:PySem.W.Frag) (neg:Bool):R2:=fun x y H Q=>∃ p xs,y=.ref p∧(SqL K H p xs∨SqT K H p xs)∧iB x=true∧xs.all iB=true∧Q (.bl (if neg then !inV x xs else inV x xs)) H
theorem vm:OpR X (compareOp .In) (rIn X.K false):=by
 intro pins s σ H x y v u Q I rx ry h
 obtain ⟨p,xs,rfl,hq,fx,fs,q⟩:=h
 cases ry
 rcases hq with hq | hq
 ·obtain ⟨its,r,pl,hz⟩:=I.list hq
  refine SeqAt.in_listAt (eqU x) pl.isList (fun w hw=>fM rx fx r fs w (by simpa using hw)) ⟨.bl _,H,I,rfl,?_⟩
  rw [show its.toArray.any (eqU x)=its.any (eqU x) by simp,jg r fs]
  exact q
 ·obtain ⟨its,r,pl,hz⟩:=I.tuple hq
  refine SeqAt.in_tupleAt (eqU x) pl (fun w hw=>fM rx fx r fs w (by simpa using hw)) ⟨.bl _,H,I,rfl,?_⟩
  rw [show its.toArray.any (eqU x)=its.any (eqU x) by simp,jg r fs]
  exact q
theorem oS:OpR X (compareOp .NotIn) (rIn X.K true):=by
 intro pins s σ H x y v u Q I rx ry h
 obtain ⟨p,xs,rfl,hq,fx,fs,q⟩:=h
 cases ry
 rcases hq with hq | hq
 ·obtain ⟨its,r,pl,hz⟩:=I.list hq
  refine SeqAt.notIn_listAt (eqU x) pl.isList (fun w hw=>fM rx fx r fs w (by simpa using hw)) ⟨.bl _,H,I,rfl,?_⟩
  rw [show its.toArray.any (eqU x)=its.any (eqU x) by simp,jg r fs]
  exact q
 ·obtain ⟨its,r,pl,hz⟩:=I.tuple hq
  refine SeqAt.notIn_tupleAt (eqU x) pl (fun w hw=>fM rx fx r fs w (by simpa using hw)) ⟨.bl _,H,I,rfl,?_⟩
  rw [show its.toArray.any (eqU x)=its.any (eqU x) by simp,jg r fs]
  exact q
theorem o9:OpR X (compareOp .NotIn) (fun x y H Q=>∃ i j,x=.str i∧y=.str j∧Q (.bl (!(!(Builtin.Str.occurrences j i 0 j.length 1).isEmpty))) H):=by
 intro pins s σ H x y v u Q I rx ry h
 obtain ⟨i,j,rfl,rfl,q⟩:=h
 obtain ⟨t,rfl⟩:=rx
 obtain ⟨t',rfl⟩:=ry
 exact notIn_str ⟨.bl _,H,I,rfl,q⟩
theorem fP:jh X (.builtin "len") (fun xs H Q=>∃ p ys,xs=[.ref p]∧(SqL X.K H p ys∨SqT X.K H p ys)∧Q (.int ys.length) H):=by
 intro pins s σ H xs us Q I r h
 obtain ⟨p,ys,rfl,hq,q⟩:=h
 obtain ⟨u,rfl,rx⟩:=iA r
 cases rx
 have hn:=iX
 rcases hq with hq | hq
 ·obtain ⟨its,r',pl,hz⟩:=I.list hq
  have hlen:=r'.length
  exact Calls.call_len_list pl.isList (by simp only [List.size_toArray] <;> omega) ⟨.int ys.length,H,I.tok _,⟨s.toks + 1,by rw [List.size_toArray,hlen]⟩,q⟩
 ·obtain ⟨its,r',pl,hz⟩:=I.tuple hq
  have hlen:=r'.length
  exact len_tuple pl (by simp only [List.size_toArray] <;> omega) ⟨.int ys.length,H,I.tok _,⟨s.toks + 1,by rw [List.size_toArray,hlen]⟩,q⟩
theorem oW:jh X (.builtin "len") (fun xs H Q=>∃ z,xs=[.str z]∧z.length≤sizeLine∧Q (.int z.length) H):=by
 intro pins s σ H xs us Q I r h
 obtain ⟨z,rfl,hz,q⟩:=h
 obtain ⟨u,rfl,t,rfl⟩:=iA r
 have hn:=iX
 exact len_str (by omega) ⟨.int z.length,H,I.tok _,⟨_,rfl⟩,q⟩
theorem pN:jh X (.type "list") (fun xs H Q=>∃ p ys,xs=[.ref p]∧(SqL X.K H p ys∨SqT X.K H p ys)∧∀ l,H l=none→Q (.ref l) (upd H l (.lst ys))):=by
 intro pins s σ H xs us Q I r h
 obtain ⟨p,ys,rfl,hq,q⟩:=h
 obtain ⟨u,rfl,rx⟩:=iA r
 cases rx
 have fin:∀ (its:List Value),aU ys its→ys.length≤sizeLine→∀ (h':Heap) (c':Nat),(∀ b o',s.heap.get? b=some o'→h'.get? b=some o') →
   h'.get? s.heap.objs.size=some { cls:=.type "list",dict:=none,data:=.seq its.toArray c',slots:=#[] }→EP X pins σ Q (.ref s.heap.objs.size) { s with heap:=h' }:=fun its r' hz h' c' kp e =>
  ⟨.ref s.heap.objs.size,_,I.laid (t':=s.toks) kp (Nat.le_refl _) (show bG X.prog X.w _ h' _ (.lst ys) from ⟨hz,its,c',r',e⟩),rfl,q _ (I.hok.fresh (Nat.le_refl _))⟩
 rcases hq with hq | hq
 ·obtain ⟨its,r',pl,hz⟩:=I.list hq
  have hlen:=r'.length
  obtain ⟨o,ho,hc,n,hd⟩:=pl.isList
  exact call_list_seq p (.inl rfl) ho hc hd (fun h' c' kp e=>fin its r' hz h' c' kp e) (by simp only [List.size_toArray] <;> omega)
 ·obtain ⟨its,r',pl,hz⟩:=I.tuple hq
  have hlen:=r'.length
  obtain ⟨o,ho,hc,n,hd⟩:=pl
  exact call_list_seq p (.inr rfl) ho hc hd (fun h' c' kp e=>fin its r' hz h' c' kp e) (by simp only [List.size_toArray] <;> omega)
theorem fz:jh X (.type "tuple") (fun xs H Q=>∃ p ys,xs=[.ref p]∧((SqL X.K H p ys∧∀ l,H l=none→Q (.ref l) (upd H l (.tup ys)))∨(SqT X.K H p ys∧Q (.ref p) H))):=by
 intro pins s σ H xs us Q I r h
 obtain ⟨p,ys,rfl,h⟩:=h
 obtain ⟨u,rfl,rx⟩:=iA r
 cases rx
 rcases h with ⟨hq,q⟩ | ⟨hq,q⟩
 ·obtain ⟨its,r',pl,hz⟩:=I.list hq
  have hlen:=r'.length
  refine call_tuple_list pl.isList (fun h' kp=>?_) (by simp only [List.size_toArray] <;> omega)
  have I1:Inv X pins σ H { s with heap:=h' }:=I.kept (t':=s.toks) kp
  have I2:Inv X pins σ (upd H h'.objs.size (.tup ys)) { s with heap:=h'.push { cls:=.type "tuple",data:=.seq its.toArray } } :=
   I1.laid (t':=s.toks) (fun b o e=>Heap.get?_push_of_some _ e) (Nat.le_refl _) (show bG X.prog X.w _ _ _ (.tup ys) from ⟨hz,its,r',mU.new _ _⟩)
  exact ⟨.ref h'.objs.size,_,I2,rfl,q _ (I1.hok.fresh (Nat.le_refl _))⟩
 ·obtain ⟨its,r',pl,hz⟩:=I.tuple hq
  exact call_tuple_same pl ⟨.ref p,H,I,rfl,q⟩
def tyV (K:PySem.W.Frag) (T:String) (x:V) (H:Hp):Prop:=match x with
 | .str _=>T="str"
 | .int _=>T="int"
 | .ref p=>(T="list"∧∃ xs,SqL K H p xs)∨(T="tuple"∧∃ o,K.lookup p=some o∧o.cls=.type "tuple"∧o.dict=none) ∨
   (T="dict"∧((∃ kvs,H p=some (.dK kvs))∨∃ kvs,H p=some (.dT kvs)))∨(T="set"∧∃ S n,H p=some (.set S n))
 | _=>False
theorem wn {pins:List (Addr × Obj)} {σ:St} {H:Hp} {s:Shared} {T:String} {x:V} {v:Value} (I:Inv X pins σ H s) (r:bf x v) (ty:tyV X.K T x H) :
  s.TypeIs v T∧∀ a,v=.ref a→∃ ob,s.heap.get? a=some ob∧ob.dict=none:=by
 cases x with
 | str z =>
  obtain ⟨t,rfl⟩:=r
  cases (show T="str" from ty)
  exact ⟨typeIs_str s z t,fun _ e=>nomatch e⟩
 | int i =>
  obtain ⟨t,rfl⟩:=r
  cases (show T="int" from ty)
  exact ⟨typeIs_int s i t,fun _ e=>nomatch e⟩
 | ref p =>
  cases r
  rcases ty with ⟨rfl,xs,hq⟩ | ⟨rfl,o,hk,hc,hd⟩ | ⟨rfl,hk⟩ | ⟨rfl,S,n,hk⟩
  ·obtain ⟨its,_,pl,_⟩:=I.list hq
   refine ⟨pl.isList.typeIs,fun a e=>?_⟩
   cases e
   obtain ⟨o,n,e,c,hd,_⟩:=pl
   exact ⟨o,e,hd⟩
  ·refine ⟨⟨o,I.kIn p o hk,hc⟩,fun a e=>?_⟩
   cases e
   exact ⟨o,I.kIn _ o hk,hd⟩
  ·have z:∃ o,s.heap.get? p=some o∧o.ExactDict:=by
    rcases hk with ⟨kvs,hk⟩ | ⟨kvs,hk⟩
    ·obtain ⟨_,_,_,_,o,_,_,e,ex,_⟩:=I.hok p _ hk
     exact ⟨o,e,ex⟩
    ·obtain ⟨_,_,_,_,o,_,_,e,ex,_⟩:=I.hok p _ hk
     exact ⟨o,e,ex⟩
   obtain ⟨o,e,ex⟩:=z
   refine ⟨⟨o,e,ex.1⟩,fun a e2=>?_⟩
   cases e2
   exact ⟨o,e,ex.2.1⟩
  ·obtain ⟨o,_,_,_,e,ex,_⟩:=I.hok p _ hk
   refine ⟨⟨o,e,ex.1⟩,fun a e2=>?_⟩
   cases e2
   exact ⟨o,e,ex.2.1⟩
 | _=>exact False.elim ty
def tBM (K:PySem.W.Frag) (T:String) (r:V→List V→Hp→VK→Prop) (to:TE) (t:TA):TE:=fun σ H Q=>to σ H fun x H1=>tyV K T x H1∧t σ H1 fun xs H2=>r x xs H2 Q
variable {o e:Expr} {es:List Expr} {to:TE} {t:TA} {name:Str} {apos cpos:Pos} {T id:String} {r:V→List V→Hp→VK→Prop}
theorem Ca (pa:PlainAttrs T) (slot:Slot T name id) (hty:typeOf (.builtin id)=pure (.type "method_descriptor")) (hm:MtR X id r) (ho:PE X o to) (ha:PA X (e :: es) t)
  (hbase:attributeBase o name X.env (eval o X.env)=eval o X.env:=by rfl)
  (hfew:((backTo cpos (starEach (e :: es) X.env)).all (fun x=>!x.1) && (backToKw cpos (keywordEach [] X.env)).all (fun x=>x.1.isSome)
   && decide ((e :: es).length + ([]:List Keyword).length + (if ([]:List Keyword).isEmpty then 0 else 1) < 30))=true:=by rfl)
  (hline:(apos.endLine == cpos.line)=true:=by rfl) (hs:starEach (e :: es) X.env=(false,eval e X.env) :: starEach es X.env:=by rfl) (hplain:(backTo cpos (starEach es X.env)).any (·.1)=false:=by rfl) :
  PE X (.Call (.Attribute o name apos) (e :: es) [] cpos) (tBM X.K T r to t):=by
 intro pins s σ H Q I h
 refine wpAny_Call_method_late hbase hfew hline rfl (thn (ho pins s σ H _ I h) fun v s1 ⟨x,H1,I1,r1,ty,q1⟩=>?_)
 obtain ⟨h1,h2⟩:=wn I1 r1 ty
 refine ⟨T,id,pa,slot,hty,h1,h2,?_⟩
 have hA:=ha cpos pins s1 σ H1 _ I1 q1
 rw [hs] at hA ⊢
 refine Calls.callWith_builtin (by show (false || (backTo cpos (starEach es X.env)).any (·.1))=false; rw [hplain] <;> rfl) (Calls.evalArgs_plain ?_)
 exact thn hA fun us s2 ⟨vs,H2,I2,r2,q2⟩=>hm pins s2 σ H2 x vs v us Q I2 r1 r2 q2
end
end L2
namespace L2
open PySem PySem.Spec PyProof.Rows
def MtM (X:Cx) (id:String) (r:V→List V→Hp→VK→Prop):Prop :=
 ∀ (pins:List (Addr × Obj)) (s:Shared) (σ:St) (H:Hp) (x:V) (xs:List V) (v:Value) (us:List Value) (Q:VK),Inv X pins σ H s→bf x v→aU xs us→r x xs H Q →
  wpAny (model X.prog X.w) X.A (call (.builtin id) (v :: us)) (EP X pins σ Q) X.xe s
theorem aU.one:∀ {x:V} {us:List Value},aU [x] us→∃ u,us=[u]∧bf x u
 | _,_,.cons r .nil=>⟨_,rfl,r⟩
section
variable {X:Cx} {pins:List (Addr × Obj)} {σ:St} {H:Hp} {s:Shared} {l b:Addr} {xs ys zs:List V}
theorem Inv.lset {its its':List Value} {n:Nat} {f:Array Value→Array Value} {t':Nat} (I:Inv X pins σ H s) (hH:H l=some (.lst xs))
  (e:s.heap.get? l=some { cls:=.type "list",data:=.seq its.toArray n }) (hf:f its.toArray=its'.toArray) (hv:aU ys its') (hz:ys.length≤sizeLine) :
  Inv X pins σ (upd H l (.lst ys)) { s with heap:=s.heap.update l (Obj.mapSeq f),toks:=t' }:=by
 have q:=PySem.IsL.update e f
 rw [hf] at q
 refine I.write (x:=l) (e:=l) (by rw [hH]; exact trivial) (.inl rfl) (fun b' u hb hu=>(Heap.get?_update_other s.heap (Obj.mapSeq f) (Ne.symm hb)).trans hu) ⟨_,q⟩ ?_
 exact ⟨hz,its',_,hv,q⟩
theorem Inv.lnew {its:List Value} {t':Nat} (I:Inv X pins σ H s) (hv:aU ys its) (hz:ys.length≤sizeLine) :
  Inv X pins σ (upd H s.heap.objs.size (.lst ys)) { s with heap:=s.heap.push { cls:=.type "list",data:=.seq its.toArray },toks:=t' } :=
 I.laid (fun _ _ q=>Heap.get?_push_of_some _ q) (Nat.le_refl _) ⟨hz,its,0,hv,Heap.get?_push_size _ rfl⟩
theorem Inv.fresh (I:Inv X pins σ H s):H s.heap.objs.size=none:=I.hok.fresh (Nat.le_refl _)
theorem Inv.lstM (I:Inv X pins σ H s) (hH:H l=some (.lst xs)):xs.length≤sizeLine∧∃ (its:List Value) (n:Nat),aU xs its∧xs.length=its.length∧s.heap.get? l=some { cls:=.type "list",data:=.seq its.toArray n }:=by
 obtain ⟨z,its,n,r,e⟩:=I.hok l _ hH
 exact ⟨z,its,n,r,r.length,e⟩
end
section
variable {X:Cx}
def yb:V→List V→Hp→VK→Prop:=fun x vs H Q=>∃ l xs y,x=.ref l∧vs=[y]∧H l=some (.lst xs)∧xs.length < sizeLine∧Q .non (upd H l (.lst (xs ++ [y])))
theorem vi:MtM X "list.append" yb:=by
 intro pins s σ H x vs v us Q I rx rv h
 obtain ⟨l,xs,y,rfl,rfl,hH,hz,q⟩:=h
 cases rx
 obtain ⟨u,rfl,ru⟩:=rv.one
 obtain ⟨z,its,n,r,hl,e⟩:=I.lstM hH
 refine call_meets F.slot_list_append ⟨_,e,rfl⟩ F.entry_list_append (F.args_list_append_2 _ _) (PySem.list_append l its.toArray n u (by rw [List.size_toArray]; omega)) ⟨e,?_⟩
 refine ⟨.non,_,I.lset (its':=its ++ [u]) hH e (by simp) (r.append (.cons ru .nil)) ?_,rfl,q⟩
 rw [List.length_append,List.length_singleton]
 omega
end
section
variable {prog:Program} {w:World} {A:Around} {E:Value→Shared→Prop} {s:Shared}
end
section
variable {X:Cx}
end
end L2
namespace Att
open PySem PySem.W PySem.Calls PyProof.Rows
theorem kA {P:Params} {h:Heap}:∀ (ns:List Int) (vs:List Value),WellAll P h vs (ns.map WData.int)→IntsAre vs ns:=by
 intro ns
 induction ns with
 | nil =>
  intro vs w
  rw [List.map_nil] at w
  cases w
  exact .nil
 | cons n ns ih =>
  intro vs w
  rw [List.map_cons] at w
  cases w with
  | cons a b =>
   cases a
   exact .cons _ _ (ih _ b)
theorem u8 {l:OpenLaw} {n:Nat} (hn:l.most=some n) {P:Params} {h:Heap} {args:List WData} {vals:List Value}
  (hpre:l.row.toRowW.claim.pre args=true) (hwl:WellAll P h vals args) :
  ∃ a vs ns,vals=[Value.ref a]∧args=[WData.list (ns.map WData.int)]∧h.get? a=some { cls:=.type "list",data:=.seq vs.toArray }∧IntsAre vs ns∧ns.length≤n:=by
 have hsh:WShape.hasAll [] args [.list .int]=true:=(pre_splitW hpre).1
 have hc:l.pre.holds [] { args:=args }=true:=(pre_splitW hpre).2
 obtain ⟨d,r,rfl,h1,h2⟩:=hasAllW_cons hsh
 obtain rfl:=hasAllW_nil h2
 obtain ⟨xs,rfl,h3⟩:=hasW_list h1
 obtain ⟨ns,rfl⟩:=items_int h3
 have hlen:ns.length≤n:=by
  unfold OpenLaw.pre at hc
  have h4:(WTm.not (.lt (.lit (.int (n:Int))) (.len (.arg 0)))).holds [] { args:=[.list (ns.map .int)] }=true:=by
   have h4:=(holds_andW hc).1
   rw [hn] at h4
   exact h4
  have h5:=condW_of h4 (w_not (w_lt w_lit (w_len_list (w_arg rfl))))
  rw [List.length_map] at h5
  refine Nat.le_of_not_lt fun q=>?_
  have q':(n:Int) < ((ns.length:Nat):Int):=by omega
  first
   | (rw [decide_eq_true q'] at h5; exact absurd h5 (by decide))
   | (simp at h5; omega)
 cases hwl with
 | cons w1 w2 =>
  cases w2
  cases w1 with
  | list ho hall=>exact ⟨_,_,ns,rfl,rfl,ho,kA ns _ hall,hlen⟩
theorem uL (l:OpenLaw) (args:List WData):l.row.toRowW.claim.post args (.bool true) args=true :=
 postW_of (r:=l.row.toRowW) (X:=(true == true))
  (show WShape.has [] (.bool true) .bool=true by first | rfl | decide | simp [WShape.has,WShape.arms,WShape.armsAll])
  (show (WTm.eq .res (.lit (.bool true))).value [] { args:=args,res:=some (.bool true),after:=args }=some (.bool (true == true)) from w_eq_bool (w_res rfl) w_lit) rfl
theorem attach_call {l:OpenLaw} {n:Nat} {q:Program} {loose:List Str} {XP:(Str→Option Value)→Heap→Prop} {YP:World→Heap→Prop} {d:DefRec}
  (hn:l.most=some n) (hdf:d.params.defaults=[])
  (call:∀ (w:World) (s₀ s₁:Shared) (mg mb:Str→Option Value) (fa:Addr) (o:Obj) (pm cd doc:Value) (a:Addr) (vs:List Value) (ns:List Int),
   Ground q loose [] XP w s₀ mg mb s₁.heap→YP w s₁.heap →
   s₁.heap.get? fa=some o→o.data=.func (docDef d.name d.params d.body d.scope pm cd doc)→s₁.heap.CodeRec cd d.name→mg d.name=some (.ref fa) →
   s₁.heap.get? a=some { cls:=.type "list",data:=.seq vs.toArray }→IntsAre vs ns→ns.length≤n→s₁.gens=#[] →
   codeAny (model l.prog w) callerA (.call (.ref fa) ⟨[.ref a],[]⟩) (fun r s'=>r=.ok (.ret (.bool true))∧OldK s₁.heap s'.heap∧s'.os=s₁.os∧AllBare s'.gens) s₁) :
  WalkO q loose XP YP l.row.toRowW d [] (fun f vs=>PySem.call f vs):=by
 intro w s₀ s₁ mg mb G Y fa o pm cd doc dV kV ho hd hcd hD hmg hg args vals as hpre hlay hrd hwl hlo
 obtain rfl:dV=.none:=Dflts.none hD hdf
 obtain rfl:kV=.none:=Dflts.noKw hD
 obtain ⟨a,vs,ns,rfl,rfl,hobj,hints,hlen⟩:=u8 hn hpre hwl
 refine enter_call (codeAny_mono (call w s₀ s₁ mg mb fa o pm cd doc a vs ns G Y ho (fd_plain hd) hcd hmg hobj hints hlen hg) fun r s' hq=>?_)
 obtain ⟨rfl,h2,h3,h4⟩:=hq
 exact ⟨.inl ⟨.bool true,.bool true,[],rfl,fun _=>rfl,.bool true,uL l _,fun _=>⟨List.Pairwise.nil,fun _ hm=>(nomatch hm)⟩⟩,h2,h3,h4⟩
section
variable {prog:Program} {w:World} {A:Around} {E:Value→Shared→Prop} {s:Shared} {K:Frag}
end
end Att
namespace L2
open PySem PySem.Spec PyProof.Rows
theorem oi:∀ {vs:List Value} {ns:List Int},IntsAre vs ns→aU (ns.map V.int) vs
 | _,_,.nil=>.nil
 | _,_,.cons n t h=>.cons ⟨t,rfl⟩ (oi h)
def wb (H:Hp):Prop:=∀ b,H b=none∨∃ o xs,H b=some (.frz o (.lst xs))
theorem vE {P:Program} {w:World} {K:PySem.W.Frag} {mg mb:Str→Option Value} {CX:CXT} {k:Nat} {fa a:Addr} {fd:FuncData} {x:Str} {sp:Sp} {s₁:Shared} {vs:List Value} {ns:List Int}
  (KX:K.In s₁.heap) (hns:s₁.heap.Ns mainGlobals mg) (hb:s₁.heap.Ns builtinsNs mb) (hbb:∀ x:Str,x ≠ "__name__"→mb x=bootBuiltins x) (hlim:s₁.heap.NoLimit) (hg:s₁.gens=#[])
  (ha:s₁.heap.get? a=some { cls:=.type "list",data:=.seq vs.toArray }) (hi:IntsAre vs ns) (hl:ns.length≤sizeLine) (hr:bJ k callerA)
  (F:∀ base:Heap,K.In base→base.Ns mainGlobals mg→gx P w K mg base CX k fa fd [x] sp) (hbind:∀ (s:Shared) (u:Value),BindsTo s fd ⟨[u],[]⟩ [(x,u)])
  (hsp:∀ H:Hp,wb H→SqL K H a (ns.map V.int)→sp [.ref a] H (fun v _=>v=.bl true) fun _ _ _=>False)
  (hCX:∀ H e s',CX [] H s₁ (fun _ _ _=>False) e s'→False) :
  codeAny (model P w) callerA (.call (.ref fa) ⟨[.ref a],[]⟩) (fun r s'=>r=.ok (.ret (.bool true))∧OldK s₁.heap s'.heap∧s'.os=s₁.os∧AllBare s'.gens) s₁:=by
 have rv:=oi hi
 have lenV:=hi.length
 have core:∀ H:Hp,wb H→SqL K H a (ns.map V.int)→HOk P w H s₁.heap→(∀ b,H b ≠ none→b=a)→(H a ≠ none→K.lookup a=none) →
   codeAny (model P w) callerA (.call (.ref fa) ⟨[.ref a],[]⟩) (fun r s'=>r=.ok (.ret (.bool true))∧OldK s₁.heap s'.heap∧s'.os=s₁.os∧AllBare s'.gens) s₁:=by
  intro H hO hS hok hA hK
  have base_of:∀ {b:Addr} {o:Obj},s₁.heap.get? b=some o→H b=none→(pO s₁.heap H).get? b=some o:=fun e n=>wk e n
  have noA:∀ {b:Addr} {o:Obj} {es:Array DictEntry} {ep:Nat},s₁.heap.get? b=some o→o.data=.dict es ep→H b=none:=fun {b o es ep} e d=>by
   cases q:H b with
   | none=>rfl
   | some u =>
    have e':b=a:=hA b (by rw [q]; simp)
    subst e'
    rw [ha] at e; cases e
    have d':Data.seq vs.toArray _=Data.dict es ep:=d
    cases d'
  have nsK:∀ {b:Addr} {m:Str→Option Value},s₁.heap.Ns b m→(pO s₁.heap H).Ns b m:=fun {b m} ⟨o,es,ep,e,d,r⟩=>⟨o,es,ep,base_of e (noA e d),d,r⟩
  have hKb:K.In (pO s₁.heap H):=fun b o e=>base_of (KX b o e) (by
   cases q:H b with
   | none=>rfl
   | some u =>
    have e':b=a:=hA b (by rw [q]; simp)
    subst e'
    rw [hK (by rw [q]; simp)] at e; cases e)
  have hM:Mod K mg (pO s₁.heap H):=⟨hKb,nsK hns,⟨mb,nsK hb,hbb⟩,let ⟨mc,h1,h2⟩:=hlim; ⟨mc,nsK h1,h2⟩⟩
  have e0:rP P w K mg (pO s₁.heap H) callerA [] s₁ H:=⟨rfl,hM,fun b o e=>yw e,Nat.le_of_eq (uT _ _),trivial,fun b hb=>absurd (show b∈([]:List Addr) from hb) (by simp),hok,.of_eq hg⟩
  refine codeAny_mono ((F _ hKb (nsK hns)).run callerA [] s₁ H ⟨[.ref a],[]⟩ [.ref a] [.ref a] _ _ hr e0 (hbind s₁ (.ref a)) (.cons rfl .nil) (hsp H hO hS)) fun r s' h=>?_
  cases r with
  | error e=>exact (hCX H e s' h).elim
  | ok fl =>
   cases fl with
   | next=>exact False.elim h
   | brk=>exact False.elim h
   | cont=>exact False.elim h
   | ret u =>
    obtain ⟨v,H',os,bare,un,hok',r',q⟩:=h
    have q':v=.bl true:=q
    subst q'
    obtain rfl:u=Value.bool true:=r'
    refine ⟨rfl,OldK.of_keep fun b o e=>?_,os,bare⟩
    cases q:H b with
    | none=>exact un.keep b o e q (by intro z; exact absurd (show b∈([]:List Addr) from z) (by simp)) (by simp)
    | some u =>
     rcases hO b with z | ⟨ob,xs,z⟩
     ·rw [q] at z; cases z
     ·have z2:=un.frzs b ob _ z
      obtain ⟨e1,_⟩:=hok b _ z
      obtain ⟨e2,_⟩:=hok' b _ z2
      rw [e] at e1; cases e1
      exact e2
 cases hk:K.lookup a with
 | some o =>
  have e:=KX a o hk
  rw [ha] at e
  cases e
  refine core (fun _=>none) (fun _=>.inl rfl) (.inr ⟨_,vs.toArray,_,hk,rfl,rfl,rfl,by rw [List.size_toArray,lenV]; exact hl,by simpa using rv⟩) (fun b u z=>by have z':(none:Option HO)=some u:=z; cases z') (fun b z=>absurd rfl z) fun z=>absurd rfl z
 | none =>
  refine core (fun b=>if b=a then some (.frz { cls:=.type "list",data:=.seq vs.toArray } (.lst (ns.map V.int))) else none) (fun b=>?_) (.inl (.inr ⟨{ cls:=.type "list",data:=.seq vs.toArray },if_pos rfl⟩)) (fun b u z=>?_) (fun b z=>?_) fun _=>hk
  ·by_cases hb:b=a
   ·exact .inr ⟨_,_,if_pos hb⟩
   ·exact .inl (if_neg hb)
  ·by_cases hb:b=a
   ·have z':=(if_pos hb).symm.trans z
    cases z'
    subst hb
    exact ⟨ha,by rw [List.length_map]; exact hl,vs,_,rv,ha⟩
   ·have z':=(if_neg hb).symm.trans z
    cases z'
  ·by_cases hb:b=a
   ·exact hb
   ·exact absurd (if_neg hb) z
end L2
namespace L2
open PySem PySem.Spec PyProof.Rows
theorem yR {l:PySem.W.OpenLaw} {n k:Nat} {q:Program} {loose:List Str} {XP:(Str→Option Value)→Heap→Prop} {YP:World→Heap→Prop} {d:DefRec} {K:Params→PySem.W.Frag} {CX:World→CXT} {sp:World→Sp} {x:Str}
  (hn:l.most=some n) (hn2:n≤sizeLine) (hdf:d.params.defaults=[]) (hr:bJ k callerA)
  (hY:∀ (w:World) (h:Heap),YP w h→(K w.params).In h)
  (F:∀ (w:World) (mg:Str→Option Value) (fa:Addr) (h:Heap),(K w.params).In h→h.Ns mainGlobals mg→mg d.name=some (.ref fa) →
   ∃ fd:FuncData,(∀ (s:Shared) (u:Value),BindsTo s fd ⟨[u],[]⟩ [(x,u)]) ∧
    ∀ base:Heap,(K w.params).In base→base.Ns mainGlobals mg→gx l.prog w (K w.params) mg base (CX w) k fa fd [x] (sp w))
  (hsp:∀ (w:World) (H:Hp) (a:Addr) (ns:List Int),ns.length≤n→wb H→SqL (K w.params) H a (ns.map V.int)→sp w [.ref a] H (fun v _=>v=.bl true) fun _ _ _=>False)
  (hCX:∀ (w:World) (H:Hp) (s:Shared) (e:Value) (s':Shared),CX w [] H s (fun _ _ _=>False) e s'→False) :
  PySem.W.WalkO q loose XP YP l.row.toRowW d [] (fun f vs=>PySem.call f vs):=by
 refine Att.attach_call hn hdf fun w s₀ s₁ mg mb fa o pm cd doc a vs ns G Y ho hd hcd hmg hobj hints hlen hg=>?_
 have KX:=hY w _ Y
 obtain ⟨fd,hb,hF⟩:=F w mg fa _ KX G.T.g hmg
 exact vE KX G.T.g G.T.b G.T.builtins G.T.nolimit hg hobj hints (Nat.le_trans hlen hn2) hr hF hb (fun H hO hS=>hsp w H a ns hlen hO hS) fun H e s'=>hCX w H s₁ e s'
end L2
namespace L2
open PySem PySem.Spec PyProof.Rows
def aW (s:Stmt) (j:Nat):Stmt:=match s with
 | .ClassDef _ _ _ body _ _ _ _ _ _ _=>body.getD j (.Pass ⟨0,0,0,0⟩)
 | _=>.Pass ⟨0,0,0,0⟩
def dh (s:Stmt):Arguments:=match s with
 | .FunctionDef _ a _ _ _ _ _ _ _ _=>a
 | _=>{ posonlyargs:=[],args:=[],vararg:=none,kwonlyargs:=[],kw_defaults:=[],kwarg:=none,defaults:=[] }
def bI (s:Stmt):List Stmt:=match s with
 | .FunctionDef _ _ b _ _ _ _ _ _ _=>b
 | _=>[]
def al (s:Stmt):Scope:=match s with
 | .FunctionDef _ _ _ _ _ _ sc _ _ _=>sc
 | _=>{ kind:=.function,names:=[],isGenerator:=false,isCoroutine:=false }
abbrev CX0:CXT:=fun _ _ _ _ _ _=>False
abbrev E0:XK:=fun _ _ _=>False
theorem rh {X:Cx}:lX CX0 X E0:=fun _ _ _ _ _ _ _ h=>h.elim
structure Fun (K:PySem.W.Frag) (x qual:Str) (st:Stmt) (f:Addr) (fd:FuncData):Prop where
 ex:∃ (oc:Value) (od:Option Addr) (kV doc pm:Value) (an:Option Addr) (cdv ct:Value) (osl:Array (Option Value)),
  fd=PySem.W.fnOf x qual (dh st) (bI st) (al st) .none kV doc pm an cdv ct∧K.lookup f=some ⟨oc,od,.func fd,osl⟩∧PySem.W.codeIn K cdv qual=true
 kp:PySem.W.keepIn K (.ref f)=true
section
variable {P:Program} {w:World} {K:PySem.W.Frag} {mg:Str→Option Value} {base:Heap}
theorem Fun.ok {x qual:Str} {st:Stmt} {f:Addr} {fd:FuncData} {N ps:List Str} {k:Nat} {sp:Sp} (F:Fun K x qual st f fd) (S:aq N ps (al st)) (len:∀ vs H Q E,sp vs H Q E→vs.length=ps.length)
  (hbody:∀ (cdv:Value) (A:Around) (outer:List Env) (s:Shared) (H:Hp) (vs:List V) (Q:VK) (E:XK),bJ k (A.deeper (envOfC qual (al st) s.heap.objs.size f cdv))→sp vs H Q E →
   ∃ t,PSs (eO CX0 P w K mg base N qual (al st) f cdv A outer s H E).nox (bI st) t∧t { nx:=fun _ H'=>Q .non H',rt:=Q } (ig N vs) H):gx P w K mg base CX0 (k + 1) f fd ps sp:=by
 obtain ⟨oc,od,kV,doc,pm,an,cdv,ct,osl,rfl,lk,hcd⟩:=F.ex
 refine vQ lk hcd S len fun A outer s H vs Q E hr hsp=>?_
 obtain ⟨t,h,q⟩:=hbody cdv A outer s H vs Q E hr hsp
 exact ⟨t,h.nox,q⟩
theorem Fun.binds {x qual:Str} {st:Stmt} {f:Addr} {fd:FuncData} {ps:List Str} (F:Fun K x qual st f fd)
  (h:∀ (kV doc pm:Value) (an:Option Addr) (cdv ct:Value) (us:List Value),us.length=ps.length→bindArgs (PySem.W.fnOf x qual (dh st) (bI st) (al st) .none kV doc pm an cdv ct) ⟨us,[]⟩=pure (ps.zip us)):dP K fd ps []:=by
 obtain ⟨oc,od,kV,doc,pm,an,cdv,ct,osl,rfl,lk,hcd⟩:=F.ex
 exact .all (h kV doc pm an cdv ct)
theorem xR {x qual:Str} {st:Stmt} {f:Addr} {oc:Value} {od an:Option Addr} {osl:Array (Option Value)} {kV doc pm cdv ct:Value} (l:K.lookup f=some ⟨oc,od,.func (PySem.W.fnOf x qual (dh st) (bI st) (al st) .none kV doc pm an cdv ct),osl⟩)
  (c:PySem.W.codeIn K cdv qual=true) (k:PySem.W.keepIn K (.ref f)=true):Fun K x qual st f (PySem.W.fnOf x qual (dh st) (bI st) (al st) .none kV doc pm an cdv ct):=⟨⟨oc,od,kV,doc,pm,an,cdv,ct,osl,rfl,l,c⟩,k⟩
end
section
variable {X:Cx}
theorem pv (i:Nat) {x:Str} {pos:Pos} (hN:X.N[i]?=some x:=by rfl) (hv:Vis X.env.scope x:=by first | exact Or.inl rfl | exact Or.inr (Or.inl rfl) | exact Or.inr (Or.inr rfl)) (hd:(x == ("__debug__":Str))=false:=by decide)
  (hcd:(x == ("__classdict__":Str))=false:=by decide):PE X (.Name x pos) (rG i):=AM hN hv hd hcd
end
theorem zx {A B:Prop} (h:B):if false=true then A else B:=by
 rw [if_neg Bool.false_ne_true]
 exact h
theorem wv {A B:Prop} (h:A):if true=true then A else B:=by
 rw [if_pos rfl]
 exact h
theorem bo {c A B:Prop} [Decidable c] (h1:c→A) (h2:¬ c→B):if c then A else B:=by
 by_cases h:c
 ·rw [if_pos h]
  exact h1 h
 ·rw [if_neg h]
  exact h2 h
end L2
namespace L2
open PySem PySem.Spec PyProof.Rows
section
variable {κ:Type} [DecidableEq κ]
def fO (kvs:List (κ × V)) (k:κ):Option V:=(kvs.find? fun kv=>decide (kv.1=k)).map (·.2)
def iL (kvs:List (κ × V)) (k:κ) (v:V):List (κ × V) :=
 if (kvs.any fun kv=>decide (kv.1=k))=true then kvs.map (fun kv=>if kv.1=k then (kv.1,v) else kv) else kvs ++ [(k,v)]
theorem lR {p:κ × V} {r:List (κ × V)} {k:κ} (e:p.1=k):fO (p :: r) k=some p.2:=by simp [fO,List.find?_cons,e]
theorem lO {p:κ × V} {r:List (κ × V)} {k:κ} (e:¬ p.1=k):fO (p :: r) k=fO r k:=by simp [fO,List.find?_cons,e]
theorem qd (k:κ):∀ kvs:List (κ × V),(kvs.any fun kv=>decide (kv.1=k))=(fO kvs k).isSome
 | []=>rfl
 | p :: r=>by
  rw [List.any_cons]
  by_cases e:p.1=k
  ·simp only [lR e,decide_eq_true e,Bool.true_or,Option.isSome_some]
  ·rw [lO e,decide_eq_false e,Bool.false_or]; exact qd k r
theorem j6 (kvs:List (κ × V)) (k:κ) (v:V):(iL kvs k v).length≤kvs.length + 1:=by
 unfold iL
 split
 ·rw [List.length_map]; omega
 ·rw [List.length_append,List.length_cons,List.length_nil]; omega
theorem h9.isSome_eq {o:Option V} {u:Option Value} (r:h9 o u):o.isSome=u.isSome:=by
 cases o with
 | none=>cases u with
  | none=>rfl
  | some _=>exact (show False from r).elim
 | some _=>cases u with
  | none=>exact (show False from r).elim
  | some _=>rfl
theorem KV.val {kvs:List (κ × V)} {vs:List (κ × Value)} (r:KV kvs vs) (k:κ):h9 (fO kvs k) (valueAt vs k):=by
 unfold KV at r
 induction r with
 | nil=>exact True.intro
 | @cons p q ps qs h t ih =>
  obtain ⟨h1,h2⟩:=h
  by_cases e:p.1=k
  ·have e':q.1=k:=h1.symm.trans e
   have b:valueAt (q :: qs) k=some q.2:=by simp [valueAt,List.find?_cons,e']
   rw [lR e,b]; exact h2
  ·have e':¬ q.1=k:=fun z=>e (h1.trans z)
   have b:valueAt (q :: qs) k=valueAt qs k:=by simp [valueAt,List.find?_cons,e']
   rw [lO e,b]; exact ih
theorem KV.any {kvs:List (κ × V)} {vs:List (κ × Value)} (r:KV kvs vs) (k:κ):(kvs.any fun kv=>decide (kv.1=k))=vs.any fun kv=>decide (kv.1=k):=by
 unfold KV at r
 induction r with
 | nil=>rfl
 | cons h t ih=>rw [List.any_cons,List.any_cons,ih,h.1]
theorem KV.repl {kvs:List (κ × V)} {vs:List (κ × Value)} (r:KV kvs vs) (k:κ) {y:V} {u:Value} (ry:bf y u) :
  KV (kvs.map fun kv=>if kv.1=k then (kv.1,y) else kv) (vs.map fun kv=>if kv.1=k then (kv.1,u) else kv):=by
 unfold KV at r ⊢
 induction r with
 | nil=>exact .nil
 | @cons p q ps qs h t ih =>
  rw [List.map_cons,List.map_cons]
  refine .cons ?_ ih
  obtain ⟨h1,h2⟩:=h
  by_cases e:p.1=k
  ·rw [if_pos e,if_pos (h1.symm.trans e)]; exact ⟨h1,ry⟩
  ·rw [if_neg e,if_neg (fun z=>e (h1.trans z))]; exact ⟨h1,h2⟩
theorem KV.put {kvs:List (κ × V)} {vs:List (κ × Value)} (r:KV kvs vs) (k:κ) {y:V} {u:Value} (ry:bf y u):KV (iL kvs k y) (stored vs k u):=by
 unfold iL stored
 rw [r.any k]
 by_cases e:(vs.any fun kv=>decide (kv.1=k))=true
 ·rw [if_pos e,if_pos e]; exact r.repl k ry
 ·rw [if_neg e,if_neg e]; exact Paired.snoc r ⟨rfl,ry⟩
theorem KV.length {kvs:List (κ × V)} {vs:List (κ × Value)} (r:KV kvs vs):kvs.length=vs.length:=Paired.length r
end
theorem og {P:Program} {w:World} {k:Key} {u:Value} (r:bf (kV k) u):(bu P w).is k u=true:=by
 cases k with
 | inl i=>obtain ⟨t,e⟩:=(show ∃ t,u=Value.int i t from r); subst e; exact qo P w i t
 | inr x=>obtain ⟨t,e⟩:=(show ∃ t,u=Value.str x t from r); subst e; exact j3 P w x t
theorem oj {P:Program} {w:World}:∀ {ks:List Key} {us:List Value},aU (ks.map kV) us→ItemsAre (bu P w) ks us
 | [],_,r=>by rw [List.map_nil] at r; cases r; exact .nil
 | k :: ks,_,r=>by
  rw [List.map_cons] at r
  cases r with
  | cons h t=>exact .cons (og h) (oj t)
abbrev KT (H:Hp):List (List Key × V)→List (List Key × Addr × Value)→Prop:=Paired fun p q=>p.1=q.1∧H q.2.1=some (.tup (p.1.map kV))∧bf p.2 q.2.2
theorem KT.val {H:Hp} {kvs:List (List Key × V)} {xs:List (List Key × Addr × Value)} (r:KT H kvs xs) (k:List Key):h9 (fO kvs k) ((atKey xs k).map (·.2)):=by
 induction r with
 | nil=>exact True.intro
 | @cons p q ps qs h t ih =>
  obtain ⟨h1,_,h2⟩:=h
  by_cases e:p.1=k
  ·have e':q.1=k:=h1.symm.trans e
   have b:atKey (q :: qs) k=some q.2:=by simp [atKey,List.find?_cons,e']
   rw [lR e,b]; exact h2
  ·have e':¬ q.1=k:=fun z=>e (h1.trans z)
   have b:atKey (q :: qs) k=atKey qs k:=by simp [atKey,List.find?_cons,e']
   rw [lO e,b]; exact ih
theorem KT.repl {H:Hp} {kvs:List (List Key × V)} {xs:List (List Key × Addr × Value)} (r:KT H kvs xs) (k:List Key) {y:V} {u:Value} (ry:bf y u) :
  KT H (kvs.map fun kv=>if kv.1=k then (kv.1,y) else kv) (xs.map (putAt k u)):=by
 induction r with
 | nil=>exact .nil
 | @cons p q ps qs h t ih =>
  rw [List.map_cons,List.map_cons]
  refine .cons ?_ ih
  obtain ⟨h1,h2,h3⟩:=h
  unfold putAt
  by_cases e:p.1=k
  ·rw [if_pos e,if_pos (h1.symm.trans e)]; exact ⟨h1,h2,ry⟩
  ·rw [if_neg e,if_neg (fun z=>e (h1.trans z))]; exact ⟨h1,h2,h3⟩
theorem KT.put {H:Hp} {kvs:List (List Key × V)} {xs:List (List Key × Addr × Value)} (r:KT H kvs xs) (k:List Key) {b:Addr} {y:V} {u:Value} (hb:H b=some (.tup (k.map kV))) (ry:bf y u) :
  KT H (iL kvs k y) (storedH xs k b u):=by
 have e:(kvs.any fun kv=>decide (kv.1=k))=(atKey xs k).isSome:=by
  rw [qd,(r.val k).isSome_eq,Option.isSome_map]
 unfold iL storedH
 rw [e]
 by_cases q:(atKey xs k).isSome=true
 ·rw [if_pos q,if_pos q]; exact r.repl k ry
 ·rw [if_neg q,if_neg q]; exact Paired.snoc r ⟨rfl,hb,ry⟩
theorem KT.keeps {H H':Hp} {kvs:List (List Key × V)} {xs:List (List Key × Addr × Value)} (r:KT H kvs xs) (ht:∀ b ys,H b=some (.tup ys)→H' b=some (.tup ys)):KT H' kvs xs :=
 Paired.mapP r fun _ _ z=>⟨z.1,ht _ _ z.2.1,z.2.2⟩
section
variable {P:Program} {w:World} {H:Hp} {h:Heap} {a:Addr}
theorem Ab {u:HO} (ok:HOk P w H h) (e:Rd H a u):bG P w H h a u:=e.ok ok
theorem rc {kvs:List (Key × V)} (ok:HOk P w H h) (e:Rd H a (.dK kvs)):kvs.length≤sizeLine∧(a == sysModules)=false∧∃ vs,KV kvs vs∧h.DictOf (bu P w) a vs :=
 show bG P w H h a (.dK kvs) from Ab ok e
theorem BU {kvs:List (Key × V)} (ok:HOk P w H h) (e:H a=some (.dK kvs)):kvs.length≤sizeLine∧(a == sysModules)=false∧∃ vs,KV kvs vs∧h.DictOf (bu P w) a vs:=rc ok (.inl e)
theorem ly {ks:List Key} (ok:HOk P w H h) (e:H a=some (.tup (ks.map kV))):(tupleKind (bu P w)).is h ks a:=by
 obtain ⟨_,its,r,o,h1,h2,⟨n,h3⟩,_⟩:=(show bG P w H h a (.tup (ks.map kV)) from ok a _ e)
 exact ⟨o,its.toArray,n,h1,h2,h3,by simpa using oj r⟩
theorem qG {kvs:List (List Key × V)} (ok:HOk P w H h) (e:Rd H a (.dT kvs)):kvs.length≤sizeLine∧(a == sysModules)=false ∧
  ∃ xs,KT H kvs xs∧h.DictOfH (tupleKind (bu P w)) a xs:=by
 obtain ⟨z,y,xs,r,o,es,ep,h1,h2,h3,h4,h5⟩:=(show bG P w H h a (.dT kvs) from Ab ok e)
 refine ⟨z,y,xs,r,o,es,ep,h1,h2,h3,h4,fun x hx=>?_,h5⟩
 have all:∀ {l:List (List Key × V)} {m:List (List Key × Addr × Value)},KT H l m→∀ x∈m,(tupleKind (bu P w)).is h x.1 x.2.1:=by
  intro l m q
  induction q with
  | nil=>intro x hx; exact nomatch hx
  | @cons p q ps qs hq t ih =>
   intro x hx
   rcases List.mem_cons.mp hx with e | hx
   ·subst e
    exact ly ok (by rw [← hq.1]; exact hq.2.1)
   ·exact ih x hx
 exact all r x hx
theorem CU {kvs:List (List Key × V)} (ok:HOk P w H h) (e:H a=some (.dT kvs)):kvs.length≤sizeLine∧(a == sysModules)=false ∧
  ∃ xs,KT H kvs xs∧h.DictOfH (tupleKind (bu P w)) a xs:=qG ok (.inl e)
end
def kK (H:Hp) (a:Addr) (y:V) (r:Option V):Prop :=
 (∃ kvs k,Rd H a (.dK kvs)∧y=kV k∧r=fO kvs k)∨∃ kvs k b,Rd H a (.dT kvs)∧y=.ref b∧H b=some (.tup (k.map kV))∧r=fO kvs k
def vq (H:Hp) (a:Addr) (y v:V) (H':Hp):Prop :=
 (∃ kvs k,H a=some (.dK kvs)∧y=kV k∧kvs.length < sizeLine∧H'=upd H a (.dK (iL kvs k v))) ∨
 ∃ kvs k b,H a=some (.dT kvs)∧y=.ref b∧H b=some (.tup (k.map kV))∧kvs.length < sizeLine∧H'=upd H a (.dT (iL kvs k v))
theorem kK.k {H:Hp} {a:Addr} {kvs:List (Key × V)} {k:Key} (e:H a=some (.dK kvs)):kK H a (kV k) (fO kvs k):=.inl ⟨kvs,k,.inl e,rfl,rfl⟩
theorem vq.k {H:Hp} {a:Addr} {kvs:List (Key × V)} {k:Key} {v:V} (e:H a=some (.dK kvs)) (hl:kvs.length < sizeLine):vq H a (kV k) v (upd H a (.dK (iL kvs k v))):=.inl ⟨kvs,k,e,rfl,hl,rfl⟩
section
variable {X:Cx} {pins:List (Addr × Obj)} {σ:St} {H:Hp} {s:Shared} {a:Addr} {y v:V} {u r:Value} {o:Option V} {A:Around} {E:Value→Shared→Prop}
theorem Inv.big (I:Inv X pins σ H s):sysModules < s.heap.objs.size:=by
 have h:mainGlobals < s.heap.objs.size:=(I.mod.glob.keeps I.bk).lt
 exact Nat.lt_trans (by decide) h
theorem uG {Q:Value→Shared→Prop} (hu:A.units + 1 < cLine) (I:Inv X pins σ H s) (g:kK H a y (some v)) (ry:bf y u) (h:∀ w' s',Inv X pins σ H s'→bf v w'→Q w' s') :
  wpAny (model X.prog X.w) A (getItem (.ref a) u) Q E s:=by
 rcases g with ⟨kvs,k,e,ey,l⟩ | ⟨kvs,k,b,e,ey,eb,l⟩
 ·subst ey
  obtain ⟨z,hd,vs,rel,dd⟩:=rc I.hok e
  obtain ⟨w',hw,rw'⟩:=h9.some_of (v:=v) (o:=valueAt vs k) (by rw [l]; exact rel.val k)
  exact wpAny_getItem_of (og ry) dd.mapOf hw (h w' _ (I.tok _) rw')
 ·subst ey
  cases (show u=Value.ref b from ry)
  obtain ⟨z,hd,xs,rel,dd⟩:=qG I.hok e
  obtain ⟨w',hw,rw'⟩:=h9.some_of (v:=v) (o:=(atKey xs k).map (·.2)) (by rw [l]; exact rel.val k)
  obtain ⟨p,hp,hp2⟩:=Option.map_eq_some_iff.mp hw
  refine wpAny_getItem_heap (tupleKind_room_in1 hu) (ly I.hok eb) dd hp ?_
  rw [hp2]
  exact h w' _ (I.tok _) rw'
theorem Dn {Q:Value→Shared→Prop} (hu:A.units + 1 < cLine) (I:Inv X pins σ H s) (g:kK H a y o) (ry:bf y u) (h:∀ s',Inv X pins σ H s'→Q (.bool o.isSome) s') :
  wpAny (model X.prog X.w) A (compareOp .In u (.ref a)) Q E s:=by
 rcases g with ⟨kvs,k,e,ey,l⟩ | ⟨kvs,k,b,e,ey,eb,l⟩
 ·subst ey
  obtain ⟨z,hd,vs,rel,dd⟩:=rc I.hok e
  refine wpAny_in_of (og ry) hd dd.mapOf ?_
  rw [← (rel.val k).isSome_eq,← l]
  exact h _ (I.tok _)
 ·subst ey
  cases (show u=Value.ref b from ry)
  obtain ⟨z,hd,xs,rel,dd⟩:=qG I.hok e
  refine wpAny_in_heap (tupleKind_room_in1 hu) (ly I.hok eb) hd dd ?_
  have q:=(rel.val k).isSome_eq
  rw [Option.isSome_map] at q
  rw [← q,← l]
  exact h _ (I.tok _)
theorem zV {Q:Value→Shared→Prop} (hu:A.units + 1 < cLine) (I:Inv X pins σ H s) (g:kK H a y o) (ry:bf y u) (h:∀ s',Inv X pins σ H s'→Q (.bool (!o.isSome)) s') :
  wpAny (model X.prog X.w) A (compareOp .NotIn u (.ref a)) Q E s:=by
 rcases g with ⟨kvs,k,e,ey,l⟩ | ⟨kvs,k,b,e,ey,eb,l⟩
 ·subst ey
  obtain ⟨z,hd,vs,rel,dd⟩:=rc I.hok e
  refine wpAny_notIn_of (og ry) hd dd.mapOf ?_
  rw [← (rel.val k).isSome_eq,← l]
  exact h _ (I.tok _)
 ·subst ey
  cases (show u=Value.ref b from ry)
  obtain ⟨z,hd,xs,rel,dd⟩:=qG I.hok e
  refine wpAny_notIn_heap (tupleKind_room_in1 hu) (ly I.hok eb) hd dd ?_
  have q:=(rel.val k).isSome_eq
  rw [Option.isSome_map] at q
  rw [← q,← l]
  exact h _ (I.tok _)
theorem tY {h':Heap} {t':Nat} {ob:HO} (I:Inv X pins σ H s) (mu:Mut (H a)) (hs:Heap.SameBut a s.heap h') (he:∃ q,h'.get? a=some q) (new:bG X.prog X.w (upd H a ob) h' a ob) :
  Inv X pins σ (upd H a ob) { s with heap:=h',toks:=t' } :=
 I.write (x:=a) (e:=a) mu (.inl rfl) (fun b q hb z=>(hs.2 b hb).trans z) he new
theorem vz {P:Program} {w:World} {H':Hp} {h':Heap} {kvs:List (Key × V)} {vs:List (Key × Value)} (z:kvs.length≤sizeLine) (hd:(a == sysModules)=false) (rel:KV kvs vs) (dd:h'.DictOf (bu P w) a vs) :
  bG P w H' h' a (.dK kvs):=⟨z,hd,vs,rel,dd⟩
theorem uy {H':Hp} {Q:Unit→Shared→Prop} (hu:A.units + 1 < cLine) (I:Inv X pins σ H s) (g:vq H a y v H') (ry:bf y u) (rv:bf v r) (h:∀ s',Inv X pins σ H' s'→Q () s') :
  wpAny (model X.prog X.w) A (setItem (.ref a) u r) Q E s:=by
 rcases g with ⟨kvs,k,e,ey,l,eH⟩ | ⟨kvs,k,b,e,ey,eb,l,eH⟩
 ·subst ey eH
  obtain ⟨z,hd,vs,rel,dd⟩:=BU I.hok e
  have hz:vs.length≤sizeLine:=by rw [← rel.length]; exact z
  have hl:(iL kvs k v).length≤sizeLine:=by have:=j6 kvs k v; omega
  refine wpAny_setItem_pairs (hsz:=hz) (og ry) dd fun h' dd' hs=>h _ ?_
  have he:∃ q,h'.get? a=some q:=let ⟨q,_,_,hq,_⟩:=dd'; ⟨q,hq⟩
  exact tY I (by rw [e]; exact True.intro) hs he (vz hl hd (rel.put k rv) dd')
 ·subst ey eH
  cases (show u=Value.ref b from ry)
  obtain ⟨z,hd,xs,rel,dd⟩:=CU I.hok e
  have hz:xs.length≤sizeLine:=by rw [← Paired.length rel]; exact z
  have hl:(iL kvs k v).length≤sizeLine:=by have:=j6 kvs k v; omega
  refine wpAny_setItem_heap (hsz:=hz) (tupleKind_room_in1 hu) (ly I.hok eb) dd fun h' dd' hs=>h _ ?_
  obtain ⟨q,es,ep,hq,h2,h3,h4,_,h5⟩:=dd'
  refine tY I (by rw [e]; exact True.intro) hs ⟨q,hq⟩ ⟨hl,hd,_,(rel.put k eb rv).keeps fun c ys ec=>?_,q,es,ep,hq,h2,h3,h4,h5⟩
  rw [aK (BW ec e (fun z=>nomatch z))]
  exact ec
end
section
variable {X:Cx} {pins:List (Addr × Obj)} {σ:St} {H:Hp} {s:Shared} {a:Addr} {kvs:List (Key × V)} {k:Key} {u:Value} {A:Around} {E:Value→Shared→Prop}
end
theorem p9 {X:Cx} {pins:List (Addr × Obj)} {σ:St} {H:Hp} {s:Shared} {a:Addr} {y:V} {o:Option V} (I:Inv X pins σ H s) (g:kK H a y o):s.TypeIs (.ref a) "dict":=by
 rcases g with ⟨kvs,k,e,_,_⟩ | ⟨kvs,k,b,e,_,_,_⟩
 ·obtain ⟨_,_,vs,_,dd⟩:=rc I.hok e
  exact dd.typeIs
 ·obtain ⟨_,_,xs,_,dd⟩:=qG I.hok e
  exact dd.typeIs
def C5 (td ty tv:TE):TS:=fun D σ H=>tv σ H fun v H1=>td σ H1 fun x H2=>ty σ H2 fun y H3=>∃ a H4,x=.ref a∧vq H3 a y v H4∧D.nx σ H4
section
variable {X:Cx} {o i e value:Expr} {pos pos' tpos:Pos} {td ty tv:TE}
theorem zA (hu:X.A.units + 1 < cLine) (ho:PE X o td) (hi:PE X i ty) (hv:PE X value tv) (hs:swapsWith value (some (.Subscript o i pos')) pos.line X.env=pure false) :
  PS X (.Assign [.Subscript o i pos'] value pos) (C5 td ty tv):=by
 intro pins s σ H D I h
 refine wpAny_Assign_Subscript (thn (hv pins s σ H _ I h) fun r s1 ⟨v,H1,I1,rv,q1⟩=>thn (ho pins s1 σ H1 _ I1 q1) fun u s2 ⟨x,H2,I2,rx,q2⟩=>thn (hi pins s2 σ H2 _ I2 q2) fun iv s3 ⟨y,H3,I3,ry,a,H4,ex,g,q3⟩=>?_) hs
 subst ex
 obtain rfl:u=Value.ref a:=rx
 exact uy hu I3 g ry rv fun s4 I4=>⟨σ,H4,I4,q3⟩
end
theorem xo {P:Program} {w:World} {H:Hp} (h:Heap) (hb:sysModules < h.objs.size):bG P w H (h.push { cls:=.type "dict",data:=.dict #[] }) h.objs.size (.dK []) :=
 ⟨Nat.zero_le _,beq_eq_false_iff_ne.mpr (Ne.symm (Nat.ne_of_lt hb)),[],.nil,Heap.DictOf.new h⟩
def Bv:TE:=fun _ H Q=>∀ p,H p=none→Q (.ref p) (upd H p (.dK []))
section
variable {X:Cx} {pos:Pos}
theorem xi:PE X (.Dict [] [] pos) Bv:=fun pins s σ H Q I h =>
 wpAny_Dict_empty ⟨.ref s.heap.objs.size,_,I.laid (a:=s.heap.objs.size) (o:=.dK []) (t':=s.toks) (fun _ _ q=>Heap.get?_push_of_some _ q) (Nat.le_refl _) (xo s.heap I.big),rfl,h _ (I.hok.fresh (Nat.le_refl _))⟩
end
structure M1 (X:Cx) (o:Expr) (m:Str) (apos:Pos) (e:Expr) (cpos:Pos):Prop where
 base:attributeBase o m X.env (eval o X.env)=eval o X.env
 few:((backTo cpos (starEach [e] X.env)).all (fun x=>!x.1) && (backToKw cpos (keywordEach [] X.env)).all (fun x=>x.1.isSome)
  && decide (([e]:List Expr).length + ([]:List Keyword).length + (if ([]:List Keyword).isEmpty then 0 else 1) < 30))=true
 line:(apos.endLine == cpos.line)=true
 trees:backTo cpos (starEach [e] X.env)=[(false,eval e X.env)]
structure M2 (X:Cx) (o:Expr) (m:Str) (apos:Pos) (e f:Expr) (cpos:Pos):Prop where
 base:attributeBase o m X.env (eval o X.env)=eval o X.env
 few:((backTo cpos (starEach [e,f] X.env)).all (fun x=>!x.1) && (backToKw cpos (keywordEach [] X.env)).all (fun x=>x.1.isSome)
  && decide (([e,f]:List Expr).length + ([]:List Keyword).length + (if ([]:List Keyword).isEmpty then 0 else 1) < 30))=true
 line:(apos.endLine == cpos.line)=true
 trees:backTo cpos (starEach [e,f] X.env)=[(false,eval e X.env),(false,eval f X.env)]
section
variable {X:Cx} {pins:List (Addr × Obj)} {σ:St} {H:Hp} {s:Shared} {a:Addr} {y d:V} {u r:Value} {o:Option V} {A:Around} {E:Value→Shared→Prop}
end
section
variable {X:Cx} {o e f:Expr} {apos cpos:Pos} {td ty tx:TE}
end
section
variable {X:Cx} {pins:List (Addr × Obj)} {σ:St} {H:Hp} {s:Shared} {a:Addr} {kvs:List (Key × V)} {A:Around} {E:Value→Shared→Prop}
end
section
variable {X:Cx} {pins:List (Addr × Obj)} {σ:St} {H:Hp} {s:Shared} {a:Addr} {y:V} {u:Value} {A:Around} {E:Value→Shared→Prop}
end
end L2
namespace L2
open PySem PySem.Spec PyProof.Rows
section
variable {X:Cx}
end
section
variable {κ:Type} [DecidableEq κ]
end
end L2
namespace L2
open PySem PySem.Spec PyProof.Rows
def kD (env:Env):List (Str × NameKind)→List (Str × Addr)→List (Str × Addr)
 | [],acc=>acc
 | (n,k) :: r,acc=>kD env r (if k == .free then (n,(env.cells.lookup n).getD 0) :: acc else acc)
theorem qB {env:Env} {f:(Str × NameKind)→List (Str × Addr)→Sem (ForInStep (List (Str × Addr)))}
  (hf:∀ x cs,(x.2=.free→∃ c,env.cells.lookup x.1=some c)→f x cs=pure (.yield (if x.2 == .free then (x.1,(env.cells.lookup x.1).getD 0) :: cs else cs))) :
  ∀ (l:List (Str × NameKind)) (acc:List (Str × Addr)),(∀ x∈l,x.2=.free→∃ c,env.cells.lookup x.1=some c)→forIn l acc f=pure (kD env l acc)
 | [],acc,_=>by rw [List.forIn_nil]; rfl
 | (n,k) :: r,acc,h=>by
  rw [List.forIn_cons,hf (n,k) acc (h _ List.mem_cons_self),pure_bind]
  exact qB hf r _ fun x hx=>h x (List.mem_cons_of_mem _ hx)
theorem io {scope:Scope} {env:Env} (h:∀ x∈scope.names,x.2=.free→∃ c,env.cells.lookup x.1=some c):closureFor scope env=pure (kD env scope.names []):=by
 unfold closureFor
 have e:=qB (env:=env) (f:=fun (x:Str × NameKind) (cs:List (Str × Addr))=>(do
   if x.2 == .free then
    let a ← cellOf env x.1
    pure (ForInStep.yield ((x.1,a) :: cs))
   else pure (ForInStep.yield cs))) (fun x cs hx=>by
  cases hk:x.2 == NameKind.free with
  | false=>simp
  | true =>
   obtain ⟨c,hc⟩:=hx (by simpa using hk)
   simp [cellOf,hc]) scope.names [] h
 first
  | exact (congrArg (· >>= pure) e).trans (by simp)
  | (simp only [bind_pure]; exact e)
  | (rw [← e]; rfl)
theorem wP {env:Env} {x:Str} {c:Addr}:∀ {l:List (Str × NameKind)} {acc:List (Str × Addr)},(∀ x∈l,x.2=.free→∃ c,env.cells.lookup x.1=some c)→(∀ x c,acc.lookup x=some c→env.cells.lookup x=some c)→(kD env l acc).lookup x=some c→env.cells.lookup x=some c
 | [],acc,_,ha,h=>ha x c h
 | (n,k) :: r,acc,hl,ha,h=>by
  refine wP (l:=r) (acc:=if k == .free then (n,(env.cells.lookup n).getD 0) :: acc else acc) (fun y hy=>hl y (List.mem_cons_of_mem _ hy)) (fun y d hd=>?_) h
  cases hk:k == NameKind.free with
  | false=>rw [hk] at hd; exact ha y d (by simpa using hd)
  | true =>
   rw [hk,if_pos rfl] at hd
   obtain ⟨e,he⟩:=hl (n,k) List.mem_cons_self (by simpa using hk)
   rw [List.lookup_cons] at hd
   cases hy:y == n with
   | true =>
    rw [hy] at hd
    have yn:y=n:=by simpa using hy
    subst yn
    have he:env.cells.lookup y=some e:=he
    rw [he] at hd ⊢
    exact hd
   | false =>
    rw [hy] at hd
    exact ha y d hd
theorem vP {env:Env} {x:Str}:∀ {l:List (Str × NameKind)} {acc:List (Str × Addr)},(∃ c,acc.lookup x=some c)→∃ c,(kD env l acc).lookup x=some c
 | [],_,h=>h
 | (n,k) :: r,acc,h=>by
  refine vP (l:=r) ?_
  cases hk:k == NameKind.free with
  | false=>simpa using h
  | true =>
   rw [if_pos rfl,List.lookup_cons]
   cases hy:x == n with
   | true=>exact ⟨_,rfl⟩
   | false=>exact h
theorem rN {env:Env} {x:Str}:∀ {l:List (Str × NameKind)} {acc:List (Str × Addr)},l.lookup x=some .free→∃ c,(kD env l acc).lookup x=some c
 | [],_,h=>by simp at h
 | (n,k) :: r,acc,h=>by
  rw [List.lookup_cons] at h
  cases hy:x == n with
  | true =>
   rw [hy] at h
   have hk:k=.free:=Option.some.inj h
   subst hk
   refine vP (l:=r) ⟨(env.cells.lookup n).getD 0,?_⟩
   show List.lookup x (if NameKind.free == NameKind.free then (n,(env.cells.lookup n).getD 0) :: acc else acc)=some ((env.cells.lookup n).getD 0)
   rw [if_pos (by rfl),List.lookup_cons,hy]
  | false =>
   rw [hy] at h
   exact rN (l:=r) h
theorem dv {env:Env} {x:Str}:∀ {l:List (Str × NameKind)},
  (l.map fun (n,k)=>if (k == NameKind.free && env.scope.kind == .function && env.kindOf n == some .cell) then (n,NameKind.cell) else (n,k)).lookup x
   = (l.lookup x).map fun k=>if (k == NameKind.free && env.scope.kind == .function && env.kindOf x == some .cell) then NameKind.cell else k
 | []=>rfl
 | (n,k) :: r=>by
  rw [List.map_cons]
  show List.lookup x ((if (k == NameKind.free && env.scope.kind == .function && env.kindOf n == some .cell)=true then (n,NameKind.cell) else (n,k)) :: _)=_
  cases hy:x == n with
  | true =>
   have yn:x=n:=by simpa using hy
   subst yn
   by_cases hc:(k == NameKind.free && env.scope.kind == .function && env.kindOf x == some .cell)=true
   ·rw [if_pos hc,List.lookup_cons,List.lookup_cons,hy]; simp only [Option.map_some]; rw [if_pos hc]
   ·rw [if_neg hc,List.lookup_cons,List.lookup_cons,hy]; simp only [Option.map_some]; rw [if_neg hc]
  | false =>
   by_cases hc:(k == NameKind.free && env.scope.kind == .function && env.kindOf n == some .cell)=true
   ·rw [if_pos hc,List.lookup_cons,List.lookup_cons,hy]; exact dv
   ·rw [if_neg hc,List.lookup_cons,List.lookup_cons,hy]; exact dv
def sel (ix:List (Option Nat)) (σ:St):St:=ix.map fun o=>o.bind fun i=>(σ[i]?).join
abbrev Cx.comp (X:Cx) (scope:Scope) (N':List Str) (C:Addr) (s0:Shared) (H0:Hp) (ex:List Addr):Cx :=
 { X with N:=N',s₀:=s0,H₀:=H0,env:=compEnvC scope (kD X.env scope.names []) C X.env,outer:=X.stack,ex:=ex,fn:=fun _=>false,pn:=[],xe:=fun _ _=>False }
structure bO (X:Cx) (scope:Scope) (ix:List (Option Nat)) (N':List Str):Prop where
 kind:scope.kind=.function
 nocell:∀ y∈scope.names,y.2 ≠ .cell
 nam:∀ y∈scope.names,y.2=.local→scope.names.lookup y.1=some .local
 fre:∀ y∈scope.names,y.2=.free→X.env.scope.names.lookup y.1=some .cell∨X.env.scope.names.lookup y.1=some .free
 len:ix.length=N'.length
 at_:∀ (j i:Nat) (x:Str),ix[j]?=some (some i)→N'[j]?=some x→X.N[i]?=some x∧scope.names.lookup x=some .free
section
variable {X:Cx} {scope:Scope} {ix:List (Option Nat)} {N':List Str} {pins:List (Addr × Obj)} {σ:St} {H:Hp} {s:Shared} {fp:List Addr}
theorem bO.cells (S:bO X scope ix N') (ok:X.Ok):∀ x∈scope.names,x.2=.free→∃ c,X.env.cells.lookup x.1=some c:=fun x hx hk=>ok.has x.1 (S.fre x hx hk)
theorem bO.sub (S:bO X scope ix N') (ok:X.Ok) {x:Str} {c:Addr} (h:(kD X.env scope.names []).lookup x=some c):X.env.cells.lookup x=some c:=wP (S.cells ok) (fun _ _ z=>by simp at z) h
theorem eN {x:Str} {k:NameKind}:∀ {l:List (Str × NameKind)},l.lookup x=some k→(x,k)∈l
 | [],h=>by simp at h
 | (n,j) :: r,h=>by
  rw [List.lookup_cons] at h
  cases hy:x == n with
  | true =>
   rw [hy] at h
   have yn:x=n:=by simpa using hy
   subst yn
   rw [Option.some.inj h]
   exact List.mem_cons_self
  | false =>
   rw [hy] at h
   exact List.mem_cons_of_mem _ (eN h)
theorem Inv.comp {C:Addr} {h1:Heap} {tk:Nat} (I:Inv X pins σ H s) (S:bO X scope ix N') (hf:∀ b∈fp,mf X pins H b) (hlt:∀ b∈fp,b < s.heap.objs.size) (hC:s.heap.objs.size≤C)
  (k:∀ b o,s.heap.get? b=some o→h1.get? b=some o) (hn:h1.Ns C (fun _=>none)):Inv (X.comp scope N' C s H fp) (X.pn ++ pins) (sel ix σ) H { s with heap:=h1,toks:=tk }:=by
 have sub:∀ {x:Str} {c:Addr},(kD X.env scope.names []).lookup x=some c→X.env.cells.lookup x=some c:=fun h=>S.sub I.ok h
 refine ⟨⟨I.ok.mod,S.kind,I.ok.glob,I.ok.blt,hC,fun x y c e1 e2=>I.ok.inj x y c (sub e1) (sub e2),fun x hx=>?_,fun _ _ z=>(Bool.false_ne_true z).elim,I.ok.hd,I.ok.frames,.inl rfl,fun b hb=>⟨Nat.ne_of_lt (Nat.lt_of_lt_of_le (hlt b hb) hC),fun x c e=>(hf b hb).2.2.2.2.1 x c (sub e)⟩,I.bs,
   Nat.le_trans I.ok.bsz I.sz,fun b o e hb=>?_,fun b hb hfs=>?_,I.stack,I.stkFree⟩,rfl,I.bare,Un.kept k,⟨_,hn,fun i x v e1 e2 e3=>?_⟩,fun x c e=>?_,I.hok.fresh hC,fun x c e=>I.freeC x c (sub e),fun p hp=>?_,I.hok.kept k,?_⟩
 ·have hx:(relabel scope X.env).names.lookup x=some .cell∨(relabel scope X.env).names.lookup x=some .free:=hx
  have e:(relabel scope X.env).names.lookup x=(scope.names.lookup x).map fun k=>if (k == NameKind.free && X.env.scope.kind == .function && X.env.kindOf x == some .cell) then NameKind.cell else k:=dv
  rw [e] at hx
  cases q:scope.names.lookup x with
  | none=>rw [q] at hx; rcases hx with hx | hx <;> simp at hx
  | some kd =>
   cases kd with
   | free=>exact rN q
   | cell=>exact absurd rfl (S.nocell _ (eN q))
   | _=>rw [q] at hx; rcases hx with hx | hx <;> simp at hx
 ·rcases (hf b hb).2.2.2.1 with z | z
  ·exact I.ok.noex b o e z
  ·exact absurd (Nat.lt_of_lt_of_le (Heap.lt_size e) (Nat.le_trans I.ok.bsz z)) (Nat.lt_irrefl _)
 ·rcases List.mem_cons.mp (I.stkSub b hfs) with z | z
  ·exact (hf b hb).2.1 z
  ·exact (hf b hb).2.2.1 z
 ·have e2':(ix[i]?).map (fun o=>o.bind fun i=>(σ[i]?).join)=some (some v):=by
   have z:(sel ix σ)[i]?=some (some v):=e2
   unfold sel at z
   rw [List.getElem?_map] at z
   exact z
  cases q:ix[i]? with
  | none=>rw [q] at e2'; cases e2'
  | some o =>
   rw [q] at e2'
   cases o with
   | none=>cases e2'
   | some j =>
    have e2'':(σ[j]?).join=some v:=Option.some.inj e2'
    have e4:σ[j]?=some (some v):=by
     cases r:σ[j]? with
     | none=>rw [r] at e2''; cases e2''
     | some w=>rw [r] at e2''; exact congrArg some e2''
    obtain ⟨n1,n2⟩:=S.at_ i j x q e1
    obtain ⟨m,hm,hl⟩:=I.loc
    have hk:=S.fre _ (eN n2) rfl
    have hv:Vis X.env.scope x:=by
     rcases hk with z | z
     ·exact .inr (.inl z)
     ·exact .inr (.inr z)
    obtain ⟨u,ru,lk⟩:=hl j x v n1 e4 hv
    refine ⟨u,ru,?_⟩
    have hk':X.env.kindOf x=some .cell∨X.env.kindOf x=some .free:=hk
    rcases lk with ⟨z,_⟩ | ⟨_,c,hc,hcell⟩
    ·rcases hk' with y | y <;> (rw [y] at z; cases z)
    ·obtain ⟨c',hc'⟩:=rN (env:=X.env) (acc:=[]) n2
     have:=sub hc'
     rw [hc] at this
     cases this
     refine .inr ⟨?_,c,hc',hcell.keeps k⟩
     show (relabel scope X.env).names.lookup x=some .cell∨(relabel scope X.env).names.lookup x=some .free
     have e:(relabel scope X.env).names.lookup x=(scope.names.lookup x).map fun k=>if (k == NameKind.free && X.env.scope.kind == .function && X.env.kindOf x == some .cell) then NameKind.cell else k:=dv
     rw [e,n2]
     simp only [Option.map_some]
     split
     ·exact .inl rfl
     ·exact .inr rfl
 ·obtain ⟨v,q⟩:=I.cell x c (sub e)
  exact ⟨v,q.keeps k⟩
 ·obtain ⟨e,n,ne,nf,d⟩:=I.pin p (by simpa using hp)
  refine ⟨k _ _ e,n,Nat.ne_of_lt (Nat.lt_of_lt_of_le (Heap.lt_size e) hC),fun z=>?_,d⟩
  rcases List.mem_cons.mp (I.stkSub p.1 z) with y | y
  ·exact ne y
  ·exact nf y
 ·show (sel ix σ).length=N'.length
  unfold sel
  rw [List.length_map]
  exact S.len
end
section
variable {prog:Program} {w:World} {A:Around} {R:Result→Shared→Prop} {s:Shared}
theorem gY {elt target iter:Expr} {ifs:List Expr} {scope:Scope} {pos:Pos} {it acc:Value} {env:Env} (I:Nat→Shared→Prop) {EX:Value→Shared→Prop} (hEX:∀ e s',EX e s'→notedBy (model prog w) A env (fun x s'=>R (.error x) s') e s')
  (turn:∀ n s,I n s→wpAny (model prog w) A (pyNext it) (fun r s₁=>match r with
   | none=>R (.ok .next) s₁
   | some v=>wpAny (model prog w) A (letOwnedTupleGo target it v) (fun _ s₁=>wpAny (model prog w) A (assign target env v) (fun _ s₂ =>
     wpAny (model prog w) A (forIn ifs true fun c r=>if r=true then do let ok ← isTrue c env (eval c env); pure (ForInStep.yield ok) else pure (ForInStep.yield r)) (fun ok s₃ =>
      if ok=true then wpAny (model prog w) A (eval elt env) (fun x s₄ =>
       wpAny (model prog w) A (call (.builtin "list.append") [acc,x]) (fun _ s₅=>∃ m,m < n∧I m s₅) (fun _ _=>False) s₄) EX s₃
      else ∃ m,m < n∧I m s₃) (fun _ _=>False) s₂) (fun _ _=>False) s₁) (fun _ _=>False) s₁) (fun _ _=>False) s)
  (n:Nat) (h:I n s) :
  codeAny (model prog w) A (.compLoop (.ListComp elt [⟨target,iter,ifs,0⟩] scope pos) 0 it acc env) R s:=by
 refine codeAny_loop rfl I (fun n s hI=>?_) n h
 show wpAny _ A ((compTurn (.ListComp elt [⟨target,iter,ifs,0⟩] scope pos) 0 it acc env).onRaise (fun x=>do noteFrame x env; theTreesLotGoes x)) _ _ s
 refine wpAny_noted ?_
 rw [compTurn_list]
 refine wpAny_bind (wpAny_standAt (wpAny_bind (wpAny_mono (turn n s hI) (fun r s₁ h₁=>?_) fun _ _ h'=>h'.elim)))
 cases r with
 | none=>exact wpAny_pure h₁
 | some v =>
  refine wpAny_bind (wpAny_mono h₁ (fun _ s₁' h₁'=>?_) fun _ _ h'=>h'.elim)
  refine wpAny_bind (wpAny_mono h₁' (fun _ s₂ h₂=>wpAny_bind (wpAny_mono h₂ (fun ok s₃ h₃=>?_) fun _ _ h'=>h'.elim)) fun _ _ h'=>h'.elim)
  cases ok with
  | false=>exact wpAny_pure ⟨rfl,h₃⟩
  | true =>
   exact wpAny_bind (wpAny_bind (wpAny_mono h₃ (fun x s₄ h₄=>wpAny_bind (wpAny_mono h₄ (fun _ s₅ h₅=>wpAny_pure (wpAny_pure ⟨rfl,h₅⟩)) fun _ _ h'=>h'.elim)) hEX))
end
def PF (X:Cx) (ifs:List Expr) (t:TT):Prop :=
 ∀ (pins:List (Addr × Obj)) (s:Shared) (σ:St) (H:Hp) (Q:Bool→Hp→Prop),Inv X pins σ H s→t σ H Q →
  wpAny (model X.prog X.w) X.A (forIn ifs true fun c r=>if r=true then do let ok ← isTrue c X.env (eval c X.env); pure (ForInStep.yield ok) else pure (ForInStep.yield r)) (TP X pins σ Q) X.xe s
def Cs:TT:=fun _ H Q=>Q true H
theorem BL {X:Cx}:PF X [] Cs:=fun _ _ _ H _ I h=>wpAny_tests_nil ⟨H,I,h⟩
theorem Ar {X:Cx} {c:Expr} {t:TT} (h:PT X c t):PF X [c] t:=fun pins s σ H Q I q=>wpAny_tests_one (h pins s σ H Q I q)
def z0 (ix:List (Option Nat)) (g:TG) (tt:TT) (te:TE) (σ:St) (J:It) (Q:VK) (H:Hp):Prop :=
 ∃ W:Nat→Nat→List V→St→Hp→Prop,(∃ m,W 0 m [] (sel ix σ) H)∧∀ i m ys σ' H,W i m ys σ' H →
  (J.stop i H∧ys.length≤sizeLine∧∀ D,H D=none→Q (.ref D) (upd H D (.lst ys))) ∨
  (J.go i H∧ys.length < sizeLine∧∀ x H',J.yld i H x H'→g x σ' H' fun σ2 H2=>tt σ2 H2 fun b H3=>if b=true then te σ2 H3 fun y H4=>∃ m',m' < m∧W (i + 1) m' (ys ++ [y]) σ2 H4 else ∃ m',m' < m∧W (i + 1) m' ys σ2 H3)
def wM (ix:List (Option Nat)) (wi:TI) (g:TG) (tt:TT) (te:TE):TE:=fun σ H Q=>wi σ H fun J H1=>z0 ix g tt te σ J Q H1
section
variable {X:Cx} {scope:Scope} {ix:List (Option Nat)} {N':List Str} {pins:List (Addr × Obj)} {σ:St} {H:Hp} {s:Shared} {fp:List Addr} {tg iter elt:Expr} {ifs:List Expr} {pos:Pos} {g:TG} {tt:TT} {te:TE} {J:It} {it:Addr} {tn:Nat→Heap→Prop} {Q:VK}
theorem lJ {XP:Addr→Shared→Hp→List Addr→List (Addr × Obj)→St→Value→Shared→Prop} {RR:Value→Addr→Result→Shared→Prop} {E:Value→Shared→Prop} (hc:X.calm=true) (S:bO X scope ix N') (I:Inv X pins σ H s) (T:rE X.prog X.w X.K tg J fp it tn) (st:tn 0 s.heap) (hf:∀ b∈fp,mf X pins H b)
  (hg:∀ C s0 H0 ex,PG (X.comp scope N' C s0 H0 ex) tg g) (ht:∀ C s0 H0 ex,PF (X.comp scope N' C s0 H0 ex) ifs tt) (he:∀ C s0 H0 ex pins s σ H Q,Inv (X.comp scope N' C s0 H0 ex) pins σ H s→te σ H Q→wpAny (model X.prog X.w) X.A (eval elt (X.comp scope N' C s0 H0 ex).env) (EP (X.comp scope N' C s0 H0 ex) pins σ Q) (XP C s0 H0 ex pins σ) s)
  (hx:∀ C D e s',s.heap.objs.size≤C→(∃ pins' σ',(∀ b∈fp,∃ o,(b,o)∈pins')∧XP C s H fp pins' σ' e s')→notedBy (model X.prog X.w) X.A (compEnvC scope (kD X.env scope.names []) C X.env) (fun x s'=>RR D C (.error x) s') e s')
  (hw:z0 ix g tt te σ J Q H)
  (fin:∀ D C s' H' m,s.heap.objs.size≤C→H' C=none→s'.heap.Ns C m→Inv X pins σ H' s'→Q (.ref D) H'→RR (.ref D) C (.ok .next) s') :
  wpAny (model X.prog X.w) X.A (newList []) (fun acc s₃=>wpAny (model X.prog X.w) X.A (newFunctionEnv scope X.env.globals (kD X.env scope.names []) [] X.env.qual none .none (some X.env)) (fun cenv s₄ =>
   codeAny (model X.prog X.w) X.A (.compStart (.ListComp elt [⟨tg,iter,ifs,0⟩] scope pos) 0 (.ref it) acc { cenv with scope:=relabel scope X.env }) (RR acc cenv.locals) s₄) E s₃) E s:=by
 obtain ⟨W,⟨m0,w0⟩,turn⟩:=hw
 have hlt:∀ b∈fp,b < s.heap.objs.size:=fun b hb=>by
  obtain ⟨o,e,_⟩:=T.obj _ _ st b hb
  exact Heap.lt_size e
 refine wpAny_newObj_type (wpAny_newFunctionEnv S.nocell (by intro y hy; simp at hy) (fun h₁ hns₁ hsb₁=>?_) S.kind)
 dsimp only at hns₁ hsb₁ ⊢
 generalize hH2:s.heap.push { cls:=.type "list",dict:=none,data:=.seq ([]:List Value).toArray }=H2 at hns₁ hsb₁ ⊢
 have hC:H2.objs.size=s.heap.objs.size + 1:=by rw [← hH2,Heap.size_push]
 have hDC:s.heap.objs.size ≠ H2.objs.size:=by rw [hC]; exact Nat.ne_of_lt (Nat.lt_succ_self _)
 have hCle:s.heap.objs.size≤H2.objs.size:=by rw [hC]; exact Nat.le_succ _
 have below:∀ b,b < s.heap.objs.size→b ≠ H2.objs.size∧b ≠ s.heap.objs.size:=fun b hb=>⟨by rw [hC]; exact Nat.ne_of_lt (Nat.lt_succ_of_lt hb),Nat.ne_of_lt hb⟩
 have old:∀ b o,s.heap.get? b=some o→h₁.get? b=some o:=fun b o e=>hsb₁.extBut b o (below b (Heap.lt_size e)).1 (Heap.get?_push_of_some _ (hH2 ▸ Heap.get?_push_of_some _ e))
 have hacc:h₁.get? s.heap.objs.size=some { cls:=.type "list",data:=.seq ([]:List Value).toArray 0 }:=hsb₁.extBut _ _ hDC (Heap.get?_push_of_some _ (hH2 ▸ Heap.get?_push_size _ rfl))
 have hns₁:h₁.Ns H2.objs.size (fun _=>none):=hns₁
 have stat:∀ {H':Hp} {pl:List (Addr × Obj)},(∀ b∈fp,H' b=none)→(∀ p∈pl,p.1 ∉ fp)→∀ b∈fp,mf (X.comp scope N' H2.objs.size s H fp) (X.pn ++ pins ++ pl) H' b:=fun {H' pl} hn hpl b hb=>by
  refine ⟨hn b hb,Nat.ne_of_lt (Nat.lt_of_lt_of_le (hlt b hb) hCle),fun z=>?_,.inl hb,fun x c e=>(hf b hb).2.2.2.2.1 x c (S.sub I.ok e),fun p hp=>?_⟩
  ·rcases List.mem_cons.mp (I.stkSub b z) with y | y
   ·exact (hf b hb).2.1 y
   ·exact (hf b hb).2.2.1 y
  ·rcases List.mem_append.mp (show p∈X.pn ++ pins ++ pl by simpa using hp) with z | z
   ·exact (hf b hb).2.2.2.2.2 p z
   ·intro q
    exact hpl p z (q ▸ hb)
 have loop:∀ s₃:Shared,s₃={ s with heap:=h₁,toks:=s.toks + ([]:List (Str × Value)).length } →
   codeAny (model X.prog X.w) X.A (.compLoop (.ListComp elt [⟨tg,iter,ifs,0⟩] scope pos) 0 (.ref it) (.ref s.heap.objs.size) (compEnvC scope (kD X.env scope.names []) H2.objs.size X.env))
    (RR (.ref s.heap.objs.size) H2.objs.size) s₃:=by
  rintro s₃ rfl
  refine gY (hEX:=fun e s' z=>hx _ _ e s' hCle z) (fun n s'=>∃ (i:Nat) (ys:List V) (us:List Value) (k:Nat) (σ':St) (H':Hp),Inv (X.comp scope N' H2.objs.size s H fp) (X.pn ++ pins) σ' H' s'∧tn i s'.heap∧(∀ b∈fp,H' b=none)∧H' s.heap.objs.size=none ∧
   s'.heap.get? s.heap.objs.size=some { cls:=.type "list",data:=.seq us.toArray k }∧aU ys us∧ys.length≤sizeLine∧W i n ys σ' H') ?_ m0
   ⟨0,[],[],0,sel ix σ,H,I.comp S hf hlt hCle old hns₁,T.keep _ _ _ st fun b _ o e=>old b o e,fun b hb=>(hf b hb).1,I.hok.fresh (Nat.le_refl _),hacc,.nil,Nat.zero_le _,w0⟩
  rintro n s' ⟨i,ys,us,k,σ',H',I',st',fr',hD',ho',rv',hz',w'⟩
  have cellD:∀ x c,(X.comp scope N' H2.objs.size s H fp).env.cells.lookup x=some c→c ≠ s.heap.objs.size:=fun x c e=>by
   obtain ⟨v,q⟩:=I.cell x c (S.sub I.ok e)
   exact Nat.ne_of_lt q.lt
  have pinD:∀ p∈X.pn ++ pins,p.1 ≠ s.heap.objs.size:=fun p hp=>Nat.ne_of_lt (Heap.lt_size (I.pin p hp).1)
  have dfs:s.heap.objs.size ∉ (X.comp scope N' H2.objs.size s H fp).fs:=fun z=>by
   rcases List.mem_cons.mp (I.stkSub _ z) with y | y
   ·exact absurd I.lt (by rw [← y]; exact Nat.lt_irrefl _)
   ·exact I.nofs (Nat.le_refl _) y
  have dfp:s.heap.objs.size ∉ fp:=fun z=>absurd (hlt _ z) (Nat.lt_irrefl _)
  have IpD:Inv (X.comp scope N' H2.objs.size s H fp) (X.pn ++ pins ++ [(s.heap.objs.size,{ cls:=.type "list",data:=.seq us.toArray k })]) σ' H' s':=I'.pins_of fun p hp=>by
   rcases List.mem_append.mp hp with z | z
   ·exact I'.pin p (List.mem_append_right _ z)
   ·have e:p=(s.heap.objs.size,{ cls:=.type "list",data:=.seq us.toArray k }):=by simpa using z
    subst e
    exact ⟨ho',hD',hDC,dfs,fun v z=>by cases z⟩
  have pfp:∀ p∈[((s.heap.objs.size,{ cls:=.type "list",data:=.seq us.toArray k }):Addr × Obj)],p.1 ∉ fp:=fun p hp=>by
   have e:p=(s.heap.objs.size,{ cls:=.type "list",data:=.seq us.toArray k }):=by simpa using hp
   subst e
   exact dfp
  rcases turn i n ys σ' H' w' with ⟨stop,hz,q⟩ | ⟨go,hz,step⟩
  ·refine wpAny_mono (T.done (X.comp scope N' H2.objs.size s H fp) rfl rfl rfl hc i _ s' σ' H' (fun _ _=>False) IpD (stat fr' pfp) st' stop) (fun r s1 ⟨hr,I1⟩=>?_) fun _ _ z=>z
   subst hr
   show RR _ _ _ _
   have ho1:s1.heap.get? s.heap.objs.size=some { cls:=.type "list",data:=.seq us.toArray k }:=(I1.pin (s.heap.objs.size,{ cls:=.type "list",data:=.seq us.toArray k }) (by simp)).1
   obtain ⟨m,hnC,_⟩:=id I1.loc
   refine fin _ _ s1 (upd H' s.heap.objs.size (.lst ys)) m hCle (by rw [aK (Ne.symm hDC)]; exact I1.free) hnC ?_ (q _ hD')
   have nD:∀ b o,s.heap.get? b=some o→b ≠ s.heap.objs.size:=fun b o e=>(below b (Heap.lt_size e)).2
   have hD0:H s.heap.objs.size=none:=I.hok.fresh (Nat.le_refl _)
   refine I.call' (s':=s1) (ch:=fp) I1.os ⟨fun b o e n1 n2 n3=>?_,fun b o e n1 n2 n3=>?_,fun b o e n1 n2=>?_,fun b o e n1=>?_,fun b xs e=>?_,fun b o u e=>?_,fun b ps e=>?_⟩ (fun b u e=>?_) I1.bare fun b hb=>⟨(hf b hb).2.2.2.1,(hf b hb).2.1,(hf b hb).2.2.2.2.1,(hf b hb).2.2.2.2.2⟩
   ·exact I1.base.keep b o e n1 n2 n3
   ·exact I1.base.slot b o e n1 n2 n3
   ·rw [aK (nD b o e)]
    exact I1.base.free b o e n1 n2
   ·exact I1.base.there b o e n1
   ·rw [aK (bh e hD0)]
    exact I1.base.tups b xs e
   ·rw [aK (bh e hD0)]
    exact I1.base.frzs b o u e
   ·obtain ⟨more,z⟩:=I1.base.tbls b ps e
    exact ⟨more,by rw [aK (bh e hD0)]; exact z⟩
   ·by_cases hb:b=s.heap.objs.size
    ·subst hb
     rw [aN] at e
     cases e
     exact ⟨hz,us,k,rv',ho1⟩
    ·rw [aK hb] at e
     exact (I1.hok b u e).stay (fun c v _ z=>z) (fun c z=>by rw [aK (bh z hD')]; exact z) (fun c xs z=>by rw [aK (bh z hD')]; exact z)
  ·refine wpAny_mono (T.item (X.comp scope N' H2.objs.size s H fp) rfl rfl rfl hc i _ s' σ' H' (fun _ _=>False) IpD (stat fr' pfp) st' go) (fun r s1 ⟨v,hr,h4⟩=>?_) fun _ _ z=>z
   subst hr
   show wpAny _ _ (letOwnedTupleGo tg (.ref it) v) _ _ s1
   refine wpAny_mono h4 (fun _ s2 ⟨x,H5,I5,r5,y5,st5,fr5⟩=>?_) fun _ _ z=>z
   have I5':=I5.pinned (stat fr5 pfp) (T.obj _ _ st5)
   refine wpAny_mono (hg H2.objs.size s H fp _ s2 σ' H5 x v _ I5' r5 (step x H5 y5)) (fun _ s3 ⟨σ6,H6,I6,q6⟩=>?_) fun _ _ z=>z
   refine wpAny_mono (ht H2.objs.size s H fp _ s3 σ6 H6 _ I6 q6) (fun ok s4 ⟨H7,I7,q7⟩=>?_) fun _ _ z=>z
   have facts:∀ {σ7:St} {H7:Hp} {s7:Shared},Inv (X.comp scope N' H2.objs.size s H fp) (X.pn ++ pins ++ [(s.heap.objs.size,{ cls:=.type "list",data:=.seq us.toArray k })] ++ lh fp s2.heap) σ7 H7 s7 →
     tn (i + 1) s7.heap∧(∀ b∈fp,H7 b=none)∧H7 s.heap.objs.size=none∧s7.heap.get? s.heap.objs.size=some { cls:=.type "list",data:=.seq us.toArray k }:=fun {σ7 H7 s7} K7=>by
    have pd:=K7.pin (s.heap.objs.size,{ cls:=.type "list",data:=.seq us.toArray k }) (by simp)
    refine ⟨T.keep _ _ _ st5 fun b hb o e=>(K7.pin (b,o) (List.mem_append_right _ (List.mem_append_right _ (eE hb e)))).1,fun b hb=>?_,pd.2.1,pd.1⟩
    obtain ⟨o,e,d⟩:=T.obj _ _ st5 b hb
    exact (K7.pin (b,o) (List.mem_append_right _ (List.mem_append_right _ (eE hb e)))).2.1
   cases ok with
   | false =>
    rw [if_neg Bool.false_ne_true] at q7 ⊢
    obtain ⟨m',hm,w7⟩:=q7
    obtain ⟨t7,f7,d7,o7⟩:=facts I7
    exact ⟨m',hm,i + 1,ys,us,k,σ6,H7,I7.unpinned.unpinned,t7,f7,d7,o7,rv',hz',w7⟩
   | true =>
    rw [if_pos rfl] at q7 ⊢
    refine wpAny_mono (he H2.objs.size s H fp _ s4 σ6 H7 _ I7 q7) (fun yv s5 ⟨y,H8,I8,r8,m',hm,w8⟩=>?_) fun _ _ z=>⟨_,_,fun b hb=>(by
     obtain ⟨o,e,_⟩:=T.obj _ _ st5 b hb
     exact ⟨o,List.mem_append_right _ (eE hb e)⟩),z⟩
    obtain ⟨t8,f8,d8,o8⟩:=facts I8
    have hsz:us.toArray.size≤sizeLine:=by
     rw [List.size_toArray,← rv'.length]
     exact hz'
    refine append_at (hsz:=hsz) o8 fun h' sb od=>?_
    refine ⟨m',hm,i + 1,ys ++ [y],us ++ [yv],k + 1,σ6,H8,?_,T.keep _ _ _ t8 fun b hb o e=>(sb.2 b fun q=>dfp (q ▸ hb)).trans e,f8,d8,?_,rv'.append (.cons r8 .nil),?_,w8⟩
    ·exact I8.unpinned.unpinned.turned (it:=s.heap.objs.size) (t':=s5.toks) (fun b o hb e=>(sb.2 b hb).trans e) d8 hDC (.inr (Nat.le_refl _)) cellD (by simpa using pinD)
    ·rw [od,List.push_toArray]
    ·rw [List.length_append,List.length_singleton]
     exact hz
 exact codeAny_compStart_list (loop _ rfl) (T.self _ 0 _ _ _ (T.keep _ _ _ st fun b _ o e=>old b o e) (loop _ rfl))
theorem Inv.letGo {C:Addr} {s':Shared} {H':Hp} {σ':St} {h':Heap} (I:Inv X pins σ H s) (I':Inv X pins σ' H' s') (hC:s.heap.objs.size≤C) (hn:H' C=none) (hs:Heap.SameBut C s'.heap h'):Inv X pins σ' H' { s' with heap:=h' } :=
 I'.turned (t':=s'.toks) (it:=C) (fun b o hb e=>(hs.2 b hb).trans e) hn (fun z=>absurd (Nat.lt_of_lt_of_le I.lt hC) (by rw [z]; exact Nat.lt_irrefl _)) (.inr (Nat.le_trans I.sz hC))
  (fun x c e z=>by
   obtain ⟨v,r⟩:=I.cell x c e
   exact absurd (Nat.lt_of_lt_of_le r.lt hC) (by rw [z]; exact Nat.lt_irrefl _))
  (fun p hp z=>absurd (Nat.lt_of_lt_of_le (Heap.lt_size (I.pin p hp).1) hC) (by rw [z]; exact Nat.lt_irrefl _))
theorem yq {wi:TI} (hc:X.calm=true) (S:bO X scope ix N') (hi:PI X tg iter wi) (hg:∀ C s0 H0 ex,PG (X.comp scope N' C s0 H0 ex) tg g) (ht:∀ C s0 H0 ex,PF (X.comp scope N' C s0 H0 ex) ifs tt) (he:∀ C s0 H0 ex,PE (X.comp scope N' C s0 H0 ex) elt te)
  (hs:∀ x,foldedSetIterable iter X.env x=pure x:=by intro _; rfl):PE X (.ListComp elt [⟨tg,iter,ifs,0⟩] scope pos) (wM ix wi g tt te):=by
 intro pins s σ H Q I h
 rw [eval_ListComp]
 refine wpAny_comprehension_free (use:=none) rfl hs (io (S.cells I.ok)) S.kind S.nam (wpAny_mono (hi pins s σ H _ I h) (fun xv s₁ h₁=>wpAny_mono h₁ (fun itv s₂ h₂=>?_) fun _ _ e=>e) fun _ _ e=>e)
 obtain ⟨it,fp,tn,J,H2,e,I2,T,st2,f2,hw⟩:=h₂
 subst e
 refine lJ (RR:=fun acc C=>compPost (model X.prog X.w) X.A X.xe none (EP X pins σ Q) acc C) hc S I2 T st2 f2 hg ht (XP:=fun _ _ _ _ _ _ _ _=>False) he (fun _ _ _ _ _ z=>by obtain ⟨_,_,_,z⟩:=z; exact z.elim) hw fun D C s' H' m hCs hCn hn I3 q=>?_
 exact ⟨m,hn,fun h' hs'=>⟨.ref D,_,I2.letGo I3 hCs hCn hs',rfl,q⟩⟩
theorem r6 {wi:TI} {i:Nat} {x:Str} {px spos:Pos} (hN:X.N.Nodup) (hix:X.N[i]?=some x) (hx:Loc X.env.scope x) (hc:X.calm=true) (S:bO X scope ix N') (hi:PI X tg iter wi) (hg:∀ C s0 H0 ex,PG (X.comp scope N' C s0 H0 ex) tg g) (ht:∀ C s0 H0 ex,PF (X.comp scope N' C s0 H0 ex) ifs tt)
  (he:∀ C s0 H0 ex,PE (X.comp scope N' C s0 H0 ex) elt te) (hsw:swapsWith (.ListComp elt [⟨tg,iter,ifs,0⟩] scope pos) (some (.Name x px)) spos.line X.env=pure true)
  (hf:X.fn x=true∨X.env.scope.names.lookup x=some .local:=by first | exact .inl rfl | exact .inr rfl | assumption) (hs:∀ x,foldedSetIterable iter X.env x=pure x:=by intro _; rfl) :
  PS X (.Assign [.Name x px] (.ListComp elt [⟨tg,iter,ifs,0⟩] scope pos) spos) (Bb (wM ix wi g tt te) (xF i)):=by
 intro pins s σ H D I h
 rw [exec_Assign_Name_used _ _ _ _ hsw]
 refine wpAny_bind (wpAny_standAt (wpAny_bind ?_))
 show wpAny _ X.A (do let _ ← comprehension (.ListComp elt [⟨tg,iter,ifs,0⟩] scope pos) scope X.env _ (newList []) false (eval iter X.env) (some (assign (.Name x px) X.env))) _ _ s
 refine wpAny_bind (wpAny_mono (wpAny_comprehension_free (use:=some (assign (.Name x px) X.env)) (Q:=fun _ s'=>SP X pins D .next s') rfl hs (io (S.cells I.ok)) S.kind S.nam
  (wpAny_mono (hi pins s σ H _ I h) (fun xv s₁ h₁=>wpAny_mono h₁ (fun itv s₂ h₂=>?_) fun _ _ e=>e) fun _ _ e=>e)) (fun _ s' hq=>wpAny_pure (wpAny_pure hq)) fun _ _ e=>e)
 obtain ⟨it,fp,tn,J,H2,e,I2,T,st2,f2,hw⟩:=h₂
 subst e
 refine lJ (RR:=fun acc C=>compPost (model X.prog X.w) X.A X.xe (some (assign (.Name x px) X.env)) (fun _ s'=>SP X pins D .next s') acc C) hc S I2 T st2 f2 hg ht (XP:=fun _ _ _ _ _ _ _ _=>False) he (fun _ _ _ _ _ z=>by obtain ⟨_,_,_,z⟩:=z; exact z.elim) hw fun Da C s' H' m hCs hCn hn I3 q=>?_
 show wpAny _ X.A (assign (.Name x px) X.env (.ref Da)) _ _ _
 refine wpAny_assign_Name (nR I3 hN hix hx (v:=.ref Da) rfl (fun s4 I4 ⟨a,sb,ha⟩=>?_) hf)
 have ca:C ≠ a:=fun z=>by
  rcases ha with y | y
  ·exact absurd (Nat.lt_of_lt_of_le I2.lt hCs) (by rw [z,y]; exact Nat.lt_irrefl _)
  ·obtain ⟨v,r⟩:=I2.cell x a y
   exact absurd (Nat.lt_of_lt_of_le r.lt hCs) (by rw [z]; exact Nat.lt_irrefl _)
 exact ⟨m,hn.sameBut sb ca,fun h' hs'=>⟨_,H',I2.letGo I4 hCs hCn hs',q⟩⟩
end
end L2
namespace L2
open PySem PySem.Spec PyProof.Rows
theorem ky:typeLookup (.type "list") "__getattr__"=pure none:=by rw [typeLookup_type,builtinLookup_eq_fast]; kernel_rfl
theorem o4:typeLookup (.type "list") "keys"=pure none:=by rw [typeLookup_type,builtinLookup_eq_fast]; kernel_rfl
section
variable {prog:Program} {w:World} {A:Around} {E:Value→Shared→Prop}
theorem xg (a:Addr) (u:Tok) (its:Array Value) (n:Nat) (sl:Array (Option Value)) :
  Meets (Builtin.«object.__getattribute__» ⟨[.ref a,.str "keys" u],[]⟩) fun A R s=>s.heap.get? a=some ⟨.type "list",none,.seq its n,sl⟩∧A.handled=none∧∀ h' tk e,Heap.NewAttrErr s.heap h' e (.ref a) "keys"→R (.error (.ref e)) { s with heap:=h',toks:=tk } :=
 Meets.of_wp fun prog w A R s hs=>by
  obtain ⟨hp,g,d,tk,os⟩:=s
  obtain ⟨h1,h2,h3⟩:=hs
  have hT:(⟨hp,g,d,tk,os⟩:Shared).TypeIs (.ref a) "list":=⟨_,h1,rfl⟩
  have f1:=o4
  unfold Builtin.«object.__getattribute__»
  repeat (any_goals (first | assumption | wp_step))
  exact wpAny_raiseAttrError h2 h3 (attrMsg_fits (by decide +kernel) (by decide))
theorem oF {s:Shared} {a:Addr} {its:Array Value} {n:Nat} {sl:Array (Option Value)} {Q:Option Value→Shared→Prop} (ha:s.heap.get? a=some ⟨.type "list",none,.seq its n,sl⟩) (hA:A.handled=none)
  (h:∀ h' tk,(∀ b o,s.heap.get? b=some o→h'.get? b=some o)→Q none { s with heap:=h',toks:=tk }):wpAny (model prog w) A (getAttr? (.ref a) "keys") Q E s:=by
 obtain ⟨hp,g,d,tk,os⟩:=s
 have hT:(⟨hp,g,d,tk,os⟩:Shared).TypeIs (.ref a) "list":=⟨_,ha,rfl⟩
 have f1:=sub_AttributeError
 have f3:=F.slot_list_getattribute.lookup
 have f4:=F.slot_list_getattribute.bind (.ref a)
 have f5:=ky
 unfold getAttr? getAttrBy? getAttrBy
 repeat (any_goals (first | assumption | ((with_reducible show wpAny _ _ (call (Value.builtin "list.__getattribute__") _ _) _ _ _); refine call_meets F.slot_list_getattribute hT F.entry_list_ga (F.args_list_getattribute_2 _ _) (xg a _ its n sl) ⟨ha,hA,fun h' tk' e hx=>?_⟩) | wp_step))
 obtain ⟨t',u',he⟩:=hx.there
 show wpAny _ _ (getattributeRaised _ _ _ _ _ _ _) _ _ _
 unfold getattributeRaised
 repeat (any_goals (first | assumption | wp_step))
 all_goals first | exact h _ _ hx.keeps | skip
end
end L2
namespace L2
open PySem PySem.Spec PyProof.Rows
theorem kh:entryFor table "dict.update.loop"=some Builtin.«dict.update.loop»:=entryFor_of_tree (by kernel_rfl)
theorem eV:plainId "dict.update.loop"=true:=by decide +kernel
section
variable {prog:Program} {w:World} {A:Around} {E:Value→Shared→Prop} {R:Result→Shared→Prop} {κ:Type} [DecidableEq κ] {knd:PySem.KeyKind prog w κ}
 {I:Addr} {fp wr:List Addr} {G:Array GenState→Array GenState→Prop} {P:Nat→Value→Prop} {St:Nat→Shared→Prop}
theorem zP {s:Shared} {t:Addr} {x y:Value} {Q:List Value→Shared→Prop} (h:s.heap.IsTuple t #[x,y]) (q:Q [x,y] s):wpAny (model prog w) A (Builtin.Dict.pairItems (.ref t)) Q E s:=by
 obtain ⟨⟨oc,od,oda,osl⟩,h1,h2,n,h3⟩:=h
 simp only at h2 h3
 subst h2 h3
 have hT:s.TypeIs (.ref t) "tuple":=⟨_,h1,rfl⟩
 obtain ⟨hp,g,d,tk,os⟩:=s
 unfold Builtin.Dict.pairItems
 repeat (any_goals (first | assumption | wp_step))
theorem vk {all:List (κ × Value)} (W:WalksS prog w A.in1 I fp wr G all.length P St) (d:Addr) (hdf:d ∉ fp) (kv:Nat→Value) (tp:Nat→Addr) (hP:∀ i v,P i v→v=.ref (tp i)) (hw:∀ j,j < all.length→tp j ∉ wr∧tp j ≠ d)
  (hk:∀ j p,all[j]?=some p→knd.is p.1 (kv j)=true) (hz:all.length≤sizeLine) :
  ∀ (k i:Nat) (z:Int) (s:Shared),all.length - i=k→i≤all.length→St i s→(∀ j p,all[j]?=some p→s.heap.IsTuple (tp j) #[kv j,p.2])→s.heap.DictOf knd d (merged [] (all.take i)) →
   (∀ s',Moved (d :: wr) G s s'→s'.heap.DictOf knd d (merged [] all)→R (.ok (.ret .none)) s')→codeAny (model prog w) A (.builtin "dict.update.loop" ⟨[.ref d,.ref I,.int z 0,.none],[]⟩) R s:=by
 have hdw:d ∉ wr:=fun h=>hdf (W.sub _ h)
 have hsub:∀ b∈wr,b∈d :: wr:=fun b hb=>List.mem_cons_of_mem _ hb
 intro k
 induction k with
 | zero =>
  intro i z s hk0 hi hst hT hD hR
  have hin:i=all.length:=by omega
  subst hin
  refine codeAny_builtin kh ?_
  rw [Around.under_plainId eV _]
  show wpAny _ A.in1 (pyNext (.ref I) >>= _) _ _ s
  refine wpAny_bind (W.done s _ _ hst fun s' hm=>?_)
  show wpAny _ A.in1 (Builtin.Dict.addKeywords d [] >>= _) _ _ s'
  refine wpAny_bind (wpAny_pure (wpAny_pure (hR s' (hm.mono hsub) ?_)))
  rw [List.take_length] at hD
  obtain ⟨o,es,ep,ho,rest⟩:=hD
  exact ⟨o,es,ep,hm.heap d _ hdw ho,rest⟩
 | succ k ih =>
  intro i z s hk0 hi hst hT hD hR
  have hlt:i < all.length:=by omega
  have hget:all[i]?=some all[i]:=List.getElem?_eq_getElem hlt
  refine codeAny_builtin kh ?_
  rw [Around.under_plainId eV _]
  show wpAny _ A.in1 (pyNext (.ref I) >>= _) _ _ s
  refine wpAny_bind (W.item i s _ _ hlt hst fun v s' hPv hst' hm=>?_)
  obtain rfl:=hP i v hPv
  have hT':∀ j p,all[j]?=some p→s'.heap.IsTuple (tp j) #[kv j,p.2]:=fun j p e=>by
   obtain ⟨o,h1,h2⟩:=hT j p e
   exact ⟨o,hm.heap _ _ (hw j (List.getElem?_eq_some_iff.mp e).1).1 h1,h2⟩
  have hD':s'.heap.DictOf knd d (merged [] (all.take i)):=by
   obtain ⟨o,es,ep,ho,rest⟩:=hD
   exact ⟨o,es,ep,hm.heap d _ hdw ho,rest⟩
  show wpAny _ A.in1 (holding [Value.ref (tp i)] _ >>= _) _ _ s'
  refine wpAny_bind (wpAny_holding (wpAny_bind (wpAny_tryCatch (zP (hT' i _ hget) ?_))))
  show wpAny _ A.in1 (holding [kv i,all[i].2] (dictSet d (kv i) all[i].2)) _ _ s'
  refine wpAny_holding ?_
  unfold dictSet
  refine wpAny_holding (wpAny_bind (knd.pyHash (hk i _ hget) ?_))
  have hl:(merged [] (all.take i)).length≤sizeLine:=by
   have:=merged_length_le [] (all.take i)
   rw [List.length_take] at this
   simp only [List.length_nil] at this
   omega
  refine wpAny_dictSetHashed_pairs (hsz:=hl) (hk i _ hget) hD' fun h' dd hs=>?_
  rw [← merged_take_succ [] all i _ hget] at dd
  refine wpAny_pure ⟨plainId_quiet eV _,ih (i + 1) _ _ (by omega) hlt (W.frame _ s' _ _ hst' (Nat.le_succ _) fun b hb o e=>?_) (fun j p e=>?_) dd fun s'' hm'' hD''=>?_⟩
  ·rw [hs.2 b (fun z:b=d=>hdf (z ▸ hb))]; exact e
  ·obtain ⟨o,h1,h2⟩:=hT' j p e
   refine ⟨o,?_,h2⟩
   show h'.get? (tp j)=some o
   rw [hs.2 _ (hw j (List.getElem?_eq_some_iff.mp e).1).2]
   exact h1
  ·refine hR s'' (Moved.trans W.gtrans ((hm.mono hsub).then_heap (Nat.le_succ _) fun b o hb e=>?_) hm'') hD''
   rw [hs.2 b (fun z:b=d=>hb (by rw [z]; exact List.mem_cons_self))]; exact e
end
end L2
namespace L2
open PySem PySem.Spec PyProof.Rows
section
variable {prog:Program} {w:World} {A:Around} {E:Value→Shared→Prop} {κ:Type} [DecidableEq κ] {knd:PySem.KeyKind prog w κ} {s:Shared}
theorem kG {l:Addr} {its:Array Value} {n:Nat} {sl:Array (Option Value)} {all:List (κ × Value)} {Q:Value→Shared→Prop} (kv:Nat→Value) (tp:Nat→Addr) (hh:A.handled=none) (hl:s.heap.get? l=some ⟨.type "list",none,.seq its n,sl⟩)
  (hits:∀ (j:Nat) (v:Value),its[j]?=some v→v=.ref (tp j)) (hlen:its.size=all.length) (hT:∀ j p,all[j]?=some p→s.heap.IsTuple (tp j) #[kv j,p.2]) (hk:∀ j p,all[j]?=some p→knd.is p.1 (kv j)=true) (hz:all.length≤sizeLine)
  (h:∀ h' tk,h'.DictOf knd s.heap.objs.size (merged [] all)→(∀ b o,s.heap.get? b=some o→h'.get? b=some o)→Q (.ref s.heap.objs.size) { s with heap:=h',toks:=tk }) :
  wpAny (model prog w) A (call (.type "dict") [.ref l]) Q E s:=by
 refine callType_codes (Q₁:=fun obj s₁=>obj=Value.ref s.heap.objs.size∧s₁={ s with heap:=s.heap.push { cls:=.type "dict",data:=.dict #[] } }) PySem.F.kt_called_dict (PySem.F.kt_typeCall_dict_1 _) F.entry_dict_init (kt_code_dict_new _ ⟨rfl,rfl⟩) ?_
 rintro obj s₁ ⟨rfl,rfl⟩
 have hnew:(s.heap.push { cls:=.type "dict",data:=.dict #[] }).DictOf knd s.heap.objs.size []:=Heap.DictOf.new s.heap
 have hl':(s.heap.push { cls:=.type "dict",data:=.dict #[] }).get? l=some ⟨.type "list",none,.seq its n,sl⟩:=Heap.get?_push_of_some _ hl
 have hTl:Shared.TypeIs { s with heap:=s.heap.push { cls:=.type "dict",data:=.dict #[] } } (.ref l) "list":=⟨_,hl',rfl⟩
 have lsz:l < s.heap.objs.size:=Heap.lt_size hl
 refine ⟨hnew.typeIs,F.args_dict_init_2 _ _,?_⟩
 unfold Builtin.«dict.__init__»
 refine wpAny_bind ?_
 unfold Builtin.Dict.selfAndRest
 refine wpAny_bind (wpAny_notOrdered_dict hnew.typeIs ?_)
 show wpAny _ _ (pure (s.heap.objs.size,[Value.ref l])) _ _ _
 refine wpAny_pure ?_
 show wpAny _ _ (Builtin.Dict.updateFrom "dict.__init__" s.heap.objs.size (.ref l) [] .none) _ _ _
 unfold Builtin.Dict.updateFrom
 refine wpAny_bind (wpAny_typeOf hTl ?_)
 rw [if_pos (by decide)]
 refine wpAny_bind (oF hl' (by simpa using hh) fun h' tk keep=>?_)
 have hl2:h'.IsList l its:=⟨_,keep _ _ hl',rfl,n,rfl⟩
 show wpAny _ _ (rule _ >>= _) _ _ _
 refine wpAny_bind (wpAny_rule (wpAny_bind (wpAny_pyIter_list hl2 ?_)))
 have nd:h'.objs.size > s.heap.objs.size:=by
  have z:h'.get? s.heap.objs.size=some _:=keep _ _ (Heap.get?_push_size _ rfl)
  exact Heap.lt_size z
 have hDn:h'.DictOf knd s.heap.objs.size []:=by
  obtain ⟨o,es,ep,ho,rest⟩:=hnew
  exact ⟨o,es,ep,keep _ _ ho,rest⟩
 have hTs:∀ j p,all[j]?=some p→h'.IsTuple (tp j) #[kv j,p.2]:=fun j p e=>by
  obtain ⟨o,h1,h2⟩:=hT j p e
  exact ⟨o,keep _ _ (Heap.get?_push_of_some _ h1),h2⟩
 have hne:l ≠ h'.objs.size:=Nat.ne_of_lt (Nat.lt_trans lsz nd)
 have W:=(Walks.list (prog:=prog) (w:=w) (A:=A.in1.in1) (by simpa using hh) h'.objs.size l hne its).toS
 rw [hlen] at W
 refine wpAny_pure ⟨plainId_quiet eV _,vk (A:=A.in1) W s.heap.objs.size ?_ kv tp (fun i v e=>hits i v e) (fun j hj=>?_) hk hz all.length 0 0 _ (by omega) (Nat.zero_le _) ⟨⟨_,Heap.get?_push_size _ rfl,rfl,rfl⟩,hl2.push _⟩ (fun j p e=>(hTs j p e).push _) ?_ fun s' hm hD=>?_⟩
 ·simp only [List.mem_cons,List.not_mem_nil,or_false,not_or]
  exact ⟨Nat.ne_of_lt nd,Nat.ne_of_gt lsz⟩
 ·have hj':all[j]?=some all[j]:=List.getElem?_eq_getElem hj
  obtain ⟨o,h1,_⟩:=hT j _ hj'
  have tsz:=Heap.lt_size h1
  simp only [List.mem_cons,List.not_mem_nil,or_false]
  exact ⟨Nat.ne_of_lt (Nat.lt_trans tsz nd),Nat.ne_of_lt tsz⟩
 ·obtain ⟨o,es,ep,ho,rest⟩:=hDn
  exact ⟨o,es,ep,Heap.get?_push_of_some _ ho,rest⟩
 ·obtain ⟨h2,g2,d2,t2,o2⟩:=s'
  have eg:g2=s.gens:=hm.gens
  have ed:d2=s.drawn:=hm.drawn
  have eo:o2=s.os:=hm.os
  subst eg ed eo
  refine ⟨rfl,h h2 t2 hD fun b o e=>?_⟩
  have hb:=Heap.lt_size e
  refine hm.heap b o ?_ (Heap.get?_push_of_some _ (keep _ _ (Heap.get?_push_of_some _ e)))
  simp only [List.mem_cons,List.not_mem_nil,or_false,not_or]
  exact ⟨Nat.ne_of_lt hb,Nat.ne_of_lt (Nat.lt_trans hb nd)⟩
end
end L2
namespace L2
open PySem PySem.Spec PyProof.Rows
def cE {κ:Type} [DecidableEq κ] (l:List κ):List κ:=l.foldl (fun acc k=>if k∈acc then acc else acc ++ [k]) []
theorem jU {κ:Type} [DecidableEq κ] (l:List κ) (k:κ):cE (l ++ [k])=if k∈cE l then cE l else cE l ++ [k]:=by
 unfold cE
 rw [List.foldl_append]
 rfl
theorem zi {κ:Type} [DecidableEq κ]:∀ l:List κ,(cE l).length≤l.length:=by
 have go:∀ (l acc:List κ),(l.foldl (fun acc k=>if k∈acc then acc else acc ++ [k]) acc).length≤acc.length + l.length:=by
  intro l
  induction l with
  | nil=>intro acc; simp
  | cons k r ih =>
   intro acc
   rw [List.foldl_cons]
   refine Nat.le_trans (ih _) ?_
   split
   ·simp only [List.length_cons]; omega
   ·simp only [List.length_cons,List.length_append,List.length_nil]; omega
 intro l
 have:=go l []
 simpa [cE] using this
theorem sT {κ:Type} [DecidableEq κ]:∀ l:List κ,l.Nodup→cE l=l:=by
 have go:∀ (l acc:List κ),(acc ++ l).Nodup→l.foldl (fun acc k=>if k∈acc then acc else acc ++ [k]) acc=acc ++ l:=by
  intro l
  induction l with
  | nil=>intro acc _; simp
  | cons k r ih =>
   intro acc h
   have hk:k ∉ acc:=fun z=>by
    rw [List.nodup_append] at h
    exact h.2.2 k z k List.mem_cons_self rfl
   rw [List.foldl_cons,if_neg hk,ih]
   ·rw [List.append_assoc]; rfl
   ·rw [List.append_assoc]; exact h
 intro l h
 have:=go l [] (by simpa using h)
 simpa [cE] using this
section
variable {prog:Program} {w:World} {A:Around} {E:Value→Shared→Prop} {R:Result→Shared→Prop} {κ:Type} [DecidableEq κ] [BEq κ] [LawfulBEq κ] {knd:PySem.KeyKind prog w κ}
 {I:Addr} {fp wr:List Addr} {G:Array GenState→Array GenState→Prop} {P:Nat→Value→Prop} {St:Nat→Shared→Prop}
theorem rj {all:List κ} (W:WalksS prog w A.in1 I fp wr G all.length P St) (S:Addr) (hSf:S ∉ fp) (hval:∀ i v k,P i v→all[i]?=some k→knd.is k v=true∧v.scannable=true) (hb:all.length + 1 < scanBound) :
  ∀ (n i:Nat) (s:Shared),all.length - i=n→i≤all.length→St i s→s.heap.SetOf knd S (fun x=>decide (x∈cE (all.take i))) (cE (all.take i)).length →
   (∀ s',Moved (S :: wr) G s s'→s'.heap.SetOf knd S (fun x=>decide (x∈cE all)) (cE all).length→R (.ok (.ret .none)) s')→codeAny (model prog w) A (.builtin "set.update.loop" ⟨[.ref S,.ref I],[]⟩) R s:=by
 have hSw:S ∉ wr:=fun h=>hSf (W.sub _ h)
 have up:∀ b∈wr,b∈S :: wr:=fun b hb=>List.mem_cons_of_mem _ hb
 have kept:∀ {s s':Shared} {T:κ→Bool} {m:Nat},Moved wr G s s'→s.heap.SetOf knd S T m→s'.heap.SetOf knd S T m:=fun hm ⟨o,es,ep,t,ho,rest⟩=>⟨o,es,ep,t,hm.heap S _ hSw ho,rest⟩
 intro n
 induction n with
 | zero =>
  intro i s h0 hi hst hS hR
  obtain rfl:i=all.length:=by omega
  refine codeAny_builtin PyProof.Rows.F.entry_set_update_loop ?_
  rw [Around.under_plainId PyProof.Rows.F.plain_set_update_loop _]
  rw [List.take_length] at hS
  exact wpAny_bind (W.done s _ _ hst fun s' hm=>wpAny_pure (hR s' (hm.mono up) (kept hm hS)))
 | succ n ih =>
  intro i s h0 hi hst hS hR
  have hlt:i < all.length:=by omega
  have hget:all[i]?=some all[i]:=List.getElem?_eq_getElem hlt
  refine codeAny_builtin PyProof.Rows.F.entry_set_update_loop ?_
  rw [Around.under_plainId PyProof.Rows.F.plain_set_update_loop _]
  refine wpAny_bind (W.item i s _ _ hlt hst fun v s' hP hst' hm=>?_)
  obtain ⟨k1,k2⟩:=hval i v _ hP hget
  have hS':=kept hm hS
  show wpAny _ A.in1 (holding [v] (setAdd S v) >>= _) _ _ s'
  refine wpAny_bind (wpAny_holding ?_)
  unfold setAdd
  refine wpAny_holding (wpAny_bind (knd.pyHash k1 ?_))
  have room:(cE (all.take i)).length + 1 < scanBound:=by
   have h1:=zi (all.take i)
   rw [List.length_take] at h1
   omega
  refine wpAny_setAddHashed_of (knd:=knd) (s:={ s' with toks:=s'.toks + 1 }) k1 k2 hS' room fun h' hsb hS2=>?_
  have et:all.take (i + 1)=all.take i ++ [all[i]]:=by rw [List.take_add_one,hget]; rfl
  have hSi:h'.SetOf knd S (fun x=>decide (x∈cE (all.take (i + 1)))) (cE (all.take (i + 1))).length:=by
   refine PyProof.Rows.SetOf_congr hS2 (fun x=>?_) ?_
   ·rw [et]
    by_cases hm1:all[i]∈cE (all.take i)
    ·rw [jU,if_pos hm1]
     by_cases hx:x=all[i]
     ·subst hx; simp [hm1]
     ·simp [hx]
    ·rw [jU,if_neg hm1]
     by_cases hx:x=all[i]
     ·subst hx; simp
     ·simp [hx]
   ·rw [et,jU]
    by_cases hm1:all[i]∈cE (all.take i)
    ·rw [if_pos hm1]; simp [hm1]
    ·rw [if_neg hm1]; simp [hm1]
  refine wpAny_pure ⟨plainId_quiet PyProof.Rows.F.plain_set_update_loop _,ih (i + 1) _ (by omega) hlt (W.frame _ s' _ _ hst' (Nat.le_succ _) fun b hb o e=>?_) hSi fun s'' hm'' hS''=>?_⟩
  ·rw [hsb.2 b (fun z:b=S=>hSf (z ▸ hb))]; exact e
  ·refine hR s'' (Moved.trans W.gtrans ((hm.mono up).then_heap (Nat.le_succ _) fun b o hb e=>?_) hm'') hS''
   rw [hsb.2 b (fun z:b=S=>hb (by rw [z]; exact List.mem_cons_self))]; exact e
end
theorem oG:isSubtype (.type "list") (.type "set")=pure false:=by rw [isSubtype_type]; kernel_rfl
theorem kO:isSubtype (.type "list") (.type "frozenset")=pure false:=by rw [isSubtype_type]; kernel_rfl
section
variable {prog:Program} {w:World} {A:Around} {E:Value→Shared→Prop} {κ:Type} [DecidableEq κ] [BEq κ] [LawfulBEq κ] {knd:PySem.KeyKind prog w κ} {s:Shared}
set_option maxHeartbeats 4000000 in
theorem nu {l:Addr} {items:Array Value} {all:List κ} {Q:Value→Shared→Prop} (hh:A.handled=none) (hl:s.heap.IsList l items) (hn:items.size=all.length) (hi:∀ (i:Nat) (v:Value) (k:κ),items[i]?=some v→all[i]?=some k→knd.is k v=true∧v.scannable=true) (hb:all.length + 1 < scanBound)
  (h:∀ (h':Heap) (tk:Nat),h'.SetOf knd s.heap.objs.size (fun x=>decide (x∈cE all)) (cE all).length→(∀ b o,s.heap.get? b=some o→h'.get? b=some o)→Q (.ref s.heap.objs.size) { s with heap:=h',toks:=tk }) :
  wpAny (model prog w) A (call (.type "set") [.ref l]) Q E s:=by
 obtain ⟨c,tl,hmro⟩:=F.called_set.mro
 have hmade:=F.called_set.made
 have hsub:=F.called_set.sub
 refine wpAny_call (codeAny_of_tree ?_)
 show wpAny _ _ (callAny (.type "set") _) _ _ _
 refine wpAny_pure ⟨Code.quiet_builtin _ (by decide +kernel),codeAny_builtin F.entry_type_call ?_⟩
 rw [Around.under_plain (weight_type_call_type "set" [.ref l] []) rfl]
 have h1:=F.called_set.notType
 have h2:=F.called_set.canCreate
 have hct:=F.typeCall_set_1 (.ref l)
 repeat (any_goals (first | assumption | wp_step))
 have fresh:∀ led:Bool,(s.heap.push { cls:=.type "set",dict:=none,data:=.set #[] 0 (.fresh 0 0 led) }).get? s.heap.objs.size=some { cls:=.type "set",dict:=none,data:=.set #[] 0 (.fresh 0 0 led) }:=fun led=>Heap.get?_push_size _ rfl
 refine codeAny_mono (code_set_new_1 (.ref l) (E:=E) (Q₁:=fun obj s₁=>∃ led:Bool,obj=Value.ref s.heap.objs.size∧s₁={ s with heap:=s.heap.push { cls:=.type "set",dict:=none,data:=.set #[] 0 (.fresh 0 0 led) } }) fun led=>⟨led,rfl,rfl⟩) fun r s₁ hr=>?_
 cases r with
 | error e=>exact hr
 | ok fl =>
  cases fl with
  | ret obj =>
   obtain ⟨led,rfl,rfl⟩:=hr
   have hS:=fresh led
   have hT:Shared.TypeIs { s with heap:=s.heap.push { cls:=.type "set",dict:=none,data:=.set #[] 0 (.fresh 0 0 led) } } (.ref s.heap.objs.size) "set":=⟨_,hS,rfl⟩
   have hli:=F.called_set.init.lookup
   have hbi:=F.called_set.init.bind (.ref s.heap.objs.size)
   repeat (any_goals (first | assumption | wp_step))
   refine codeAny_mono (codeAny_call_builtin (R:=wants (fun r s₂=>r=.none∧∃ h' tk,s₂={ s with heap:=h',toks:=tk }∧h'.SetOf knd s.heap.objs.size (fun x=>decide (x∈cE all)) (cE all).length∧(∀ b o,s.heap.get? b=some o→h'.get? b=some o)) E) F.called_set.init.plain F.entry_set_init (check_set_init_1 hT ?_)) fun r₂ s₂ hr₂=>?_
   ·obtain ⟨ol,hol,hcl,nl,hdl⟩:=hl
    obtain ⟨ocls,odict,odata,oslots⟩:=ol
    simp only at hcl hdl
    subst hcl; subst hdl
    have hol':(s.heap.push { cls:=.type "set",dict:=none,data:=.set #[] 0 (.fresh 0 0 led) }).get? l=some { cls:=.type "list",dict:=odict,data:=.seq items nl,slots:=oslots }:=Heap.get?_push_of_some _ hol
    have hsls:=oG
    have hslf:=kO
    have hnd:(Value.type "list" == Value.type "dict")=false:=by decide
    have hl1:(s.heap.push { cls:=.type "set",dict:=none,data:=.set #[] 0 (.fresh 0 0 led) }).IsList l items:=⟨_,hol',rfl,nl,rfl⟩
    unfold Builtin.«set.__init__» noKeywords Builtin.Frozenset.updateFrom
    generalize hPI:pyIter=PI
    wp_walk
    subst hPI
    refine wpAny_pyIter_list hl1 ?_
    refine wpAny_bind (wpAny_runValue ?_)
    have lS:l < s.heap.objs.size:=Heap.lt_size hol
    have hh3:A.in1.in1.in1.handled=none:=by simp [hh]
    have lI:l ≠ (s.heap.push { cls:=.type "set",dict:=none,data:=.set #[] 0 (.fresh 0 0 led) }).objs.size:=by
     rw [Heap.size_push]; exact Nat.ne_of_lt (Nat.lt_succ_of_lt lS)
    have W:=(Walks.list (prog:=prog) (w:=w) hh3 _ l lI items).toS
    rw [hn] at W
    refine rj W s.heap.objs.size ?hf (fun i v k e1 e2=>hi i v k e1 e2) hb all.length 0 _ (by omega) (Nat.zero_le _) ⟨⟨_,Heap.get?_push_size _ rfl,rfl,rfl⟩,(hl1.push _)⟩ ?h0 ?hR
    case hf =>
     rw [Heap.size_push]; simp only [List.mem_cons,List.not_mem_nil,or_false,not_or]
     exact ⟨Nat.ne_of_lt (Nat.lt_succ_self _),Nat.ne_of_gt lS⟩
    case h0=>exact PyProof.Rows.SetOf_congr ((PyProof.Rows.setObjOf_fresh (knd:=knd) led).setOf (Heap.get?_push_of_some _ hS) (by unfold scanBound; omega)) (fun _=>rfl) rfl
    case hR =>
     intro s' hm hS'
     obtain ⟨h',g',d',tk',os'⟩:=s'
     have eg:g'=s.gens:=hm.gens
     have ed:d'=s.drawn:=hm.drawn
     have eo:os'=s.os:=hm.os
     subst eg; subst ed; subst eo
     refine wpAny_pure ?_
     show wpAny _ _ (ret Value.none) _ _ _
     refine wpAny_pure ⟨rfl,h',tk',rfl,hS',fun b o e=>?_⟩
     have hb:=Heap.lt_size e
     refine hm.heap b o ?_ (Heap.get?_push_of_some _ (Heap.get?_push_of_some _ e))
     rw [Heap.size_push]
     simp only [List.mem_cons,List.not_mem_nil,or_false,not_or]
     exact ⟨Nat.ne_of_lt hb,Nat.ne_of_lt (Nat.lt_succ_of_lt hb)⟩
   ·cases r₂ with
    | error e=>exact hr₂
    | ok fl₂ =>
     cases fl₂ with
     | ret r =>
      obtain ⟨rfl,h',tk,rfl,hS',hk'⟩:=hr₂
      repeat (any_goals (first | assumption | wp_step))
      exact h _ _ hS' hk'
     | _=>exact hr₂.elim
  | _=>exact hr.elim
end
theorem nE:isSubtype (.type "tuple") (.type "set")=pure false:=by rw [isSubtype_type]; kernel_rfl
theorem jJ:isSubtype (.type "tuple") (.type "frozenset")=pure false:=by rw [isSubtype_type]; kernel_rfl
section
variable {prog:Program} {w:World} {A:Around} {E:Value→Shared→Prop} {κ:Type} [DecidableEq κ] [BEq κ] [LawfulBEq κ] {knd:PySem.KeyKind prog w κ} {s:Shared}
set_option maxHeartbeats 4000000 in
theorem mi {l:Addr} {items:Array Value} {all:List κ} {Q:Value→Shared→Prop} (hh:A.handled=none) (hl:s.heap.IsTuple l items) (hn:items.size=all.length) (hi:∀ (i:Nat) (v:Value) (k:κ),items[i]?=some v→all[i]?=some k→knd.is k v=true∧v.scannable=true) (hb:all.length + 1 < scanBound)
  (h:∀ (h':Heap) (tk:Nat),h'.SetOf knd s.heap.objs.size (fun x=>decide (x∈cE all)) (cE all).length→(∀ b o,s.heap.get? b=some o→h'.get? b=some o)→Q (.ref s.heap.objs.size) { s with heap:=h',toks:=tk }) :
  wpAny (model prog w) A (call (.type "set") [.ref l]) Q E s:=by
 obtain ⟨c,tl,hmro⟩:=F.called_set.mro
 have hmade:=F.called_set.made
 have hsub:=F.called_set.sub
 refine wpAny_call (codeAny_of_tree ?_)
 show wpAny _ _ (callAny (.type "set") _) _ _ _
 refine wpAny_pure ⟨Code.quiet_builtin _ (by decide +kernel),codeAny_builtin F.entry_type_call ?_⟩
 rw [Around.under_plain (weight_type_call_type "set" [.ref l] []) rfl]
 have h1:=F.called_set.notType
 have h2:=F.called_set.canCreate
 have hct:=F.typeCall_set_1 (.ref l)
 repeat (any_goals (first | assumption | wp_step))
 have fresh:∀ led:Bool,(s.heap.push { cls:=.type "set",dict:=none,data:=.set #[] 0 (.fresh 0 0 led) }).get? s.heap.objs.size=some { cls:=.type "set",dict:=none,data:=.set #[] 0 (.fresh 0 0 led) }:=fun led=>Heap.get?_push_size _ rfl
 refine codeAny_mono (code_set_new_1 (.ref l) (E:=E) (Q₁:=fun obj s₁=>∃ led:Bool,obj=Value.ref s.heap.objs.size∧s₁={ s with heap:=s.heap.push { cls:=.type "set",dict:=none,data:=.set #[] 0 (.fresh 0 0 led) } }) fun led=>⟨led,rfl,rfl⟩) fun r s₁ hr=>?_
 cases r with
 | error e=>exact hr
 | ok fl =>
  cases fl with
  | ret obj =>
   obtain ⟨led,rfl,rfl⟩:=hr
   have hS:=fresh led
   have hT:Shared.TypeIs { s with heap:=s.heap.push { cls:=.type "set",dict:=none,data:=.set #[] 0 (.fresh 0 0 led) } } (.ref s.heap.objs.size) "set":=⟨_,hS,rfl⟩
   have hli:=F.called_set.init.lookup
   have hbi:=F.called_set.init.bind (.ref s.heap.objs.size)
   repeat (any_goals (first | assumption | wp_step))
   refine codeAny_mono (codeAny_call_builtin (R:=wants (fun r s₂=>r=.none∧∃ h' tk,s₂={ s with heap:=h',toks:=tk }∧h'.SetOf knd s.heap.objs.size (fun x=>decide (x∈cE all)) (cE all).length∧(∀ b o,s.heap.get? b=some o→h'.get? b=some o)) E) F.called_set.init.plain F.entry_set_init (check_set_init_1 hT ?_)) fun r₂ s₂ hr₂=>?_
   ·obtain ⟨ol,hol,hcl,nl,hdl⟩:=hl
    obtain ⟨ocls,odict,odata,oslots⟩:=ol
    simp only at hcl hdl
    subst hcl; subst hdl
    have hol':(s.heap.push { cls:=.type "set",dict:=none,data:=.set #[] 0 (.fresh 0 0 led) }).get? l=some { cls:=.type "tuple",dict:=odict,data:=.seq items nl,slots:=oslots }:=Heap.get?_push_of_some _ hol
    have hsls:=nE
    have hslf:=jJ
    have hnd:(Value.type "tuple" == Value.type "dict")=false:=by decide
    have hl1:(s.heap.push { cls:=.type "set",dict:=none,data:=.set #[] 0 (.fresh 0 0 led) }).IsTuple l items:=⟨_,hol',rfl,nl,rfl⟩
    unfold Builtin.«set.__init__» noKeywords Builtin.Frozenset.updateFrom
    generalize hPI:pyIter=PI
    wp_walk
    subst hPI
    refine wpAny_pyIter_tuple hl1 ?_
    refine wpAny_bind (wpAny_runValue ?_)
    have lS:l < s.heap.objs.size:=Heap.lt_size hol
    have hh3:A.in1.in1.in1.handled=none:=by simp [hh]
    have lI:l ≠ (s.heap.push { cls:=.type "set",dict:=none,data:=.set #[] 0 (.fresh 0 0 led) }).objs.size:=by
     rw [Heap.size_push]; exact Nat.ne_of_lt (Nat.lt_succ_of_lt lS)
    have W:=(Walks.tuple (prog:=prog) (w:=w) hh3 _ l lI items).toS
    rw [hn] at W
    refine rj W s.heap.objs.size ?hf (fun i v k e1 e2=>hi i v k e1 e2) hb all.length 0 _ (by omega) (Nat.zero_le _) ⟨⟨_,Heap.get?_push_size _ rfl,rfl,rfl⟩,(hl1.push _)⟩ ?h0 ?hR
    case hf =>
     rw [Heap.size_push]; simp only [List.mem_cons,List.not_mem_nil,or_false,not_or]
     exact ⟨Nat.ne_of_lt (Nat.lt_succ_self _),Nat.ne_of_gt lS⟩
    case h0=>exact PyProof.Rows.SetOf_congr ((PyProof.Rows.setObjOf_fresh (knd:=knd) led).setOf (Heap.get?_push_of_some _ hS) (by unfold scanBound; omega)) (fun _=>rfl) rfl
    case hR =>
     intro s' hm hS'
     obtain ⟨h',g',d',tk',os'⟩:=s'
     have eg:g'=s.gens:=hm.gens
     have ed:d'=s.drawn:=hm.drawn
     have eo:os'=s.os:=hm.os
     subst eg; subst ed; subst eo
     refine wpAny_pure ?_
     show wpAny _ _ (ret Value.none) _ _ _
     refine wpAny_pure ⟨rfl,h',tk',rfl,hS',fun b o e=>?_⟩
     have hb:=Heap.lt_size e
     refine hm.heap b o ?_ (Heap.get?_push_of_some _ (Heap.get?_push_of_some _ e))
     rw [Heap.size_push]
     simp only [List.mem_cons,List.not_mem_nil,or_false,not_or]
     exact ⟨Nat.ne_of_lt hb,Nat.ne_of_lt (Nat.lt_succ_of_lt hb)⟩
   ·cases r₂ with
    | error e=>exact hr₂
    | ok fl₂ =>
     cases fl₂ with
     | ret r =>
      obtain ⟨rfl,h',tk,rfl,hS',hk'⟩:=hr₂
      repeat (any_goals (first | assumption | wp_step))
      exact h _ _ hS' hk'
     | _=>exact hr₂.elim
  | _=>exact hr.elim
end
end L2
namespace HT
open PySem PyProof.Rows
section
variable {prog:Program} {w:World} {A:Around} {E:Value→Shared→Prop} {s:Shared}
theorem jG {t sl:Addr} {items:Array Value} {vl vu:Value} {lo hi:Option Int} {Q:Value→Shared→Prop} (ht:IsTup s.heap t items) (hs:s.heap.IsSliceOf sl vl vu .none) (pl:IsPart vl lo) (pu:IsPart vu hi)
  (hw:sIx items.size 0 lo=0∧sIx items.size items.size hi=items.size) (h:Q (.ref t) s):wpAny (model prog w) A (getItem (.ref t) (.ref sl)) Q E s:=by
 obtain ⟨os,hos,hcs,hds⟩:=id hs
 have hTs:s.TypeIs (.ref sl) "slice":=⟨os,hos,hcs⟩
 unfold getItem
 try with_reducible refine wpAny_holding ?_
 first | refine wpAny_bind (wpAny_pure ?_) | skip
 refine wpAny_bind (wpAny_sequenceKey ht.typeIs (by decide) ?_)
 refine wpAny_bind (wpAny_callSpecial?_slot (name:=Str.ofString "__getitem__") ht.typeIs PyProof.Rows.slot_tuple_getitem (wpAny_call_entry PyProof.Rows.slot_tuple_getitem ht.typeIs entry_tuple_getitem ?_ (args_tuple_getitem _ _)))
 show wpAny _ _ (Builtin.Tuple.tupleItemsOf (.ref t) >>= _) _ _ s
 refine wpAny_bind (tupleItemsOf_ ht ?_)
 refine wpAny_bind (wpAny_typeOf hTs ?_)
 rw [if_pos (by decide)]
 refine wpAny_bind (fF hs pl pu ?_)
 have yes:(((sIx items.size 0 lo:Nat):Int) == 0 && (1:Int) == 1 && (sIx items.size items.size hi - sIx items.size 0 lo) == items.size)=true:=by
  rw [hw.1,hw.2]
  simp
 show wpAny _ _ (if (((sIx items.size 0 lo:Nat):Int) == 0 && (1:Int) == 1 && (sIx items.size items.size hi - sIx items.size 0 lo) == items.size)=true then _ else _) _ _ s
 rw [if_pos yes]
 have hT:=ht.typeIs
 obtain ⟨hp,g,d,tk,o⟩:=s
 repeat (any_goals (first | assumption | wp_step))
 exact ⟨_,rfl,wpAny_pure h⟩
end
end HT
namespace L2
open PySem PySem.Spec PyProof.Rows
section
variable {X:Cx} {p p2 pos pos2:Pos} {e:Expr} {te:TE}
def Do (K:PySem.W.Frag):V→Option Int→Option Int→Hp→VK→Prop:=fun x lo hi H Q=>∃ a xs,x=.ref a∧SqT K H a xs∧(HT.sIx xs.length 0 lo=0∧HT.sIx xs.length xs.length hi=xs.length)∧Q (.ref a) H
theorem AF:SlR X (Do X.K):=by
 intro pins s σ H x v vl vu lo hi sl Q I rx hs pl pu h
 obtain ⟨a,xs,rfl,hx,hw,q⟩:=h
 cases rx
 obtain ⟨its,r,ht,hz⟩:=I.tuple hx
 have hlen:its.toArray.size=xs.length:=by rw [List.size_toArray]; exact r.length.symm
 exact ⟨"tuple",_,PyProof.Rows.slot_tuple_getitem.lookup,ht.typeIs,HT.jG ht hs pl pu (by rw [hlen]; exact hw) ⟨.ref a,H,I,rfl,q⟩⟩
local instance (priority:=5000) keyBEq:BEq Key:=instBEqOfDecidableEq
local instance (priority:=5000) keyLaw:LawfulBEq Key:=inferInstanceAs (LawfulBEq (Sum Int Str))
def zK (K:PySem.W.Frag) (te:TE):TE:=fun σ H Q=>te σ H fun x H1=>∃ a,∃ ss:List Str,x=.ref a∧(SqL K H1 a (ss.map V.str)∨SqT K H1 a (ss.map V.str))∧ss.length + 1 < scanBound∧Q (.int (cE ss).length) H1
theorem qc {P:Program} {w:World} {ss:List Str} {us:List Value} (r:aU (ss.map V.str) us):us.length=ss.length∧∀ (i:Nat) (v:Value) (k:Key),us[i]?=some v→(ss.map fun x=>(Sum.inr x:Key))[i]?=some k→(bu P w).is k v=true∧v.scannable=true:=by
 refine ⟨by rw [← r.length,List.length_map],fun i v k e1 e2=>?_⟩
 rw [List.getElem?_map] at e2
 cases q:ss[i]? with
 | none=>rw [q] at e2; cases e2
 | some x =>
  rw [q] at e2
  cases e2
  obtain ⟨u,e3,t,rfl⟩:=r.get (i:=i) (x:=V.str x) (by rw [List.getElem?_map,q]; rfl)
  rw [e3] at e1
  cases e1
  exact ⟨j3 P w x t,rfl⟩
theorem wq {ss:List Str}:(cE (ss.map fun x=>(Sum.inr x:Key))).length=(cE ss).length:=by
 have go:∀ (l acc:List Str),(l.map fun x=>(Sum.inr x:Key)).foldl (fun acc k=>if k∈acc then acc else acc ++ [k]) (acc.map Sum.inr)=(l.foldl (fun acc k=>if k∈acc then acc else acc ++ [k]) acc).map Sum.inr:=by
  intro l
  induction l with
  | nil=>intro acc; rfl
  | cons k r ih =>
   intro acc
   rw [List.map_cons,List.foldl_cons,List.foldl_cons]
   have hm:(Sum.inr k:Key)∈acc.map Sum.inr ↔ k∈acc:=by
    rw [List.mem_map]
    constructor
    ·rintro ⟨y,h1,h2⟩; cases h2; exact h1
    ·exact fun h=>⟨k,h,rfl⟩
   by_cases h:k∈acc
   ·rw [if_pos h,if_pos (hm.mpr h)]; exact ih acc
   ·rw [if_neg h,if_neg fun z=>h (hm.mp z)]
    have:=ih (acc ++ [k])
    rw [List.map_append] at this
    exact this
 have:=go ss []
 unfold cE
 rw [List.map_nil] at this
 rw [this,List.length_map]
theorem uo (hc:X.calm=true) (he:PE X e te) (hg1:Gl X "len") (hm1:X.mg "len"=none) (hg2:Gl X "set") (hm2:X.mg "set"=none) (b1:bootBuiltins "len"=some (.builtin "len")) (b2:bootBuiltins "set"=some (.type "set"))
  (hs:starEach [e] X.env=[(false,eval e X.env)]:=by rfl):PE X (.Call (.Name "len" p) [.Call (.Name "set" p2) [e] [] pos2] [] pos) (zK X.K te):=by
 intro pins s σ H Q I h
 refine wpAny_Call_Name_kw (gO I hg1 hm1 b1 ?_)
 refine PyProof.Rows.callWith_builtin1 ?_ rfl rfl
 show wpAny _ _ (spliced ((false,eval (.Call (.Name "set" p2) [e] [] pos2) X.env) :: backTo pos (starEach [] X.env))) _ _ s
 refine Calls.spliced_cons ?_
 refine wpAny_Call_Name_kw (gO I hg2 hm2 b2 ?_)
 refine PyProof.Rows.callWith_type1 ?_ hs rfl
 rw [hs]
 show wpAny _ _ (spliced ((false,eval e X.env) :: backTo pos2 (starEach [] X.env))) _ _ s
 refine Calls.spliced_cons (thn (he pins s σ H _ I h) fun u s1 ⟨x,H1,I1,r1,a,ss,ex,hq,hb,q⟩=>Calls.spliced_nil ?_)
 subst ex
 obtain rfl:u=Value.ref a:=r1
 have hb':(ss.map fun x=>(Sum.inr x:Key)).length + 1 < scanBound:=by rw [List.length_map]; exact hb
 have fin:∀ (h':Heap) (tk:Nat),h'.SetOf (bu X.prog X.w) s1.heap.objs.size (fun x=>decide (x∈cE (ss.map fun x=>(Sum.inr x:Key)))) (cE (ss.map fun x=>(Sum.inr x:Key))).length→(∀ b o,s1.heap.get? b=some o→h'.get? b=some o) →
   wpAny (model X.prog X.w) X.A (spliced (backTo pos (starEach [] X.env))) (fun vs s₁=>wpAny (model X.prog X.w) X.A (call (.builtin "len") (.ref s1.heap.objs.size :: vs)) (EP X pins σ Q) X.xe s₁) X.xe { s1 with heap:=h',toks:=tk }:=fun h' tk hS keep=>by
  refine Calls.spliced_nil ?_
  obtain ⟨o,es,ep,t,ho,hex,hd,_,_,hz,hf,hn⟩:=hS
  have hlt:(es.size:Int) < 2 ^ 63:=by
   have:scanBound=4096:=rfl
   omega
  refine call_len_set ho hex hd hf hlt ?_
  refine ⟨.int es.size,H1,I1.kept keep,⟨_,rfl⟩,?_⟩
  rw [hn,wq]
  exact q
 rcases hq with hq | hq
 ·obtain ⟨its,r,pl,hz⟩:=I1.list hq
  obtain ⟨k1,k2⟩:=qc (P:=X.prog) (w:=X.w) r
  exact L2.nu (knd:=bu X.prog X.w) (all:=ss.map fun x=>(Sum.inr x:Key)) (I1.ok.hd hc) pl.isList (by rw [List.size_toArray,k1,List.length_map]) (fun i v k e1 e2=>k2 i v k (by simpa using e1) e2) hb' fin
 ·obtain ⟨its,r,pl,hz⟩:=I1.tuple hq
  obtain ⟨k1,k2⟩:=qc (P:=X.prog) (w:=X.w) r
  exact L2.mi (knd:=bu X.prog X.w) (all:=ss.map fun x=>(Sum.inr x:Key)) (I1.ok.hd hc) pl (by rw [List.size_toArray,k1,List.length_map]) (fun i v k e1 e2=>k2 i v k (by simpa using e1) e2) hb' fin
end
section
variable {X:Cx} {pins:List (Addr × Obj)} {σ:St} {H:Hp} {s:Shared}
theorem nV (I:Inv X pins σ H s):∀ (ts:List Addr) (kvs:List (Key × V)),ts.length=kvs.length→(∀ (j:Nat) (t:Addr) (p:Key × V),ts[j]?=some t→kvs[j]?=some p→SqT X.K H t [kV p.1,p.2]) →
  ∃ (us:List Value) (all:List (Key × Value)),us.length=kvs.length∧KV kvs all∧∀ (j:Nat) (t:Addr) (p:Key × Value),ts[j]?=some t→all[j]?=some p→∃ u,us[j]?=some u∧s.heap.IsTuple t #[u,p.2]∧(bu X.prog X.w).is p.1 u=true
 | [],[],_,_=>⟨[],[],rfl,.nil,fun j t p e=>by simp at e⟩
 | [],_ :: _,h,_=>by simp at h
 | _ :: _,[],h,_=>by simp at h
 | t :: ts,(k,v) :: kvs,h,hq=>by
  obtain ⟨us,all,h1,h2,h3⟩:=nV I ts kvs (by simpa using h) (fun j t p e1 e2=>hq (j + 1) t p (by simpa using e1) (by simpa using e2))
  obtain ⟨its,r,pl,_⟩:=I.tuple (hq 0 t (k,v) (by simp) (by simp))
  cases r with
  | cons r1 r2 =>
   cases r2 with
   | cons r3 r4 =>
    cases r4
    rename_i u w
    refine ⟨u :: us,(k,w) :: all,by simpa using h1,.cons ⟨rfl,r3⟩ h2,fun j t' p e1 e2=>?_⟩
    cases j with
    | zero =>
     have e1':t=t':=by simpa using e1
     have e2':(k,w)=p:=by simpa using e2
     subst e1' e2'
     exact ⟨u,by simp,pl,og r1⟩
    | succ j=>simpa using h3 j t' p (by simpa using e1) (by simpa using e2)
end
section
variable {X:Cx}
theorem wE:∀ {kvs:List (Key × V)} {all:List (Key × Value)},KV kvs all→all.map (·.1)=kvs.map (·.1)
 | _,_,.nil=>rfl
 | _,_,.cons r rs=>by rw [List.map_cons,List.map_cons,wE rs,r.1]
theorem sL (hc:X.calm=true):jh X (.type "dict") (fun xs H Q=>∃ l,∃ ts:List Addr,∃ kvs:List (Key × V),xs=[V.ref l]∧SqL X.K H l (ts.map V.ref)∧ts.length=kvs.length ∧
  (∀ (j:Nat) (t:Addr) (p:Key × V),ts[j]?=some t→kvs[j]?=some p→SqT X.K H t [kV p.1,p.2])∧(kvs.map (·.1)).Nodup∧∀ d,H d=none→Q (.ref d) (upd H d (.dK kvs))):=by
 intro pins s σ H xs us Q I r h
 obtain ⟨l,ts,kvs,rfl,hl,hlen,hq,hnd,q⟩:=h
 obtain ⟨u,rfl,ru⟩:=iA r
 cases ru
 obtain ⟨its,rv,⟨⟨c1,d1,t1,sl1⟩,n,g1,e1,e2,e3⟩,hz⟩:=I.list hl
 simp only at e1 e2 e3
 subst e1 e2 e3
 obtain ⟨ks,all,h1,h2,h3⟩:=nV I ts kvs hlen hq
 have la:all.length=kvs.length:=(Paired.length h2).symm
 have li:its.length=kvs.length:=by rw [← rv.length,List.length_map,hlen]
 have zl:all.length≤sizeLine:=by rw [la,← hlen]; simpa using hz
 have at_:∀ (j:Nat) (p:Key × Value),all[j]?=some p→∃ t,ts[j]?=some t:=fun j p e=>by
  have:=(List.getElem?_eq_some_iff.mp e).1
  exact ⟨ts[j],List.getElem?_eq_getElem (by omega)⟩
 refine kG (knd:=bu X.prog X.w) (all:=all) (fun j=>(ks[j]?).getD .none) (fun j=>(ts[j]?).getD 0) (I.ok.hd hc) g1 (fun j v e=>?_) (by rw [List.size_toArray,li,la]) (fun j p e=>?_) (fun j p e=>?_) zl fun h' tk hD keep=>?_
 ·have e':its[j]?=some v:=by simpa using e
  have hj:=(List.getElem?_eq_some_iff.mp e').1
  have hj2:j < ts.length:=by omega
  obtain ⟨w,e4,e5⟩:=rv.get (i:=j) (x:=V.ref ts[j]) (by rw [List.getElem?_map,List.getElem?_eq_getElem hj2]; rfl)
  rw [e'] at e4
  cases e4
  show v=Value.ref ((ts[j]?).getD 0)
  rw [List.getElem?_eq_getElem hj2]
  exact e5
 ·obtain ⟨t,et⟩:=at_ j p e
  obtain ⟨u,e4,e5,_⟩:=h3 j t p et e
  show s.heap.IsTuple ((ts[j]?).getD 0) #[(ks[j]?).getD .none,p.2]
  rw [et,e4]
  exact e5
 ·obtain ⟨t,et⟩:=at_ j p e
  obtain ⟨u,e4,_,e6⟩:=h3 j t p et e
  show (bu X.prog X.w).is p.1 ((ks[j]?).getD .none)=true
  rw [e4]
  exact e6
 ·rw [merged_nil_of_nodup all (by rw [wE h2]; exact hnd)] at hD
  have fr:=I.hok.fresh (Nat.le_refl s.heap.objs.size)
  exact ⟨.ref s.heap.objs.size,_,I.laid (t':=tk) (o:=.dK kvs) keep (Nat.le_refl _) (vz (by rw [← la]; exact zl) (beq_eq_false_iff_ne.mpr (Ne.symm (Nat.ne_of_lt I.big))) h2 hD),rfl,q _ fr⟩
def DA:R2:=fun x y H Q=>∃ a v,x=.ref a∧kK H a y (some v)∧Q v H
theorem zC (hu:X.A.units + 1 < cLine):IxR X DA:=by
 intro value slice pins s σ H x y o i Q I rx ry h hs
 obtain ⟨a,v,rfl,g,q⟩:=h
 obtain rfl:o=Value.ref a:=rx
 have hT:=p9 I g
 have h2:wpAny (model X.prog X.w) X.A (getItem (.ref a) i) (EP X pins σ Q) X.xe s:=uG hu I g ry fun w' s3 I3 rw'=>⟨v,H,I3,rw',q⟩
 unfold subscriptTail
 refine wpAny_bind ?_
 rw [getitemInPython_of_ne hT.not_modules]
 refine wpAny_bind (wpAny_specialOf hT PySem.F.slot_dict_getitem.lookup ?_)
 have fin:wpAny (model X.prog X.w) X.A (subscripted slice false (.ref a) i) (fun r s₃=>wpAny (model X.prog X.w) X.A (letTemporaryGo value (.ref a) r >>= fun _=>pure r) (EP X pins σ Q) X.xe s₃) X.xe s:=by
  rw [hs]
  exact wpAny_operating (wpAny_mono h2 (fun r s₃ h₃=>wpAny_bind (wpAny_letTemporaryGo (wpAny_pure h₃))) fun _ _ x=>x)
 first
  | exact wpAny_pure (wpAny_bind fin)
  | exact wpAny_bind (wpAny_pure (wpAny_bind fin))
  | exact wpAny_bind fin
theorem Bi (hu:X.A.units + 1 < cLine):OpR X (compareOp .In) (fun x y H Q=>∃ a o,y=.ref a∧kK H a x o∧Q (.bl o.isSome) H):=by
 intro pins s σ H x y v u Q I rx ry h
 obtain ⟨a,o,rfl,g,q⟩:=h
 obtain rfl:u=Value.ref a:=ry
 exact Dn hu I g rx fun s3 I3=>⟨.bl o.isSome,H,I3,rfl,q⟩
theorem uQ (hu:X.A.units + 1 < cLine):OpR X (compareOp .NotIn) (fun x y H Q=>∃ a o,y=.ref a∧kK H a x o∧Q (.bl (!o.isSome)) H):=by
 intro pins s σ H x y v u Q I rx ry h
 obtain ⟨a,o,rfl,g,q⟩:=h
 obtain rfl:u=Value.ref a:=ry
 exact zV hu I g rx fun s3 I3=>⟨.bl (!o.isSome),H,I3,rfl,q⟩
end
end L2
namespace L2
open PySem PySem.Spec PyProof.Rows
section
variable {prog:Program} {w:World} {A:Around} {E:Value→Shared→Prop} {s:Shared} {a:Addr} {δ:Type} {R:δ→Value→Prop} {D:List (Str × δ)} {k:Str} {tk:Tok}
end
section
variable {X:Cx} {x:Str} {F:List (Str × List Str)}
theorem zJ {K:PySem.W.Frag} {t:Addr} {xs:List V} {H:Hp} (h:SqT K (fun _=>none) t xs):SqT K H t xs:=by
 rcases h with (h | ⟨o,h⟩) | h
 ·cases h
 ·cases h
 ·exact .inr h
end
def Itc (x:Str):It:=⟨fun i _=>i < x.cps.size,fun i H v H'=>H'=H∧∃ c,x.cps[i]?=some c∧v=.str ⟨#[c]⟩,fun i _=>i=x.cps.size⟩
theorem qx {P:Program} {w:World} {K:PySem.W.Frag} {tg:Expr} {ty:String} {x:Str} {t:Tok} (it:Addr) (W:∀ A':Around,A'.handled=none→Walks P w A' it [it] [it] x.cps.size (SignAt x) (fun i h=>h.IsStrIter it ty x t i))
  (hself:∀ (A:Around) (i:Nat) (s:Shared) (Q:Value→Shared→Prop) (E:Value→Shared→Prop),s.heap.IsStrIter it ty x t i→Q (.ref it) s→wpAny (model P w) A (pyIter (.ref it)) Q E s)
  (hn:["enumerate","zip","dict_itemiterator","dict_reverseitemiterator","odict_iterator","itertools.zip_longest","itertools.pairwise"].contains ty=false):rE P w K tg (Itc x) [it] it (fun i h=>h.IsStrIter it ty x t i) where
 mem:=by simp
 obj:=fun i h st b hb=>by
  obtain rfl:b=it:=by simpa using hb
  obtain ⟨o,e,c,d⟩:=st
  exact ⟨o,e,fun v z=>by rw [d] at z; cases z⟩
 keep:=fun i h h' st k=>by
  obtain ⟨o,e,r⟩:=st
  exact ⟨o,k it (by simp) o e,r⟩
 item:=by
  intro X hP hw hK hc i pins s σ H E I hf st hg
  subst hP hw hK
  obtain ⟨f0,f1,f2,f3,f4,f5⟩:=hf it (by simp)
  refine (W X.A (I.ok.hd hc)).item i s _ _ hg st fun v h' tk hv st' kp=>?_
  obtain ⟨c,u,e1,e2⟩:=hv
  have I1:Inv X pins σ H { s with heap:=h',toks:=tk }:=I.turned (t':=tk) (fun b o hb e=>kp b o (by simpa using hb) e) f0 f1 f3 f4 f5
  obtain ⟨o,e,cl,d⟩:=id st'
  exact ⟨v,rfl,ua (s:={ s with heap:=h',toks:=tk }) e cl d hn ⟨.str ⟨#[c]⟩,H,I1,⟨u,e2⟩,⟨rfl,c,e1,rfl⟩,st',fun b hb=>(hf b hb).1⟩⟩
 done:=by
  intro X hP hw hK hc i pins s σ H E I hf st hg
  subst hP hw hK
  obtain ⟨f0,f1,f2,f3,f4,f5⟩:=hf it (by simp)
  obtain rfl:i=x.cps.size:=hg
  exact (W X.A (I.ok.hd hc)).done s _ _ st fun h' tk kp=>⟨rfl,I.turned (t':=tk) (fun b o hb e=>kp b o (by simpa using hb) e) f0 f1 f3 f4 f5⟩
 self:=hself
section
variable {X:Cx} {tg:Expr}
theorem yQ {l:Expr} {tl:TE} (hc:X.calm=true) (hl:PE X l tl):PI X tg l (fun σ H R=>tl σ H fun x H1=>(∃ a,x=.ref a∧(((∃ xs,SqL X.K H1 a xs)∧R (Itl X.K a) H1)∨((∃ xs,SqT X.K H1 a xs)∧R (Itt X.K a) H1)))∨∃ z,x=.str z∧R (Itc z) H1):=by
 intro pins s σ H R I h
 refine thn (hl pins s σ H _ I h) fun v s1 ⟨x,H1,I1,r1,q1⟩=>?_
 rcases q1 with ⟨a,e,q1⟩ | ⟨z,e,q⟩
 ·subst e
  cases r1
  rcases q1 with ⟨⟨xs,hq⟩,q⟩ | ⟨⟨xs,hq⟩,q⟩
  ·obtain ⟨its,rv,p,hz⟩:=I1.list hq
   refine wpAny_pyIter_list p.isList ?_
   refine ⟨s1.heap.objs.size,[s1.heap.objs.size],_,_,H1,rfl,I1.kept (t':=s1.toks) fun b o e=>Heap.get?_push_of_some _ e,ve a _,⟨_,Heap.get?_push_size _ rfl,rfl,rfl⟩,fun b hb=>?_,q⟩
   obtain rfl:b=s1.heap.objs.size:=by simpa using hb
   exact I1.fpOk (Nat.le_refl _) (I1.hok.fresh (Nat.le_refl _))
  ·obtain ⟨its,rv,p,hz⟩:=I1.tuple hq
   refine wpAny_pyIter_tuple (show s1.heap.IsTuple a its.toArray from p) ?_
   refine ⟨s1.heap.objs.size,[s1.heap.objs.size],_,_,H1,rfl,I1.kept (t':=s1.toks) fun b o e=>Heap.get?_push_of_some _ e,sJ a _,⟨_,Heap.get?_push_size _ rfl,rfl,rfl⟩,fun b hb=>?_,q⟩
   obtain rfl:b=s1.heap.objs.size:=by simpa using hb
   exact I1.fpOk (Nat.le_refl _) (I1.hok.fresh (Nat.le_refl _))
 ·subst e
  obtain ⟨t,rfl⟩:=r1
  have fp:∀ b∈[s1.heap.objs.size],mf X pins H1 b:=fun b hb=>by
   obtain rfl:b=s1.heap.objs.size:=by simpa using hb
   exact I1.fpOk (Nat.le_refl _) (I1.hok.fresh (Nat.le_refl _))
  cases ha:z.cps.all (· < 128)
  ·refine wpAny_pyIter_wide ha ?_
   exact ⟨s1.heap.objs.size,[s1.heap.objs.size],_,_,H1,rfl,I1.kept (t':=s1.toks) fun b o e=>Heap.get?_push_of_some _ e,qx _ (fun A' hA=>Walks.strWide hA _ z t) (fun A i s Q E st h=>wpAny_pyIter_striter_wide st h) (by decide),⟨_,Heap.get?_push_size _ rfl,rfl,rfl⟩,fp,q⟩
  ·refine wpAny_pyIter_ascii ha ?_
   exact ⟨s1.heap.objs.size,[s1.heap.objs.size],_,_,H1,rfl,I1.kept (t':=s1.toks) fun b o e=>Heap.get?_push_of_some _ e,qx _ (fun A' hA=>Walks.strAscii hA _ z t) (fun A i s Q E st h=>wpAny_pyIter_striter_ascii st h) (by decide),⟨_,Heap.get?_push_size _ rfl,rfl,rfl⟩,fp,q⟩
end
end L2
namespace L2
open PySem
def CC (a C:Addr) (h:Heap):Prop:=∃ oe vs,h.get? a=some oe∧oe.cls=.ref C∧oe.data=.fields vs∧oe.dict=none
end L2
namespace L3
open PySem PySem.Spec PyProof.Rows L2
inductive D where
 | non | bl (b:Bool) | int (i:Int) | str (x:Str) | tup (ds:List D) | ref (a:Addr) | ty (n:String)
 | rl (ds:List D)
def RoL (K:PySem.W.Frag) (H:Hp) (a:Addr) (xs:List V):Prop:=(∃ o,H a=some (.frz o (.lst xs))) ∨
 ∃ (o:Obj) (its:Array Value) (n:Nat),K.lookup a=some o∧o.cls=.type "list"∧o.dict=none∧o.data=.seq its n∧its.size≤sizeLine∧aU xs its.toList
theorem RoL.sq {K:PySem.W.Frag} {H:Hp} {a:Addr} {xs:List V} (h:RoL K H a xs):SqL K H a xs:=by
 rcases h with ⟨o,h⟩ | h
 ·exact .inl (.inr ⟨o,h⟩)
 ·exact .inr h
mutual
def Has (K:PySem.W.Frag) (H:Hp):D→V→Prop
 | .non,v=>v=.non
 | .bl b,v=>v=.bl b
 | .int i,v=>v=.int i
 | .str x,v=>v=.str x
 | .ref a,v=>v=.ref a
 | .ty n,v=>v=.ty n
 | .tup ds,v=>∃ a xs,v=.ref a∧SqT K H a xs∧aM K H ds xs
 | .rl ds,v=>∃ a xs,v=.ref a∧RoL K H a xs∧aM K H ds xs
def aM (K:PySem.W.Frag) (H:Hp):List D→List V→Prop
 | [],xs=>xs=[]
 | d :: ds,xs=>∃ x r,xs=x :: r∧Has K H d x∧aM K H ds r
end
structure bg (K:PySem.W.Frag) (H H':Hp):Prop where
 t:∀ a xs,SqT K H a xs→SqT K H' a xs
 f:∀ a o xs,H a=some (.frz o (.lst xs))→H' a=some (.frz o (.lst xs))
theorem bg.refl {K:PySem.W.Frag} {H:Hp}:bg K H H:=⟨fun _ _ h=>h,fun _ _ _ h=>h⟩
theorem bg.trans {K:PySem.W.Frag} {H H1 H2:Hp} (a:bg K H H1) (b:bg K H1 H2):bg K H H2:=⟨fun c xs h=>b.t c xs (a.t c xs h),fun c o xs h=>b.f c o xs (a.f c o xs h)⟩
theorem bg.upd {K:PySem.W.Frag} {H:Hp} {p:Addr} {o:HO} (h:∀ xs,¬ Rd H p (.tup xs)) (h':∀ u xs,H p ≠ some (.frz u (.lst xs))):bg K H (upd H p o):=⟨fun a xs q=>by
 rcases q with q | q
 ·have ne:a ≠ p:=fun z=>h xs (z ▸ q)
  rcases q with q | ⟨u,q⟩
  ·exact .inl (.inl (by rw [aK ne]; exact q))
  ·exact .inl (.inr ⟨u,by rw [aK ne]; exact q⟩)
 ·exact .inr q,fun a u xs q=>by
 have ne:a ≠ p:=fun z=>h' u xs (z ▸ q)
 rw [aK ne]
 exact q⟩
theorem bg.new {K:PySem.W.Frag} {H:Hp} {p:Addr} {o:HO} (h:H p=none):bg K H (L2.upd H p o):=.upd (fun xs q=>by
 rcases q with q | ⟨u,q⟩ <;> (rw [h] at q; cases q)) fun u xs q=>by rw [h] at q; cases q
theorem RoL.mono {K:PySem.W.Frag} {H H':Hp} {a:Addr} {xs:List V} (e:bg K H H') (h:RoL K H a xs):RoL K H' a xs:=by
 rcases h with ⟨o,h⟩ | h
 ·exact .inl ⟨o,e.f a o xs h⟩
 ·exact .inr h
mutual
theorem Has.mono {K:PySem.W.Frag} {H H':Hp} (e:bg K H H'):∀ {d:D} {v:V},Has K H d v→Has K H' d v
 | .non,_,h=>h
 | .bl _,_,h=>h
 | .int _,_,h=>h
 | .str _,_,h=>h
 | .ref _,_,h=>h
 | .ty _,_,h=>h
 | .tup ds,v,h=>by
  unfold Has at h ⊢
  obtain ⟨a,xs,e1,e2,e3⟩:=h
  exact ⟨a,xs,e1,e.t _ _ e2,aM.mono e e3⟩
 | .rl ds,v,h=>by
  unfold Has at h ⊢
  obtain ⟨a,xs,e1,e2,e3⟩:=h
  exact ⟨a,xs,e1,e2.mono e,aM.mono e e3⟩
theorem aM.mono {K:PySem.W.Frag} {H H':Hp} (e:bg K H H'):∀ {ds:List D} {xs:List V},aM K H ds xs→aM K H' ds xs
 | [],_,h=>h
 | d :: ds,xs,h=>by
  unfold aM at h ⊢
  obtain ⟨x,r,e1,e2,e3⟩:=h
  exact ⟨x,r,e1,Has.mono e e2,aM.mono e e3⟩
end
section
variable {K:PySem.W.Frag} {H H':Hp}
theorem aM.nil:aM K H [] []:=by unfold aM; rfl
theorem aM.cons {d:D} {ds:List D} {x:V} {xs:List V} (a:Has K H d x) (b:aM K H ds xs):aM K H (d :: ds) (x :: xs):=by unfold aM; exact ⟨x,xs,rfl,a,b⟩
theorem aM.inv {d:D} {ds:List D} {xs:List V} (h:aM K H (d :: ds) xs):∃ x r,xs=x :: r∧Has K H d x∧aM K H ds r:=by unfold aM at h; exact h
theorem aM.nil_inv {xs:List V} (h:aM K H [] xs):xs=[]:=by unfold aM at h; exact h
theorem aM.length:∀ {ds:List D} {xs:List V},aM K H ds xs→ds.length=xs.length
 | [],_,h=>by rw [h.nil_inv]; rfl
 | d :: ds,_,h=>by
  obtain ⟨x,r,rfl,_,e⟩:=h.inv
  simp [aM.length e]
theorem aM.get:∀ {ds:List D} {xs:List V} {i:Nat} {d:D},aM K H ds xs→ds[i]?=some d→∃ x,xs[i]?=some x∧Has K H d x
 | [],_,_,_,_,e=>by simp at e
 | d :: ds,_,0,_,h,e=>by
  obtain ⟨x,r,rfl,a,_⟩:=h.inv
  simp at e
  subst e
  exact ⟨x,by simp,a⟩
 | d :: ds,_,i + 1,_,h,e=>by
  obtain ⟨x,r,rfl,_,b⟩:=h.inv
  obtain ⟨y,e1,e2⟩:=aM.get b (by simpa using e)
  exact ⟨y,by simpa using e1,e2⟩
theorem aM.append:∀ {ds es:List D} {xs ys:List V},aM K H ds xs→aM K H es ys→aM K H (ds ++ es) (xs ++ ys)
 | [],_,_,_,h,g=>by rw [h.nil_inv]; exact g
 | d :: ds,_,_,_,h,g=>by
  obtain ⟨x,r,rfl,a,b⟩:=h.inv
  exact .cons a (aM.append b g)
theorem aM.take:∀ {ds:List D} {xs:List V} (n:Nat),aM K H ds xs→aM K H (ds.take n) (xs.take n)
 | _,_,0,_=>by simp only [List.take_zero]; exact .nil
 | [],_,n + 1,h=>by rw [h.nil_inv]; exact .nil
 | d :: ds,_,n + 1,h=>by
  obtain ⟨x,r,rfl,a,b⟩:=h.inv
  exact .cons a (aM.take n b)
theorem aM.drop:∀ {ds:List D} {xs:List V} (n:Nat),aM K H ds xs→aM K H (ds.drop n) (xs.drop n)
 | _,_,0,h=>h
 | [],_,n + 1,h=>by rw [h.nil_inv]; exact .nil
 | d :: ds,_,n + 1,h=>by
  obtain ⟨x,r,rfl,a,b⟩:=h.inv
  exact aM.drop n b
theorem aM.snoc {ds:List D} {xs:List V} {d:D} {x:V} (h:aM K H ds xs) (a:Has K H d x):aM K H (ds ++ [d]) (xs ++ [x]):=h.append (.cons a .nil)
theorem aM.ints:∀ {ns:List Int},aM K H (ns.map D.int) (ns.map V.int)
 | []=>.nil
 | n :: r=>.cons (by unfold Has; rfl) aM.ints
theorem Has.tup {ds:List D} {a:Addr} {xs:List V} (q:SqT K H a xs) (h:aM K H ds xs):Has K H (.tup ds) (.ref a):=by unfold Has; exact ⟨a,xs,rfl,q,h⟩
theorem Has.tup_inv {ds:List D} {v:V} (h:Has K H (.tup ds) v):∃ a xs,v=.ref a∧SqT K H a xs∧aM K H ds xs:=by unfold Has at h; exact h
theorem Has.rl_inv {ds:List D} {v:V} (h:Has K H (.rl ds) v):∃ a xs,v=.ref a∧RoL K H a xs∧aM K H ds xs:=by unfold Has at h; exact h
theorem Has.int {i:Int}:Has K H (.int i) (.int i):=by unfold Has; rfl
theorem Has.bl {i:Bool}:Has K H (.bl i) (.bl i):=by unfold Has; rfl
theorem Has.str {i:Str}:Has K H (.str i) (.str i):=by unfold Has; rfl
theorem Has.ref {i:Addr}:Has K H (.ref i) (.ref i):=by unfold Has; rfl
theorem Has.non:Has K H .non .non:=by unfold Has; rfl
theorem Has.int_inv {i:Int} {v:V} (h:Has K H (.int i) v):v=.int i:=by unfold Has at h; exact h
theorem Has.bl_inv {i:Bool} {v:V} (h:Has K H (.bl i) v):v=.bl i:=by unfold Has at h; exact h
theorem Has.str_inv {i:Str} {v:V} (h:Has K H (.str i) v):v=.str i:=by unfold Has at h; exact h
theorem Has.ref_inv {i:Addr} {v:V} (h:Has K H (.ref i) v):v=.ref i:=by unfold Has at h; exact h
theorem Has.ty_inv {i:String} {v:V} (h:Has K H (.ty i) v):v=.ty i:=by unfold Has at h; exact h
theorem Has.non_inv {v:V} (h:Has K H .non v):v=.non:=by unfold Has at h; exact h
end
inductive fB where
 | lst (ds:List D)
 | ins (C:Addr) (fs:List (Str × D))
 | dk (kvs:List (Key × D))
 | exc (C:Addr)
abbrev Mp:=Addr→Option fB
def am (M:Mp) (a:Addr) (c:fB):Mp:=fun b=>if b=a then some c else M b
theorem aL {M:Mp} {a:Addr} {c:fB}:am M a c a=some c:=by unfold am; rw [if_pos rfl]
theorem cR {M:Mp} {a b:Addr} {c:fB} (h:b ≠ a):am M a c b=M b:=by unfold am; rw [if_neg h]
theorem g8 {M:Mp} {a:Addr} {c d:fB}:am (am M a c) a d=am M a d:=by
 funext b; unfold am; split <;> rfl
theorem neM {M:Mp} {a b:Addr} {c:fB} (h:M a=some c) (h':M b=none):a ≠ b:=by
 intro e; subst e; rw [h] at h'; cases h'
def ls (K:PySem.W.Frag) (H:Hp) (fs:List (Str × D)) (vs:List (Str × V)):Prop:=vs.map (·.1)=fs.map (·.1)∧aM K H (fs.map (·.2)) (vs.map (·.2))
def gT (K:PySem.W.Frag) (H:Hp) (a:Addr):fB→Prop
 | .lst ds=>∃ xs,H a=some (.lst xs)∧aM K H ds xs
 | .ins C fs=>∃ dx vs,H a=some (.ins C dx vs)∧Cls K C∧(∀ f,f∈fs.map (·.1)→fC K C f)∧ls K H fs vs
 | .dk kvs=>∃ vs,H a=some (.dK vs)∧vs.map (·.1)=kvs.map (·.1)∧aM K H (kvs.map (·.2)) (vs.map (·.2))
 | .exc C=>H a=some (.ext (CC a C))
def HM (K:PySem.W.Frag) (H:Hp) (M:Mp):Prop:=∀ a c,M a=some c→gT K H a c
section
variable {K:PySem.W.Frag} {H H':Hp} {M:Mp}
theorem ls.mono {fs:List (Str × D)} {vs:List (Str × V)} (e:bg K H H') (h:ls K H fs vs):ls K H' fs vs:=⟨h.1,h.2.mono e⟩
theorem gT.keep {a:Addr} {c:fB} (e:bg K H H') (k:H' a=H a) (h:gT K H a c):gT K H' a c:=by
 cases c with
 | lst ds=>obtain ⟨xs,e1,e2⟩:=h; exact ⟨xs,by rw [k]; exact e1,e2.mono e⟩
 | ins C fs=>obtain ⟨dx,vs,e1,c,n,e2⟩:=h; exact ⟨dx,vs,by rw [k]; exact e1,c,n,e2.mono e⟩
 | dk kvs=>obtain ⟨vs,e1,e2,e3⟩:=h; exact ⟨vs,by rw [k]; exact e1,e2,e3.mono e⟩
 | exc C=>exact k.trans h
theorem gT.there {a:Addr} {c:fB} (h:gT K H a c):∃ o,H a=some o∧(∀ xs,¬ Rd H a (.tup xs))∧∀ u xs,H a ≠ some (.frz u (.lst xs)):=by
 have go:∀ o,H a=some o→(∀ xs,o ≠ .tup xs)→(∀ u v,o ≠ .frz u v)→∃ o,H a=some o∧(∀ xs,¬ Rd H a (.tup xs))∧∀ u xs,H a ≠ some (.frz u (.lst xs)):=fun o e n1 n2=>⟨o,e,fun xs q=>by
  rcases q with q | ⟨u,q⟩
  ·rw [e] at q; exact n1 xs (Option.some.inj q)
  ·rw [e] at q; exact n2 u _ (Option.some.inj q),fun u xs q=>by rw [e] at q; exact n2 u _ (Option.some.inj q)⟩
 cases c with
 | lst ds=>obtain ⟨xs,e1,e2⟩:=h; exact go _ e1 (fun _ z=>by cases z) fun _ _ z=>by cases z
 | ins C fs=>obtain ⟨dx,vs,e1,e2⟩:=h; exact go _ e1 (fun _ z=>by cases z) fun _ _ z=>by cases z
 | dk kvs=>obtain ⟨vs,e1,e2,e3⟩:=h; exact go _ e1 (fun _ z=>by cases z) fun _ _ z=>by cases z
 | exc C=>exact go _ h (fun _ z=>by cases z) fun _ _ z=>by cases z
theorem HM.fresh (h:HM K H M) {p:Addr} (n:H p=none):M p=none:=by
 cases e:M p with
 | none=>rfl
 | some c =>
  obtain ⟨o,q,_⟩:=(h p c e).there
  rw [n] at q; cases q
theorem HM.keep (h:HM K H M) (e:bg K H H') (k:∀ a c,M a=some c→H' a=H a):HM K H' M:=fun a c q=>(h a c q).keep e (k a c q)
theorem HM.add (h:HM K H M) {p:Addr} {o:HO} (n:H p=none):HM K (upd H p o) M:=h.keep (.new n) fun a c q=>by
 obtain ⟨u,e,_⟩:=(h a c q).there
 rw [aK (bh e n)]
theorem HM.new (h:HM K H M) {p:Addr} {o:HO} {c:fB} (n:H p=none) (ok:gT K (upd H p o) p c):HM K (upd H p o) (am M p c):=fun a d q=>by
 by_cases e:a=p
 ·subst e; rw [aL] at q; cases q; exact ok
 ·rw [cR e] at q
  exact h.add n a d q
theorem HM.put (h:HM K H M) {p:Addr} {o:HO} {c c0:fB} (e0:M p=some c0) (ok:bg K H (upd H p o)→gT K (upd H p o) p c):HM K (upd H p o) (am M p c)∧bg K H (upd H p o):=by
 obtain ⟨u,eu,nt,nf⟩:=(h p c0 e0).there
 have x:bg K H (upd H p o):=.upd nt nf
 refine ⟨fun a d q=>?_,x⟩
 by_cases e:a=p
 ·subst e; rw [aL] at q; cases q; exact ok x
 ·rw [cR e] at q
  exact (h a d q).keep x (aK e)
end
abbrev St:=L2.St
abbrev DSt:=List (Option D)
abbrev DK:=D→Mp→Prop
abbrev T3:=DSt→Mp→DK→Prop
abbrev T3T:=DSt→Mp→(Bool→Mp→Prop)→Prop
abbrev T3A:=DSt→Mp→(List D→Mp→Prop)→Prop
structure nN where
 nx:DSt→Mp→Prop
 rt:DK
 bk:DSt→Mp→Prop:=fun _ _=>False
 ct:DSt→Mp→Prop:=fun _ _=>False
abbrev T3S:=nN→DSt→Mp→Prop
def St3 (K:PySem.W.Frag) (H:Hp) (σ:St) (δ:DSt):Prop:=∀ (i:Nat) (d:D),δ[i]?=some (some d)→∃ v,σ[i]?=some (some v)∧Has K H d v
theorem St3.mono {K:PySem.W.Frag} {H H':Hp} {σ:St} {δ:DSt} (e:bg K H H') (h:St3 K H σ δ):St3 K H' σ δ:=fun i d q=>by
 obtain ⟨v,e1,e2⟩:=h i d q
 exact ⟨v,e1,e2.mono e⟩
theorem St3.set {K:PySem.W.Frag} {H:Hp} {σ:St} {δ:DSt} {i:Nat} {d:D} {v:V} (h:St3 K H σ δ) (hv:Has K H d v) (hi:i < σ.length):St3 K H (σ.set i (some v)) (δ.set i (some d)):=fun j e q=>by
 by_cases hj:j=i
 ·subst hj
  rw [List.getElem?_set_self hi]
  by_cases hl:j < δ.length
  ·rw [List.getElem?_set_self hl] at q
   cases q
   exact ⟨v,rfl,hv⟩
  ·rw [List.getElem?_eq_none (by simpa using hl)] at q
   cases q
 ·rw [List.getElem?_set_ne (Ne.symm hj)] at q ⊢
  exact h j e q
def lo (K:PySem.W.Frag) (t:T3):TE:=fun σ H Q'=>∃ δ M Q,St3 K H σ δ∧HM K H M∧t δ M Q∧∀ v H' d M',Has K H' d v→HM K H' M'→bg K H H'→Q d M'→Q' v H'
def loT (K:PySem.W.Frag) (t:T3T):TT:=fun σ H Q'=>∃ δ M Q,St3 K H σ δ∧HM K H M∧t δ M Q∧∀ b H' M',HM K H' M'→bg K H H'→Q b M'→Q' b H'
def loA (K:PySem.W.Frag) (t:T3A):TA:=fun σ H Q'=>∃ δ M Q,St3 K H σ δ∧HM K H M∧t δ M Q∧∀ vs H' ds M',aM K H' ds vs→HM K H' M'→bg K H H'→Q ds M'→Q' vs H'
def loS (K:PySem.W.Frag) (t:T3S):TS:=fun D' σ H=>∃ δ M D,St3 K H σ δ∧HM K H M∧t D δ M∧(∀ σ' H' δ' M',St3 K H' σ' δ'→HM K H' M'→bg K H H'→σ'.length=σ.length→D.nx δ' M'→D'.nx σ' H') ∧
 (∀ v H' d M',Has K H' d v→HM K H' M'→bg K H H'→D.rt d M'→D'.rt v H')∧(∀ σ' H' δ' M',St3 K H' σ' δ'→HM K H' M'→bg K H H'→σ'.length=σ.length→D.bk δ' M'→D'.bk σ' H') ∧
 (∀ σ' H' δ' M',St3 K H' σ' δ'→HM K H' M'→bg K H H'→σ'.length=σ.length→D.ct δ' M'→D'.ct σ' H')
def E3 (X:Cx) (e:Expr) (t:T3):Prop:=PE X e (lo X.K t)
def B3 (X:Cx) (e:Expr) (t:T3T):Prop:=PT X e (loT X.K t)
def A3 (X:Cx) (es:List Expr) (t:T3A):Prop:=PA X es (loA X.K t)
def S3 (X:Cx) (st:Stmt) (t:T3S):Prop:=PS X st (loS X.K t)
def Ss3 (X:Cx) (st:List Stmt) (t:T3S):Prop:=PSs X st (loS X.K t)
theorem PE.mono {X:Cx} {e:Expr} {t t':TE} (h:PE X e t) (m:∀ σ H Q,t' σ H Q→t σ H Q):PE X e t':=fun pins s σ H Q I q=>h pins s σ H Q I (m σ H Q q)
theorem PT.mono {X:Cx} {e:Expr} {t t':TT} (h:PT X e t) (m:∀ σ H Q,t' σ H Q→t σ H Q):PT X e t':=fun pins s σ H Q I q=>h pins s σ H Q I (m σ H Q q)
theorem PA.mono {X:Cx} {e:List Expr} {t t':TA} (h:PA X e t) (m:∀ σ H Q,t' σ H Q→t σ H Q):PA X e t':=fun pos pins s σ H Q I q=>h pos pins s σ H Q I (m σ H Q q)
theorem PS.mono {X:Cx} {e:Stmt} {t t':TS} (h:PS X e t) (m:∀ D σ H,t' D σ H→t D σ H):PS X e t':=fun pins s σ H D I q=>h pins s σ H D I (m D σ H q)
theorem PSs.mono {X:Cx} {e:List Stmt} {t t':TS} (h:PSs X e t) (m:∀ D σ H,t' D σ H→t D σ H):PSs X e t':=fun pins s σ H D I q=>h pins s σ H D I (m D σ H q)
theorem PS.monoL {X:Cx} {e:Stmt} {t t':TS} (h:PS X e t) (m:∀ D σ H,σ.length=X.N.length→t' D σ H→t D σ H):PS X e t':=fun pins s σ H D I q=>h pins s σ H D I (m D σ H I.len q)
theorem eZ {K:PySem.W.Frag} {H H1:Hp} {Q':VK} {Q:DK} (x:bg K H H1) (f:∀ v H' d M',Has K H' d v→HM K H' M'→bg K H H'→Q d M'→Q' v H'):∀ v H' d M',Has K H' d v→HM K H' M'→bg K H1 H'→Q d M'→Q' v H' :=
 fun v H' d M' a b c e=>f v H' d M' a b (x.trans c) e
section
variable {X:Cx} {pos:Pos}
def v3 (i:Nat):T3:=fun δ M Q=>(δ.getD i none).elim False fun d=>Q d M
theorem uP {δ:DSt} {i:Nat} {P:D→Prop} (h:(δ.getD i none).elim False P):∃ d,δ[i]?=some (some d)∧P d:=by
 cases e:δ[i]? with
 | none=>rw [List.getD_eq_getElem?_getD,e] at h; exact h.elim
 | some o =>
  rw [List.getD_eq_getElem?_getD,e] at h
  cases o with
  | none=>exact h.elim
  | some d=>exact ⟨d,rfl,h⟩
theorem aa (i:Nat) {x:Str} (h:PE X (.Name x pos) (rG i)):E3 X (.Name x pos) (v3 i):=PE.mono h fun σ H Q' ⟨δ,M,Q,hs,hm,ht,k⟩=>by
 obtain ⟨d,e,q⟩:=uP ht
 obtain ⟨v,e1,e2⟩:=hs i d e
 exact ⟨v,e1,k v H d M e2 hm .refl q⟩
def c3 (d:D):T3:=fun _ M Q=>Q d M
theorem ak {i j}:E3 X (.Constant (.int i) j pos) (c3 (.int i)):=PE.mono Bg fun σ H Q' ⟨δ,M,Q,hs,hm,ht,k⟩=>k _ H _ M .int hm .refl ht
theorem eJ {i j}:E3 X (.Constant (.bool i) j pos) (c3 (.bl i)):=PE.mono B9 fun σ H Q' ⟨δ,M,Q,hs,hm,ht,k⟩=>k _ H _ M .bl hm .refl ht
theorem ao {i j}:E3 X (.Constant (.str i) j pos) (c3 (.str i)):=PE.mono BE fun σ H Q' ⟨δ,M,Q,hs,hm,ht,k⟩=>k _ H _ M .str hm .refl ht
theorem b9 {j}:E3 X (.Constant .none j pos) (c3 .non):=PE.mono Ax fun σ H Q' ⟨δ,M,Q,hs,hm,ht,k⟩=>k _ H _ M .non hm .refl ht
theorem BT {x:Str} {n:String} (hg:Gl X x) (hm:X.mg x=none) (hv:bootBuiltins x=some (.type n)) (hn:x ≠ "__name__":=by decide) (hd:(x == ("__debug__":Str))=false:=by decide):E3 X (.Name x pos) (c3 (.ty n)) :=
 PE.mono (yB (v:=.ty n) hg hm hv rfl hn hd) fun σ H Q' ⟨δ,M,Q,hs,hm,ht,k⟩=>k _ H _ M (by unfold Has; rfl) hm .refl ht
end
def lstM (M:Mp) (a:Addr):Option (List D):=match M a with
 | some (.lst ds)=>some ds
 | _=>none
def iK (x:Str) (n:Int):Str:=⟨(List.replicate n.toNat x.cps).foldl (· ++ ·) #[]⟩
def opD (op:Operator) (x y:D) (M:Mp) (Q:DK):Prop:=match op,x,y with
 | .Add,.int i,.int j=>Q (.int (i + j)) M
 | .Add,.str i,.str j=>i.length + j.length≤sizeLine∧Q (.str (i ++ j)) M
 | .Add,.tup i,.tup j=>i ≠ []∧i.length + j.length≤sizeLine∧Q (.tup (i ++ j)) M
 | .Add,.ref a,.ref b=>(lstM M a).elim False fun i=>(lstM M b).elim False fun j=>i.length + j.length≤sizeLine∧∀ p,M p=none→Q (.ref p) (am M p (.lst (i ++ j)))
 | .Add,.rl i,.ref b=>(lstM M b).elim False fun j=>i.length + j.length≤sizeLine∧∀ p,M p=none→Q (.ref p) (am M p (.lst (i ++ j)))
 | .Sub,.int i,.int j=>Q (.int (i - j)) M
 | .Mult,.int i,.int j=>mR i j∧Q (.int (i * j)) M
 | .Mult,.str i,.int j=>(j < 4096∧-4096 < j∧i.length < 4096)∧Q (.str (iK i j)) M
 | .FloorDiv,.int i,.int j=>CO i j∧Q (.int (i / j)) M
 | .Mod,.int i,.int j=>0 < j∧Q (.int (i % j)) M
 | _,_,_=>False
def o3 (op:Operator) (ta tb:T3):T3:=fun δ M Q=>ta δ M fun x M1=>tb δ M1 fun y M2=>opD op x y M2 Q
end L3
namespace L3
open PySem PySem.Spec PyProof.Rows L2
def Up (K:PySem.W.Frag) (H:Hp) (Q':VK) (Q:DK):Prop:=∀ v H' d M',Has K H' d v→HM K H' M'→bg K H H'→Q d M'→Q' v H'
section
variable {X:Cx}
theorem aR {K:PySem.W.Frag} {H:Hp} {M:Mp} {a:Addr} {ds:List D} (hm:HM K H M) (h:lstM M a=some ds):∃ xs,SqL K H a xs∧aM K H ds xs∧Rd H a (.lst xs):=by
 unfold lstM at h
 cases e:M a with
 | none=>rw [e] at h; cases h
 | some c =>
  rw [e] at h
  have ok:=hm a c e
  cases c with
  | lst es=>cases h; obtain ⟨xs,e1,e2⟩:=ok; exact ⟨xs,.inl (.inl e1),e2,.inl e1⟩
  | ins _ _=>cases h
  | dk _=>cases h
  | exc _=>cases h
theorem bv {α:Type} {o:Option α} {P:α→Prop} (h:o.elim False P):∃ a,o=some a∧P a:=by
 cases o with
 | none=>exact h.elim
 | some a=>exact ⟨a,rfl,h⟩
theorem tN:OpR X (binaryOp .Add) (fun x y H Q=>∃ l b xs zs,x=.ref l∧y=.ref b∧SqL X.K H l xs∧SqL X.K H b zs∧xs.length + zs.length≤sizeLine∧∀ p,H p=none→Q (.ref p) (upd H p (.lst (xs ++ zs)))):=by
 intro pins s σ H x y v u Q I rx ry h
 obtain ⟨l,b,xs,zs,rfl,rfl,hH,hB,hz,q⟩:=h
 cases rx
 cases ry
 obtain ⟨its,r,⟨⟨c1,d1,t1,sl1⟩,n,g1,e1,_,f1⟩,_⟩:=I.list hH
 obtain ⟨jts,r2,⟨⟨c2,d2,t2,sl2⟩,m,g2,e2,_,f2⟩,_⟩:=I.list hB
 simp only at e1 f1 e2 f2
 subst e1 f1 e2 f2
 have hl:=r.length
 have hl2:=r2.length
 refine concat_meets ⟨_,g1,rfl⟩ ⟨_,g2,rfl⟩ noFill_list_add seq_list_add PySem.F.slot_list_add PySem.F.entry_list_add (PySem.F.args_list_add_2 _ _) (list_addW l b its.toArray jts.toArray n m d1 d2 sl1 sl2 (by rw [List.size_toArray,List.size_toArray]; omega)) ⟨g1,g2,?_⟩
 have ea:its.toArray ++ jts.toArray=(its ++ jts).toArray:=by simp
 rw [ea]
 exact ⟨.ref _,_,I.lnew (t':=s.toks) (r.append r2) (by rw [List.length_append]; omega),rfl,q _ I.fresh⟩
theorem tR (x:Array Nat):∀ k,((List.replicate k x).foldl (· ++ ·) #[]:Array Nat).size=k * x.size:=by
 have go:∀ (k:Nat) (acc:Array Nat),((List.replicate k x).foldl (· ++ ·) acc).size=acc.size + k * x.size:=by
  intro k
  induction k with
  | zero=>intro acc; simp
  | succ k ih=>intro acc; rw [List.replicate_succ,List.foldl_cons,ih,Array.size_append,Nat.succ_mul]; omega
 intro k
 rw [go]
 simp
theorem zk:OpR X (binaryOp .Mult) (fun x y H Q=>∃ i j,x=.str i∧y=.int j∧(j < 4096∧-4096 < j∧i.length < 4096)∧Q (.str (iK i j)) H):=by
 intro pins s σ H x y v u Q I rx ry h
 obtain ⟨i,j,rfl,rfl,⟨h1,h2,h3⟩,q⟩:=h
 obtain ⟨t,rfl⟩:=rx
 obtain ⟨t',rfl⟩:=ry
 refine PySem.P.mul_str ?_ ?_ ?_ ?_
 ·rw [decide_eq_false (by omega),decide_eq_false (by omega)]; rfl
 ·intro h0 _
  have:(4096:Int)≤(2 ^ 63 - 1) / j:=by
   have:(4096:Int) * j≤2 ^ 63 - 1:=by omega
   exact (Int.le_ediv_iff_mul_le (by omega)).mpr this
  omega
 ·intro h0 _
  have hm:i.length * j.toNat≤4096 * 4096:=Nat.mul_le_mul (by omega) (by omega)
  have hz:sizeLine=16777216:=sizeLine_eq
  unfold Builtin.Str.tooLong
  exact decide_eq_false (by omega)
 ·by_cases h0:j < 1
  ·rw [if_pos h0]
   have e:iK i j=Str.empty:=by
    unfold iK
    rw [show j.toNat=0 by omega]
    rfl
   rw [e] at q
   exact ⟨by decide,⟨.str Str.empty,H,I.tok _,⟨_,rfl⟩,q⟩⟩
  ·rw [if_neg h0]
   by_cases hj:(j == 1 || i.length == 0)=true
   ·rw [if_pos hj]
    have e:iK i j=i:=by
     have hj':j=1∨i.length=0:=by simpa using hj
     unfold iK
     rcases hj' with z | z
     ·subst z
      show (⟨#[] ++ i.cps⟩:Str)=i
      simp
     ·have ec:i.cps=#[]:=Array.size_eq_zero_iff.mp z
      have er:∀ k:Nat,((List.replicate k (#[]:Array Nat)).foldl (· ++ ·) #[]:Array Nat)=#[]:=by
       intro k
       induction k with
       | zero=>rfl
       | succ k ih=>rw [List.replicate_succ,List.foldl_cons]; simpa using ih
      rw [ec,er,← ec]
    rw [e] at q
    exact ⟨.str i,H,I,⟨t,rfl⟩,q⟩
   ·rw [if_neg hj]
    refine ⟨?_,⟨.str _,H,I.tok _,⟨_,rfl⟩,q⟩⟩
    have hz:sizeLine=16777216:=sizeLine_eq
    have hm:j.toNat * i.length≤4096 * 4096:=Nat.mul_le_mul (by omega) (by omega)
    show ((List.replicate j.toNat i.cps).foldl (· ++ ·) #[]:Array Nat).size≤_
    rw [tR]
    have hm':j.toNat * i.cps.size≤4096 * 4096:=hm
    omega
def R3 (K:PySem.W.Frag) (f:D→D→Mp→DK→Prop):R2:=fun vx vy H Q'=>∃ x y M Q,Has K H x vx∧Has K H y vy∧HM K H M∧f x y M Q∧Up K H Q' Q
theorem op3 (op:Operator):OpR X (binaryOp op) (R3 X.K (opD op)):=by
 intro pins s σ H vx vy v u Q' I rx ry h
 obtain ⟨x,y,M,Q,hx,hy,hm,q,k⟩:=h
 unfold opD at q
 split at q
 ·cases hx.int_inv; cases hy.int_inv
  exact AE pins s σ H _ _ v u Q' I rx ry ⟨_,_,rfl,rfl,k _ _ _ _ .int hm .refl q⟩
 ·cases hx.str_inv; cases hy.str_inv
  exact sB pins s σ H _ _ v u Q' I rx ry ⟨_,_,rfl,rfl,q.1,k _ _ _ _ .str hm .refl q.2⟩
 ·rename_i i j
  obtain ⟨q1,q2,q3⟩:=q
  obtain ⟨a,xs,rfl,ha,ha'⟩:=hx.tup_inv
  obtain ⟨b,ys,rfl,hb,hb'⟩:=hy.tup_inv
  have l1:=ha'.length
  have l2:=hb'.length
  refine ze pins s σ H _ _ v u Q' I rx ry ⟨a,b,xs,ys,rfl,rfl,ha,hb,fun z=>q1 (by rw [z] at l1; exact List.length_eq_zero_iff.mp l1),by omega,fun z=>?_,fun z p hp=>?_⟩
  ·refine k _ _ _ _ (.tup ha ?_) hm .refl q3
   rw [z] at hb'
   have e0:j=[]:=List.length_eq_zero_iff.mp (by simpa using hb'.length)
   rw [e0,List.append_nil]
   exact ha'
  ·have e:bg X.K H (upd H p (.tup (xs ++ ys))):=.new hp
   exact k _ _ _ _ (.tup (.of aN) ((ha'.append hb').mono e)) (hm.add hp) e q3
 ·obtain ⟨i,ei,q⟩:=bv q
  obtain ⟨j,ej,q1,q2⟩:=bv q
  cases hx.ref_inv; cases hy.ref_inv
  obtain ⟨xs,rx',hxs,_⟩:=aR hm ei
  obtain ⟨ys,ry',hys,_⟩:=aR hm ej
  have l1:=hxs.length
  have l2:=hys.length
  refine tN pins s σ H _ _ v u Q' I rx ry ⟨_,_,xs,ys,rfl,rfl,rx',ry',by omega,fun p hp=>?_⟩
  have e:bg X.K H (upd H p (.lst (xs ++ ys))):=.new hp
  exact k _ _ _ _ .ref (hm.new (c:=.lst (i ++ j)) hp ⟨_,aN,(hxs.append hys).mono e⟩) e (q2 p (hm.fresh hp))
 ·obtain ⟨j,ej,q1,q2⟩:=bv q
  obtain ⟨l,xs,rfl,rx',hxs⟩:=hx.rl_inv
  cases hy.ref_inv
  obtain ⟨ys,ry',hys,_⟩:=aR hm ej
  have l1:=hxs.length
  have l2:=hys.length
  refine tN pins s σ H _ _ v u Q' I rx ry ⟨_,_,xs,ys,rfl,rfl,rx'.sq,ry',by omega,fun p hp=>?_⟩
  have e:bg X.K H (upd H p (.lst (xs ++ ys))):=.new hp
  exact k _ _ _ _ .ref (hm.new (c:=.lst (_ ++ j)) hp ⟨_,aN,(hxs.append hys).mono e⟩) e (q2 p (hm.fresh hp))
 ·cases hx.int_inv; cases hy.int_inv
  exact AB pins s σ H _ _ v u Q' I rx ry ⟨_,_,rfl,rfl,k _ _ _ _ .int hm .refl q⟩
 ·cases hx.int_inv; cases hy.int_inv
  exact Bk pins s σ H _ _ v u Q' I rx ry ⟨_,_,rfl,rfl,q.1,k _ _ _ _ .int hm .refl q.2⟩
 ·cases hx.str_inv; cases hy.int_inv
  exact zk pins s σ H _ _ v u Q' I rx ry ⟨_,_,rfl,rfl,q.1,k _ _ _ _ .str hm .refl q.2⟩
 ·cases hx.int_inv; cases hy.int_inv
  exact zM pins s σ H _ _ v u Q' I rx ry ⟨_,_,rfl,rfl,q.1,k _ _ _ _ .int hm .refl q.2⟩
 ·cases hx.int_inv; cases hy.int_inv
  exact AL pins s σ H _ _ v u Q' I rx ry ⟨_,_,rfl,rfl,q.1,k _ _ _ _ .int hm .refl q.2⟩
 ·exact q.elim
variable {a b:Expr} {ta tb:T3} {pos:Pos}
theorem sK {f:D→D→Mp→DK→Prop}:∀ σ H Q',lo X.K (fun δ M Q=>ta δ M fun x M1=>tb δ M1 fun y M2=>f x y M2 Q) σ H Q'→tOp (R3 X.K f) (lo X.K ta) (lo X.K tb) σ H Q':=fun σ H Q' ⟨δ,M,Q,hs,hm,ht,k⟩ =>
 ⟨δ,M,_,hs,hm,ht,fun v H1 x M1 hx hm1 e1 q1=>⟨δ,M1,_,hs.mono e1,hm1,q1,fun u H2 y M2 hy hm2 e2 q2=>⟨x,y,M2,Q,hx.mono e2,hy,hm2,q2,eZ (e1.trans e2) k⟩⟩⟩
theorem aS {op:Operator} (ha:E3 X a ta) (hb:E3 X b tb):E3 X (.BinOp a op b pos) (o3 op ta tb):=PE.mono (C1 (op3 op) ha hb) sK
end
def bX (f:D→D→Option Bool):List D→List D→Option Bool
 | x :: a,y :: b=>(f x y).bind fun p=>(bX f a b).map fun q=>p && q
 | _,_=>some true
def eqD (M:Mp):Nat→D→D→Option Bool
 | 0,_,_=>none
 | n + 1,x,y=>match x,y with
  | .non,.non=>some true
  | .bl a,.bl b=>some (a == b)
  | .int a,.int b=>some (a == b)
  | .str a,.str b=>some (a == b)
  | .non,.bl _=>some false
  | .non,.int _=>some false
  | .non,.str _=>some false
  | .bl _,.non=>some false
  | .bl _,.str _=>some false
  | .int _,.non=>some false
  | .int _,.str _=>some false
  | .str _,.non=>some false
  | .str _,.bl _=>some false
  | .str _,.int _=>some false
  | .tup a,.tup b=>(bX (eqD M n) a b).map fun p=>p && a.length == b.length
  | .ref a,.ref b=>(lstM M a).bind fun i=>(lstM M b).bind fun j=>if i.length=j.length then bX (eqD M n) i j else some false
  | _,_=>none
section
variable {X:Cx} {pins:List (Addr × Obj)} {σ:St} {H:Hp} {s:Shared} {M:Mp}
theorem iH {f:D→D→Option Bool}:∀ {ds es:List D} {xs:List V} {b:Bool},aM X.K H ds xs→aM X.K H es xs→(∀ x y v b,Has X.K H x v→Has X.K H y v→f x y=some b→b=true)→bX f ds es=some b→b=true
 | [],[],_,_,_,_,_,e=>(Option.some.inj e).symm
 | [],_ :: _,_,_,h,g,_,_=>by
  have h1:=h.length
  have h2:=g.length
  rw [← h1] at h2
  simp at h2
 | _ :: _,[],_,_,h,g,_,_=>by
  have h1:=h.length
  have h2:=g.length
  rw [← h1] at h2
  simp at h2
 | d :: ds,e :: es,xs,b,h,g,k,q=>by
  obtain ⟨x,r,rfl,h1,h2⟩:=h.inv
  obtain ⟨x',r',e',g1,g2⟩:=g.inv
  cases e'
  unfold bX at q
  cases p1:f d e with
  | none=>rw [p1] at q; cases q
  | some b1 =>
   rw [p1] at q
   cases p2:bX f ds es with
   | none=>rw [p2] at q; cases q
   | some b2 =>
    rw [p2] at q
    have q':(b1 && b2)=b:=Option.some.inj q
    rw [← q',k _ _ _ _ h1 g1 p1,iH h2 g2 k p2]
    rfl
theorem i8 (I:Inv X pins σ H s) (hm:HM X.K H M):∀ (n:Nat) (x y:D) (v:V) (b:Bool),Has X.K H x v→Has X.K H y v→eqD M n x y=some b→b=true
 | 0,_,_,_,_,_,_,e=>by cases e
 | n + 1,x,y,v,b,hx,hy,e=>by
  unfold eqD at e
  split at e
  ·exact (Option.some.inj e).symm
  ·rw [hx.bl_inv] at hy; cases hy.bl_inv; exact (Option.some.inj e).symm.trans (by simp)
  ·rw [hx.int_inv] at hy; cases hy.int_inv; exact (Option.some.inj e).symm.trans (by simp)
  ·rw [hx.str_inv] at hy; cases hy.str_inv; exact (Option.some.inj e).symm.trans (by simp)
  ·rw [hx.non_inv] at hy; cases hy.bl_inv
  ·rw [hx.non_inv] at hy; cases hy.int_inv
  ·rw [hx.non_inv] at hy; cases hy.str_inv
  ·rw [hx.bl_inv] at hy; cases hy.non_inv
  ·rw [hx.bl_inv] at hy; cases hy.str_inv
  ·rw [hx.int_inv] at hy; cases hy.non_inv
  ·rw [hx.int_inv] at hy; cases hy.str_inv
  ·rw [hx.str_inv] at hy; cases hy.non_inv
  ·rw [hx.str_inv] at hy; cases hy.bl_inv
  ·rw [hx.str_inv] at hy; cases hy.int_inv
  ·obtain ⟨a,xs,rfl,h1,h2⟩:=hx.tup_inv
   obtain ⟨a',ys,e',g1,g2⟩:=hy.tup_inv
   cases e'
   rw [I.tuple_inj g1 h1] at g2
   cases p:bX (eqD M n) _ _ with
   | none=>rw [p] at e; cases e
   | some b1 =>
    rw [p] at e
    have e':=Option.some.inj e
    rw [← e',iH h2 g2 (i8 I hm n) p,h2.length,g2.length]
    simp
  ·rw [hx.ref_inv] at hy
   cases hy.ref_inv
   cases p:lstM M _ with
   | none=>rw [p] at e; cases e
   | some i =>
    rw [p] at e
    have e:(if i.length=i.length then bX (eqD M n) i i else some false)=some b:=e
    rw [if_pos rfl] at e
    obtain ⟨xs,_,h2,_⟩:=aR hm p
    exact iH h2 h2 (i8 I hm n) e
  ·cases e
end
end L3
namespace L3
open PySem PySem.Spec PyProof.Rows L2
section
variable {X:Cx} {pins:List (Addr × Obj)} {σ:St} {H:Hp} {s:Shared} {M:Mp}
theorem lQ {f:D→D→Option Bool} {A:Around}:∀ {ds es:List D} {xs ys:List V} {us ws:List Value} {b:Bool},bX f ds es=some b→aM X.K H ds xs→aM X.K H es ys→aU xs us→aU ys ws →
  (∀ x y b vx vy u w,f x y=some b→Has X.K H x vx→Has X.K H y vy→bf vx u→bf vy w→SeqAt.EqAt A s u w b) →
  ∃ e:Nat→Bool,(∀ j (h1:j < us.length) (h2:j < ws.length),SeqAt.EqAt A s us[j] ws[j] (e j))∧(List.range (min us.length ws.length)).all e=b
 | [],es,xs,ys,us,ws,b,q,hx,hy,rx,ry,k=>by
  have e1:=hx.nil_inv
  subst e1
  cases rx
  refine ⟨fun _=>true,fun j h1=>absurd h1 (by simp),?_⟩
  have q':some true=some b:=by
   cases es <;> exact q
  simpa using (Option.some.inj q')
 | d :: ds,[],xs,ys,us,ws,b,q,hx,hy,rx,ry,k=>by
  have e1:=hy.nil_inv
  subst e1
  cases ry
  refine ⟨fun _=>true,fun j _ h2=>absurd h2 (by simp),?_⟩
  have q':some true=some b:=q
  simpa using (Option.some.inj q')
 | d :: ds,e :: es,xs,ys,us,ws,b,q,hx,hy,rx,ry,k=>by
  obtain ⟨x,r,rfl,h1,h2⟩:=hx.inv
  obtain ⟨y,r',rfl,g1,g2⟩:=hy.inv
  cases rx with
  | cons r1 r2 =>
   cases ry with
   | cons t1 t2 =>
    unfold bX at q
    cases p1:f d e with
    | none=>rw [p1] at q; cases q
    | some b1 =>
     rw [p1] at q
     cases p2:bX f ds es with
     | none=>rw [p2] at q; cases q
     | some b2 =>
      rw [p2] at q
      have q':(b1 && b2)=b:=Option.some.inj q
      obtain ⟨e',he,ha⟩:=lQ p2 h2 g2 r2 t2 k
      refine ⟨fun j=>match j with | 0=>b1 | j + 1=>e' j,fun j l1 l2=>?_,?_⟩
      ·cases j with
       | zero=>exact k _ _ _ _ _ _ _ p1 h1 g1 r1 t1
       | succ j=>exact he j (by simpa using l1) (by simpa using l2)
      ·rw [← q',← ha]
       simp only [List.length_cons]
       rw [Nat.succ_min_succ,List.range_succ_eq_map,List.all_cons,List.all_map]
       rfl
theorem oH (I:Inv X pins σ H s) (hm:HM X.K H M):∀ (n:Nat) (A:Around) (x y:D) (b:Bool) (vx vy:V) (u w:Value),A.units + n < cLine→eqD M n x y=some b→Has X.K H x vx→Has X.K H y vy→bf vx u→bf vy w →
  SeqAt.RcAt A s u w b∧SeqAt.EqAt A s u w b∧SeqAt.RcNeAt A s u w (!b)
 | 0,_,_,_,_,_,_,_,_,_,e,_,_,_,_=>by cases e
 | n + 1,A,x,y,b,vx,vy,u,w,hu,e,hx,hy,rx,ry=>by
  have hu1:A.units < cLine:=by omega
  have hui:A.in1.units + n < cLine:=by show A.units + 1 + n < cLine; omega
  unfold eqD at e
  split at e
  ·cases hx.non_inv; cases hy.non_inv; cases rx; cases ry; cases e
   exact ⟨.none_none,.same _,.none_none⟩
  ·cases hx.bl_inv; cases hy.bl_inv; cases rx; cases ry; cases e
   exact ⟨.bool_bool _ _,.bool_bool _ _,.bool_bool _ _⟩
  ·cases hx.int_inv; cases hy.int_inv; obtain ⟨t,rfl⟩:=rx; obtain ⟨t',rfl⟩:=ry; cases e
   exact ⟨.int_int _ _ _ _,.int_int _ _ _ _,.int_int _ _ _ _⟩
  ·cases hx.str_inv; cases hy.str_inv; obtain ⟨t,rfl⟩:=rx; obtain ⟨t',rfl⟩:=ry; cases e
   exact ⟨.str_str _ _ _ _,.str_str _ _ _ _,.str_str _ _ _ _⟩
  ·cases hx.non_inv; cases hy.bl_inv; cases rx; cases ry; cases e
   exact ⟨.none_bool _,.none_bool _,.none_bool _⟩
  ·cases hx.non_inv; cases hy.int_inv; cases rx; obtain ⟨t',rfl⟩:=ry; cases e
   exact ⟨.none_int _ _,.none_int _ _,.none_int _ _⟩
  ·cases hx.non_inv; cases hy.str_inv; cases rx; obtain ⟨t',rfl⟩:=ry; cases e
   exact ⟨.none_str _ _,.none_str _ _,.none_str _ _⟩
  ·cases hx.bl_inv; cases hy.non_inv; cases rx; cases ry; cases e
   exact ⟨.bool_none _,.bool_none _,.bool_none _⟩
  ·cases hx.bl_inv; cases hy.str_inv; cases rx; obtain ⟨t',rfl⟩:=ry; cases e
   exact ⟨.bool_str _ _ _,.bool_str _ _ _,.bool_str _ _ _⟩
  ·cases hx.int_inv; cases hy.non_inv; obtain ⟨t,rfl⟩:=rx; cases ry; cases e
   exact ⟨.int_none _ _,.int_none _ _,.int_none _ _⟩
  ·cases hx.int_inv; cases hy.str_inv; obtain ⟨t,rfl⟩:=rx; obtain ⟨t',rfl⟩:=ry; cases e
   exact ⟨.int_str _ _ _ _,.int_str _ _ _ _,.int_str _ _ _ _⟩
  ·cases hx.str_inv; cases hy.non_inv; obtain ⟨t,rfl⟩:=rx; cases ry; cases e
   exact ⟨.str_none _ _,.str_none _ _,.str_none _ _⟩
  ·cases hx.str_inv; cases hy.bl_inv; obtain ⟨t,rfl⟩:=rx; cases ry; cases e
   exact ⟨.str_bool _ _ _,.str_bool _ _ _,.str_bool _ _ _⟩
  ·cases hx.str_inv; cases hy.int_inv; obtain ⟨t,rfl⟩:=rx; obtain ⟨t',rfl⟩:=ry; cases e
   exact ⟨.str_int _ _ _ _,.str_int _ _ _ _,.str_int _ _ _ _⟩
  ·rename_i da db
   obtain ⟨a1,xs,rfl,h1,h2⟩:=hx.tup_inv
   obtain ⟨a2,ys,rfl,g1,g2⟩:=hy.tup_inv
   cases rx
   cases ry
   obtain ⟨us,r1,p1,_⟩:=I.tuple h1
   obtain ⟨ws,r2,p2,_⟩:=I.tuple g1
   cases p:bX (eqD M n) da db with
   | none=>rw [p] at e; cases e
   | some b1 =>
    have e0:=e
    rw [p] at e
    have e':(b1 && da.length == db.length)=b:=Option.some.inj e
    obtain ⟨f,hf,ha⟩:=lQ (A:=A.in1) (s:=s) p h2 g2 r1 r2 fun x y b vx vy u w q1 q2 q3 q4 q5=>(oH I hm n A.in1 x y b vx vy u w hui q1 q2 q3 q4 q5).2.1
    have hb:((List.range (min us.toArray.size ws.toArray.size)).all f && us.toArray.size == ws.toArray.size)=b:=by
     rw [List.size_toArray,List.size_toArray,ha,← e',← r1.length,← r2.length,h2.length,g2.length]
    have hf':∀ j (l1:j < us.toArray.size) (l2:j < ws.toArray.size),SeqAt.EqAt A.in1 s us.toArray[j] ws.toArray[j] (f j):=fun j l1 l2=>by simpa using hf j (by simpa using l1) (by simpa using l2)
    have c1:SeqAt.RcAt A s (.ref a1) (.ref a2) b:=by rw [← hb]; exact .tuples p1 p2 hu1 hf'
    have c3:SeqAt.RcNeAt A s (.ref a1) (.ref a2) (!b):=by
     have:=SeqAt.RcNeAt.tuples p1 p2 hu1 hf'
     rw [hb] at this
     exact this
    refine ⟨c1,?_,c3⟩
    by_cases ea:a1=a2
    ·subst ea
     have:b=true:=i8 I hm (n + 1) (.tup da) (.tup db) (.ref a1) b hx hy (by unfold eqD; exact e0)
     rw [this]
     exact .same _
    ·exact .of_refs ea c1
  ·cases hx.ref_inv; cases hy.ref_inv
   cases rx
   cases ry
   rename_i a1 a2
   have e0:=e
   cases p:lstM M a1 with
   | none=>rw [p] at e; cases e
   | some i =>
    cases p':lstM M a2 with
    | none=>rw [p,p'] at e; cases e
    | some j =>
     rw [p,p'] at e
     have e:(if i.length=j.length then bX (eqD M n) i j else some false)=some b:=e
     obtain ⟨xs,q1,h2,_⟩:=aR hm p
     obtain ⟨ys,q2,g2,_⟩:=aR hm p'
     obtain ⟨us,r1,p1,_⟩:=I.list q1
     obtain ⟨ws,r2,p2,_⟩:=I.list q2
     have fin:SeqAt.RcAt A s (.ref a1) (.ref a2) b∧SeqAt.RcNeAt A s (.ref a1) (.ref a2) (!b):=by
      by_cases hl:i.length=j.length
      ·rw [if_pos hl] at e
       obtain ⟨f,hf,ha⟩:=lQ (A:=A.in1) (s:=s) e h2 g2 r1 r2 fun x y b vx vy u w q1 q2 q3 q4 q5=>(oH I hm n A.in1 x y b vx vy u w hui q1 q2 q3 q4 q5).2.1
       have hsz:us.toArray.size=ws.toArray.size:=by rw [List.size_toArray,List.size_toArray,← r1.length,← r2.length,← h2.length,← g2.length]; exact hl
       have hf':∀ j (l1:j < us.toArray.size) (l2:j < ws.toArray.size),SeqAt.EqAt A.in1 s us.toArray[j] ws.toArray[j] (f j):=fun j l1 l2=>by simpa using hf j (by simpa using l1) (by simpa using l2)
       have hb:(List.range us.toArray.size).all f=b:=by
        rw [← ha]
        rw [List.size_toArray,List.size_toArray] at hsz
        rw [List.size_toArray,← hsz,Nat.min_self]
       rw [← hb]
       exact ⟨.lists p1.isList p2.isList hsz hu1 hf',.lists p1.isList p2.isList hsz hu1 hf'⟩
      ·rw [if_neg hl] at e
       cases e
       have hsz:(us.toArray.size != ws.toArray.size)=true:=by
        rw [List.size_toArray,List.size_toArray,← r1.length,← r2.length,← h2.length,← g2.length]
        simpa using hl
       exact ⟨.lists_lengths p1.isList p2.isList hsz hu1,.lists_lengths p1.isList p2.isList hsz hu1⟩
     refine ⟨fin.1,?_,fin.2⟩
     by_cases ea:a1=a2
     ·subst ea
      have:b=true:=i8 I hm (n + 1) (.ref a1) (.ref a1) (.ref a1) b .ref .ref (by unfold eqD; exact e0)
      rw [this]
      exact .same _
     ·exact .of_refs ea fin.1
  ·cases e
end
def d3:D→Bool
 | .non=>true
 | .bl _=>true
 | .int _=>true
 | .str _=>true
 | _=>false
def eqF:D→D→Bool
 | .non,.non=>true
 | .bl a,.bl b=>a == b
 | .bl a,.int b=>(if a then 1 else 0) == b
 | .int a,.bl b=>a == (if b then 1 else 0)
 | .int a,.int b=>a == b
 | .str a,.str b=>a == b
 | _,_=>false
def inD (x:D) (ds:List D):Bool:=ds.any fun y=>eqF y x
def wz (M:Mp):D→Option (List D)
 | .tup ds=>some ds
 | .ref a=>lstM M a
 | .rl ds=>some ds
 | _=>none
def nB (i j:Str):Bool:=!(Builtin.Str.occurrences j i 0 j.length 1).isEmpty
def inQ (neg:Bool) (x y:D) (M:Mp) (Q:DK):Prop:=match x,y with
 | .str i,.str j=>Q (.bl (if neg then !nB i j else nB i j)) M
 | _,_=>(wz M y).elim False fun ds=>d3 x=true∧ds.all d3=true∧Q (.bl (if neg then !inD x ds else inD x ds)) M
def zr (op:CmpOp) (x y:D) (M:Mp) (Q:DK):Prop:=match op with
 | .Eq=>(eqD M 9 x y).elim False fun b=>Q (.bl b) M
 | .NotEq=>(eqD M 9 x y).elim False fun b=>Q (.bl (!b)) M
 | .Lt=>match x,y with | .int i,.int j=>Q (.bl (decide (i < j))) M | _,_=>False
 | .LtE=>match x,y with | .int i,.int j=>Q (.bl (decide (i≤j))) M | _,_=>False
 | .Gt=>match x,y with | .int i,.int j=>Q (.bl (decide (j < i))) M | _,_=>False
 | .GtE=>match x,y with | .int i,.int j=>Q (.bl (decide (j≤i))) M | _,_=>False
 | .Is=>match y with | .non=>Q (.bl (match x with | .non=>true | _=>false)) M | _=>False
 | .IsNot=>match y with | .non=>Q (.bl (match x with | .non=>false | _=>true)) M | _=>False
 | .In=>inQ false x y M Q
 | .NotIn=>inQ true x y M Q
def k3 (op:CmpOp) (ta tb:T3):T3:=fun δ M Q=>ta δ M fun x M1=>tb δ M1 fun y M2=>zr op x y M2 Q
section
variable {K:PySem.W.Frag} {H:Hp} {M:Mp}
theorem jb {d:D} {v:V} (h:Has K H d v) (f:d3 d=true):iB v=true:=by
 cases d with
 | non=>rw [h.non_inv]; rfl
 | bl _=>rw [h.bl_inv]; rfl
 | int _=>rw [h.int_inv]; rfl
 | str _=>rw [h.str_inv]; rfl
 | _=>cases f
theorem uk {d e:D} {v w:V} (h:Has K H d v) (g:Has K H e w) (f:d3 d=true) (f':d3 e=true):eqV v w=eqF d e:=by
 cases d with
 | non =>
  rw [h.non_inv]
  cases e with
  | non=>rw [g.non_inv]; rfl
  | bl _=>rw [g.bl_inv]; rfl
  | int _=>rw [g.int_inv]; rfl
  | str _=>rw [g.str_inv]; rfl
  | _=>cases f'
 | bl _ =>
  rw [h.bl_inv]
  cases e with
  | non=>rw [g.non_inv]; rfl
  | bl _=>rw [g.bl_inv]; rfl
  | int _=>rw [g.int_inv]; rfl
  | str _=>rw [g.str_inv]; rfl
  | _=>cases f'
 | int _ =>
  rw [h.int_inv]
  cases e with
  | non=>rw [g.non_inv]; rfl
  | bl _=>rw [g.bl_inv]; rfl
  | int _=>rw [g.int_inv]; rfl
  | str _=>rw [g.str_inv]; rfl
  | _=>cases f'
 | str _ =>
  rw [h.str_inv]
  cases e with
  | non=>rw [g.non_inv]; rfl
  | bl _=>rw [g.bl_inv]; rfl
  | int _=>rw [g.int_inv]; rfl
  | str _=>rw [g.str_inv]; rfl
  | _=>cases f'
 | _=>cases f
theorem oV:∀ {ds:List D} {xs:List V},aM K H ds xs→ds.all d3=true→xs.all iB=true
 | [],_,h,_=>by rw [h.nil_inv]; rfl
 | d :: ds,_,h,f=>by
  obtain ⟨x,r,rfl,h1,h2⟩:=h.inv
  rw [List.all_cons,Bool.and_eq_true] at f ⊢
  exact ⟨jb h1 f.1,oV h2 f.2⟩
theorem vS {e:D} {w:V} (g:Has K H e w) (f':d3 e=true):∀ {ds:List D} {xs:List V},aM K H ds xs→ds.all d3=true→inV w xs=inD e ds
 | [],_,h,_=>by rw [h.nil_inv]; rfl
 | d :: ds,_,h,f=>by
  obtain ⟨x,r,rfl,h1,h2⟩:=h.inv
  rw [List.all_cons,Bool.and_eq_true] at f
  show (eqV x w || inV w r)=(eqF d e || inD e ds)
  rw [uk h1 g f.1 f',vS g f' h2 f.2]
theorem oP (hm:HM K H M) {y:D} {v:V} {ds:List D} (h:Has K H y v) (q:wz M y=some ds):∃ p xs,v=.ref p∧(SqL K H p xs∨SqT K H p xs)∧aM K H ds xs:=by
 cases y with
 | tup es =>
  cases q
  obtain ⟨a,xs,rfl,h1,h2⟩:=h.tup_inv
  exact ⟨a,xs,rfl,.inr h1,h2⟩
 | ref a =>
  cases h.ref_inv
  obtain ⟨xs,h1,h2,_⟩:=aR hm q
  exact ⟨a,xs,rfl,.inl h1,h2⟩
 | rl es =>
  cases q
  obtain ⟨a,xs,rfl,h1,h2⟩:=h.rl_inv
  exact ⟨a,xs,rfl,.inl h1.sq,h2⟩
 | _=>cases q
end
section
variable {X:Cx} {H:Hp} {M:Mp}
theorem ur (op:CmpOp) (hu:X.A.units + 9 < cLine):OpR X (compareOp op) (R3 X.K (zr op)):=by
 intro pins s σ H vx vy v u Q' I rx ry h
 obtain ⟨x,y,M,Q,hx,hy,hm,q,k⟩:=h
 have bk:∀ b,Q (.bl b) M→EP X pins σ Q' (.bool b) s:=fun b q=>⟨.bl b,H,I,rfl,k _ _ _ _ .bl hm .refl q⟩
 have inn:∀ neg:Bool,((wz M y).elim False fun ds=>d3 x=true∧ds.all d3=true∧Q (.bl (if neg then !inD x ds else inD x ds)) M)→rIn X.K neg vx vy H Q':=fun neg q=>by
  obtain ⟨ds,e,f1,f2,q⟩:=bv q
  obtain ⟨p,xs,rfl,h1,h2⟩:=oP hm hy e
  refine ⟨p,xs,rfl,h1,jb hx f1,oV h2 f2,?_⟩
  rw [vS hx f1 h2 f2]
  exact k _ _ _ _ .bl hm .refl q
 cases op with
 | Eq =>
  obtain ⟨b,e,q⟩:=bv q
  exact (oH I hm 9 X.A x y b vx vy v u hu e hx hy rx ry).1 _ _ _ _ (bk b q)
 | NotEq =>
  obtain ⟨b,e,q⟩:=bv q
  exact (oH I hm 9 X.A x y b vx vy v u hu e hx hy rx ry).2.2 _ _ _ _ (bk _ q)
 | Lt =>
  cases x <;> first | exact q.elim | skip
  cases y <;> first | exact q.elim | skip
  cases hx.int_inv; cases hy.int_inv
  exact B4 pins s σ H _ _ v u Q' I rx ry ⟨_,_,rfl,rfl,k _ _ _ _ .bl hm .refl q⟩
 | LtE =>
  cases x <;> first | exact q.elim | skip
  cases y <;> first | exact q.elim | skip
  cases hx.int_inv; cases hy.int_inv
  exact B6 pins s σ H _ _ v u Q' I rx ry ⟨_,_,rfl,rfl,k _ _ _ _ .bl hm .refl q⟩
 | Gt =>
  cases x <;> first | exact q.elim | skip
  cases y <;> first | exact q.elim | skip
  cases hx.int_inv; cases hy.int_inv
  exact BV pins s σ H _ _ v u Q' I rx ry ⟨_,_,rfl,rfl,k _ _ _ _ .bl hm .refl q⟩
 | GtE =>
  cases x <;> first | exact q.elim | skip
  cases y <;> first | exact q.elim | skip
  cases hx.int_inv; cases hy.int_inv
  exact B8 pins s σ H _ _ v u Q' I rx ry ⟨_,_,rfl,rfl,k _ _ _ _ .bl hm .refl q⟩
 | Is =>
  cases y <;> first | exact q.elim | skip
  cases hy.non_inv
  refine Bq pins s σ H _ _ v u Q' I rx ry ⟨rfl,k _ _ _ _ ?_ hm .refl q⟩
  cases x with
  | non=>rw [hx.non_inv]; exact .bl
  | bl _=>rw [hx.bl_inv]; exact .bl
  | int _=>rw [hx.int_inv]; exact .bl
  | str _=>rw [hx.str_inv]; exact .bl
  | tup _=>obtain ⟨a,xs,rfl,_⟩:=hx.tup_inv; exact .bl
  | ref _=>rw [hx.ref_inv]; exact .bl
  | ty _=>rw [hx.ty_inv]; exact .bl
  | rl _=>obtain ⟨a,xs,rfl,_⟩:=hx.rl_inv; exact .bl
 | IsNot =>
  cases y <;> first | exact q.elim | skip
  cases hy.non_inv
  refine yl pins s σ H _ _ v u Q' I rx ry ⟨rfl,k _ _ _ _ ?_ hm .refl q⟩
  cases x with
  | non=>rw [hx.non_inv]; exact .bl
  | bl _=>rw [hx.bl_inv]; exact .bl
  | int _=>rw [hx.int_inv]; exact .bl
  | str _=>rw [hx.str_inv]; exact .bl
  | tup _=>obtain ⟨a,xs,rfl,_⟩:=hx.tup_inv; exact .bl
  | ref _=>rw [hx.ref_inv]; exact .bl
  | ty _=>rw [hx.ty_inv]; exact .bl
  | rl _=>obtain ⟨a,xs,rfl,_⟩:=hx.rl_inv; exact .bl
 | In =>
  have q:inQ false x y M Q:=q
  unfold inQ at q
  split at q
  ·cases hx.str_inv; cases hy.str_inv
   exact uM pins s σ H _ _ v u Q' I rx ry ⟨_,_,rfl,rfl,k _ _ _ _ .bl hm .refl q⟩
  ·exact vm pins s σ H _ _ v u Q' I rx ry (inn false q)
 | NotIn =>
  have q:inQ true x y M Q:=q
  unfold inQ at q
  split at q
  ·cases hx.str_inv; cases hy.str_inv
   exact o9 pins s σ H _ _ v u Q' I rx ry ⟨_,_,rfl,rfl,k _ _ _ _ .bl hm .refl q⟩
  ·exact oS pins s σ H _ _ v u Q' I rx ry (inn true q)
variable {a b c:Expr} {ta tb tc:T3} {pos:Pos}
theorem ba {op:CmpOp} (hu:X.A.units + 9 < cLine) (ha:E3 X a ta) (hb:E3 X b tb) (hm:behindInMarks op b=false:=by first | exact oU _ | with_unfolding_all rfl):E3 X (.Compare a [op] [b] pos) (k3 op ta tb):=PE.mono (yM (ur op hu) ha hb hm) sK
def b3 (t:T3):T3T:=fun δ M Q=>t δ M fun d M1=>match d with | .bl c=>Q c M1 | _=>False
theorem e9 {e:Expr} {t:T3} (h:E3 X e t) (he:∀ whole,isTrue e X.env whole=(do let v ← whole; standAt e.pos; holding [v] (truthy v)):=by intro _; rfl):B3 X e (b3 t):=PT.mono (AX h he) fun σ H Q' ⟨δ,M,Q,hs,hm,ht,k⟩ =>
 ⟨δ,M,_,hs,hm,ht,fun v H1 d M1 hd hm1 e1 q1=>by
  cases d with
  | bl c=>exact ⟨c,hd.bl_inv,k c H1 M1 hm1 e1 q1⟩
  | _=>exact q1.elim⟩
theorem au {op:CmpOp} (hu:X.A.units + 9 < cLine) (ha:E3 X a ta) (hb:E3 X b tb) (hm:behindInMarks op b=false:=by first | exact oU _ | with_unfolding_all rfl):B3 X (.Compare a [op] [b] pos) (b3 (k3 op ta tb)):=PT.mono (pQ (ur op hu) ha hb hm) fun σ H Q' ⟨δ,M,Q,hs,hm,ht,k⟩ =>
 sK σ H _ ⟨δ,M,_,hs,hm,ht,fun v H1 d M1 hd hm1 e1 q1=>by
  cases d with
  | bl c=>exact ⟨c,hd.bl_inv,k c H1 M1 hm1 e1 q1⟩
  | _=>exact q1.elim⟩
end
end L3
namespace L3
open PySem PySem.Spec PyProof.Rows L2
section
variable {X:Cx} {a b c:Expr} {ta tb tc:T3} {pos:Pos} {tA tB:T3T} {rest:List Expr}
def DL (t u:T3T):T3T:=fun δ M Q=>t δ M fun c M1=>if c=true then u δ M1 Q else Q false M1
def or3 (t u:T3T):T3T:=fun δ M Q=>t δ M fun c M1=>if c=true then Q true M1 else u δ M1 Q
def CB (t:T3T):T3T:=fun δ M Q=>t δ M fun c M1=>Q (!c) M1
def W3 (X:Cx) (e:Expr) (t:T3T):Prop:=PW X e (loT X.K t)
theorem PW.mono {X:Cx} {e:Expr} {t t':TT} (h:PW X e t) (m:∀ σ H Q,t' σ H Q→t σ H Q):PW X e t':=fun wh pins s σ H Q I q=>h wh pins s σ H Q I (m σ H Q q)
theorem W3.b3 {e:Expr} {t:T3T} (h:W3 X e t):B3 X e t:=PW.pt h
theorem d4 (h:B3 X a tA):W3 X (.BoolOp .And [a] pos) tA:=yA h
theorem ld (h:B3 X a tA):W3 X (.BoolOp .Or [a] pos) tA:=As h
theorem fv (ha:B3 X a tA) (hb:W3 X (.BoolOp .And (b :: rest) pos) tB):W3 X (.BoolOp .And (a :: b :: rest) pos) (DL tA tB):=PW.mono (A9 ha hb) fun σ H Q' ⟨δ,M,Q,hs,hm,ht,k⟩ =>
 ⟨δ,M,_,hs,hm,ht,fun c H1 M1 hm1 e1 q1=>by
  cases c with
  | true=>exact (if_pos rfl).mpr ⟨δ,M1,Q,hs.mono e1,hm1,(if_pos rfl).mp q1,fun b H' M' x1 x2 x3=>k b H' M' x1 (e1.trans x2) x3⟩
  | false=>exact (if_neg Bool.false_ne_true).mpr (k false H1 M1 hm1 e1 ((if_neg Bool.false_ne_true).mp q1))⟩
theorem mK (ha:B3 X a tA) (hb:W3 X (.BoolOp .Or (b :: rest) pos) tB):W3 X (.BoolOp .Or (a :: b :: rest) pos) (or3 tA tB):=PW.mono (Cm ha hb) fun σ H Q' ⟨δ,M,Q,hs,hm,ht,k⟩ =>
 ⟨δ,M,_,hs,hm,ht,fun c H1 M1 hm1 e1 q1=>by
  cases c with
  | true=>exact (if_pos rfl).mpr (k true H1 M1 hm1 e1 ((if_pos rfl).mp q1))
  | false=>exact (if_neg Bool.false_ne_true).mpr ⟨δ,M1,Q,hs.mono e1,hm1,(if_neg Bool.false_ne_true).mp q1,fun b H' M' x1 x2 x3=>k b H' M' x1 (e1.trans x2) x3⟩⟩
theorem fW (ha:B3 X a tA):B3 X (.UnaryOp .Not a pos) (CB tA):=PT.mono (A5 ha) fun σ H Q' ⟨δ,M,Q,hs,hm,ht,k⟩=>⟨δ,M,_,hs,hm,ht,fun c H1 M1 hm1 e1 q1=>k _ H1 M1 hm1 e1 q1⟩
def BZ (ta tb:T3):T3:=fun δ M Q=>ta δ M fun d M1=>match d with | .bl c=>if c=true then tb δ M1 Q else Q (.bl false) M1 | _=>False
def Dy (ta tb:T3):T3:=fun δ M Q=>ta δ M fun d M1=>match d with | .bl c=>if c=true then Q (.bl true) M1 else tb δ M1 Q | _=>False
theorem cV {op} (h:E3 X a ta):E3 X (.BoolOp op [a] pos) ta:=AK h
theorem dB (ha:E3 X a ta) (hb:E3 X (.BoolOp .And (b :: rest) pos) tb):E3 X (.BoolOp .And (a :: b :: rest) pos) (BZ ta tb):=PE.mono (A6 ha hb) fun σ H Q' ⟨δ,M,Q,hs,hm,ht,k⟩ =>
 ⟨δ,M,_,hs,hm,ht,fun v H1 d M1 hd hm1 e1 q1=>by
  cases d with
  | bl c =>
   refine ⟨c,hd.bl_inv,?_⟩
   cases c with
   | true=>exact (if_pos rfl).mpr ⟨δ,M1,Q,hs.mono e1,hm1,(if_pos rfl).mp q1,eZ e1 k⟩
   | false=>exact (if_neg Bool.false_ne_true).mpr (k _ H1 _ M1 .bl hm1 e1 ((if_neg Bool.false_ne_true).mp q1))
  | _=>exact q1.elim⟩
theorem uh (ha:E3 X a ta) (hb:E3 X (.BoolOp .Or (b :: rest) pos) tb):E3 X (.BoolOp .Or (a :: b :: rest) pos) (Dy ta tb):=PE.mono (CV ha hb) fun σ H Q' ⟨δ,M,Q,hs,hm,ht,k⟩ =>
 ⟨δ,M,_,hs,hm,ht,fun v H1 d M1 hd hm1 e1 q1=>by
  cases d with
  | bl c =>
   refine ⟨c,hd.bl_inv,?_⟩
   cases c with
   | true=>exact (if_pos rfl).mpr (k _ H1 _ M1 .bl hm1 e1 ((if_pos rfl).mp q1))
   | false=>exact (if_neg Bool.false_ne_true).mpr ⟨δ,M1,Q,hs.mono e1,hm1,(if_neg Bool.false_ne_true).mp q1,eZ e1 k⟩
  | _=>exact q1.elim⟩
def if3 (t:T3T) (ta tb:T3):T3:=fun δ M Q=>t δ M fun c M1=>if c=true then ta δ M1 Q else tb δ M1 Q
theorem Cr (hc:B3 X c tA) (ha:E3 X a ta) (hb:E3 X b tb):E3 X (.IfExp c a b pos) (if3 tA ta tb):=PE.mono (vv hc ha hb) fun σ H Q' ⟨δ,M,Q,hs,hm,ht,k⟩ =>
 ⟨δ,M,_,hs,hm,ht,fun c H1 M1 hm1 e1 q1=>by
  cases c with
  | true=>exact (if_pos rfl).mpr ⟨δ,M1,Q,hs.mono e1,hm1,(if_pos rfl).mp q1,eZ e1 k⟩
  | false=>exact (if_neg Bool.false_ne_true).mpr ⟨δ,M1,Q,hs.mono e1,hm1,(if_neg Bool.false_ne_true).mp q1,eZ e1 k⟩⟩
def ixD (x y:D) (M:Mp) (Q:DK):Prop:=match x,y with
 | .tup ds,.int i=>(atI ds i).elim False fun d=>Q d M
 | .ref a,.int i=>(lstM M a).elim False fun ds=>(atI ds i).elim False fun d=>Q d M
 | .rl ds,.int i=>(atI ds i).elim False fun d=>Q d M
 | .str z,.int i=>z.length≤sizeLine∧(atI z.cps.toList i).elim False fun c=>Q (.str ⟨#[c]⟩) M
 | _,_=>False
def i3 (ta tb:T3):T3:=fun δ M Q=>ta δ M fun x M1=>tb δ M1 fun y M2=>ixD x y M2 Q
theorem pV {K:PySem.W.Frag} {H:Hp} {ds:List D} {xs:List V} {i:Int} {d:D} (h:aM K H ds xs) (e:atI ds i=some d):∃ v,atI xs i=some v∧Has K H d v:=by
 unfold atI at e ⊢
 rw [← h.length]
 cases q:ixN ds.length i with
 | none=>rw [q] at e; cases e
 | some j =>
  rw [q] at e
  exact h.get e
theorem ix3:IxR X (R3 X.K ixD):=by
 intro value slice pins s σ H vx vy v u Q' I rx ry h hs
 obtain ⟨x,y,M,Q,hx,hy,hm,q,k⟩:=h
 unfold ixD at q
 split at q
 ·obtain ⟨d,e,q⟩:=bv q
  obtain ⟨p,xs,rfl,h1,h2⟩:=hx.tup_inv
  cases hy.int_inv
  obtain ⟨w,e1,e2⟩:=pV h2 e
  exact Bx value slice pins s σ H _ _ v u Q' I rx ry ⟨p,xs,_,w,rfl,rfl,h1,e1,k _ _ _ _ e2 hm .refl q⟩ hs
 ·obtain ⟨ds,e0,q⟩:=bv q
  obtain ⟨d,e,q⟩:=bv q
  cases hx.ref_inv
  cases hy.int_inv
  obtain ⟨xs,h1,h2,_⟩:=aR hm e0
  obtain ⟨w,e1,e2⟩:=pV h2 e
  exact tQ value slice pins s σ H _ _ v u Q' I rx ry ⟨_,xs,_,w,rfl,rfl,h1,e1,k _ _ _ _ e2 hm .refl q⟩ hs
 ·obtain ⟨d,e,q⟩:=bv q
  obtain ⟨p,xs,rfl,h1,h2⟩:=hx.rl_inv
  cases hy.int_inv
  obtain ⟨w,e1,e2⟩:=pV h2 e
  exact tQ value slice pins s σ H _ _ v u Q' I rx ry ⟨p,xs,_,w,rfl,rfl,h1.sq,e1,k _ _ _ _ e2 hm .refl q⟩ hs
 ·obtain ⟨q1,q⟩:=q
  obtain ⟨c,e,q⟩:=bv q
  cases hx.str_inv
  cases hy.int_inv
  exact BI value slice pins s σ H _ _ v u Q' I rx ry ⟨_,_,c,rfl,rfl,q1,e,k _ _ _ _ .str hm .refl q⟩ hs
 ·exact q.elim
theorem aA (ha:E3 X a ta) (hb:E3 X b tb) (hs:pI b:=by exact fun _ _=>rfl):E3 X (.Subscript a b pos) (i3 ta tb):=PE.mono (An ix3 ha hb hs) sK
def ie (ds:List D) (lo hi:Option Int):List D:=(ds.drop (HT.sIx ds.length 0 lo)).take (HT.sIx ds.length ds.length hi - HT.sIx ds.length 0 lo)
theorem pk {K:PySem.W.Frag} {H:Hp} {ds:List D} {xs:List V} {l h:Option Int} (q:aM K H ds xs):aM K H (ie ds l h) (lC xs l h):=by
 unfold ie lC
 rw [q.length]
 exact (q.drop _).take _
abbrev T3O:=DSt→Mp→(Option Int→Mp→Prop)→Prop
def loO (K:PySem.W.Frag) (t:T3O):TO:=fun σ H Q'=>∃ δ M Q,St3 K H σ δ∧HM K H M∧t δ M Q∧∀ o H' M',HM K H' M'→bg K H H'→Q o M'→Q' o H'
def O3 (X:Cx) (e:Option Expr) (t:T3O):Prop:=PO X e (loO X.K t)
def tw:T3O:=fun _ M Q=>Q none M
def z5 (t:T3):T3O:=fun δ M Q=>t δ M fun d M1=>match d with | .int i=>Q (some i) M1 | _=>False
theorem PO.mono {X:Cx} {e:Option Expr} {t t':TO} (h:PO X e t) (m:∀ σ H Q,t' σ H Q→t σ H Q):PO X e t':=fun pins s σ H Q I q=>h pins s σ H Q I (m σ H Q q)
theorem cY:O3 X none tw:=PO.mono zU fun σ H Q' ⟨δ,M,Q,hs,hm,ht,k⟩=>k none H M hm .refl ht
theorem di {e:Expr} {t:T3} (h:E3 X e t):O3 X (some e) (z5 t):=PO.mono (zX h) fun σ H Q' ⟨δ,M,Q,hs,hm,ht,k⟩ =>
 ⟨δ,M,_,hs,hm,ht,fun v H1 d M1 hd hm1 e1 q1=>by
  cases d with
  | int i=>exact ⟨i,hd.int_inv,k (some i) H1 M1 hm1 e1 q1⟩
  | _=>exact q1.elim⟩
def slD (x:D) (lo hi:Option Int) (M:Mp) (Q:DK):Prop:=match x with
 | .tup ds=>Q (.tup (ie ds lo hi)) M
 | .ref a=>(lstM M a).elim False fun ds=>∀ p,M p=none→Q (.ref p) (am M p (.lst (ie ds lo hi)))
 | .rl ds=>∀ p,M p=none→Q (.ref p) (am M p (.lst (ie ds lo hi)))
 | _=>False
def s3 (te:T3) (tl th:T3O):T3:=fun δ M Q=>te δ M fun x M1=>tl δ M1 fun l M2=>th δ M2 fun u M3=>slD x l u M3 Q
def Dr (K:PySem.W.Frag):V→Option Int→Option Int→Hp→VK→Prop:=fun vx l u H Q'=>∃ x M Q,Has K H x vx∧HM K H M∧slD x l u M Q∧Up K H Q' Q
theorem yV {ds:List D} {lo hi:Option Int} (h:HT.sIx ds.length 0 lo=0∧HT.sIx ds.length ds.length hi=ds.length):ie ds lo hi=ds:=by
 unfold ie
 rw [h.1,h.2,List.drop_zero,Nat.sub_zero,List.take_length]
theorem sl3:SlR X (Dr X.K):=by
 intro pins s σ H vx v vl vu l u sl Q' I rx hsl pl pu h
 obtain ⟨x,M,Q,hx,hm,q,k⟩:=h
 cases x with
 | tup ds =>
  have q2:Q (.tup (ie ds l u)) M:=q
  obtain ⟨a,xs,rfl,h1,h2⟩:=hx.tup_inv
  by_cases q1:HT.sIx ds.length 0 l=0∧HT.sIx ds.length ds.length u=ds.length
  ·rw [yV q1] at q2
   exact AF pins s σ H _ v vl vu l u sl Q' I rx hsl pl pu ⟨a,xs,rfl,h1,by rw [← h2.length]; exact q1,k _ _ _ _ hx hm .refl q2⟩
  refine BA pins s σ H _ v vl vu l u sl Q' I rx hsl pl pu ⟨a,xs,rfl,h1,by rw [← h2.length]; exact q1,fun p hp=>?_⟩
  have e:bg X.K H (upd H p (.tup (lC xs l u))):=.new hp
  exact k _ _ _ _ (.tup (.of aN) ((pk h2).mono e)) (hm.add hp) e q2
 | ref a =>
  obtain ⟨ds,e0,q⟩:=bv q
  cases hx.ref_inv
  obtain ⟨xs,h1,h2,_⟩:=aR hm e0
  refine tM pins s σ H _ v vl vu l u sl Q' I rx hsl pl pu ⟨a,xs,rfl,h1,fun p hp=>?_⟩
  have e:bg X.K H (upd H p (.lst (lC xs l u))):=.new hp
  exact k _ _ _ _ .ref (hm.new (c:=.lst (ie ds l u)) hp ⟨_,aN,(pk h2).mono e⟩) e (q p (hm.fresh hp))
 | rl ds =>
  obtain ⟨a,xs,rfl,h1,h2⟩:=hx.rl_inv
  refine tM pins s σ H _ v vl vu l u sl Q' I rx hsl pl pu ⟨a,xs,rfl,h1.sq,fun p hp=>?_⟩
  have e:bg X.K H (upd H p (.lst (lC xs l u))):=.new hp
  exact k _ _ _ _ .ref (hm.new (c:=.lst (ie ds l u)) hp ⟨_,aN,(pk h2).mono e⟩) e (q p (hm.fresh hp))
 | _=>exact q.elim
theorem cq {e:Expr} {te:T3} {lo hi:Option Expr} {tl th:T3O} {p2:Pos} (he:E3 X e te) (hl:O3 X lo tl) (hu:O3 X hi th):E3 X (.Subscript e (.Slice lo hi none p2) pos) (s3 te tl th):=PE.mono (xw sl3 he hl hu) fun σ H Q' ⟨δ,M,Q,hs,hm,ht,k⟩ =>
 ⟨δ,M,_,hs,hm,ht,fun v H1 x M1 hx hm1 e1 q1=>⟨δ,M1,_,hs.mono e1,hm1,q1,fun l H2 M2 hm2 e2 q2=>⟨δ,M2,_,hs.mono (e1.trans e2),hm2,q2,fun u H3 M3 hm3 e3 q3=>⟨x,M3,Q,hx.mono (e2.trans e3),hm3,q3,eZ (e1.trans (e2.trans e3)) k⟩⟩⟩⟩
def cO:T3A:=fun _ M Q=>Q [] M
def cz (ta:T3) (tr:T3A):T3A:=fun δ M Q=>ta δ M fun x M1=>tr δ M1 fun xs M2=>Q (x :: xs) M2
theorem ag:A3 X [] cO:=PA.mono Av fun σ H Q' ⟨δ,M,Q,hs,hm,ht,k⟩=>k [] H [] M .nil hm .refl ht
theorem ae {e:Expr} {es:List Expr} {te:T3} {t:T3A} (ha:E3 X e te) (hr:A3 X es t) (hs:starEach (e :: es) X.env=(false,eval e X.env) :: starEach es X.env:=by rfl):A3 X (e :: es) (cz te t):=PA.mono (x8 ha hr hs) fun σ H Q' ⟨δ,M,Q,hs,hm,ht,k⟩ =>
 ⟨δ,M,_,hs,hm,ht,fun v H1 x M1 hx hm1 e1 q1=>⟨δ,M1,_,hs.mono e1,hm1,q1,fun vs H2 xs M2 hxs hm2 e2 q2=>k _ H2 _ M2 (.cons (hx.mono e2) hxs) hm2 (e1.trans e2) q2⟩⟩
def AO (t:T3A):T3:=fun δ M Q=>t δ M fun ds M1=>ds.length≤sizeLine∧Q (.tup ds) M1
def DM (t:T3A):T3:=fun δ M Q=>t δ M fun ds M1=>ds.length≤sizeLine∧∀ p,M1 p=none→Q (.ref p) (am M1 p (.lst ds))
theorem aI {x1} {es:List Expr} {t:T3A} (h:A3 X es t):E3 X (.Tuple es x1 pos) (AO t):=PE.mono (AS h) fun σ H Q' ⟨δ,M,Q,hs,hm,ht,k⟩ =>
 ⟨δ,M,_,hs,hm,ht,fun vs H1 ds M1 hds hm1 e1 q1=>⟨by rw [← hds.length]; exact q1.1,fun p hp=>by
  have e:bg X.K H1 (upd H1 p (.tup vs)):=.new hp
  exact k _ _ _ M1 (.tup (.of aN) (hds.mono e)) (hm1.add hp) (e1.trans e) q1.2⟩⟩
theorem bY {es:List Expr} {t:T3A} (h:A3 X es t):E3 X (.List es pos) (DM t):=PE.mono (BP h) fun σ H Q' ⟨δ,M,Q,hs,hm,ht,k⟩ =>
 ⟨δ,M,_,hs,hm,ht,fun vs H1 ds M1 hds hm1 e1 q1=>⟨by rw [← hds.length]; exact q1.1,fun p hp=>by
  have e:bg X.K H1 (upd H1 p (.lst vs)):=.new hp
  exact k _ _ _ _ .ref (hm1.new (c:=.lst ds) hp ⟨_,aN,hds.mono e⟩) (e1.trans e) (q1.2 p (hm1.fresh hp))⟩⟩
def dw (t u:T3S):T3S:=fun D δ M=>t { D with nx:=u D } δ M
def nx3:T3S:=fun D δ M=>D.nx δ M
theorem ay:Ss3 X [] nx3:=PSs.mono yN fun D' σ H ⟨δ,M,D,hs,hm,ht,k1,k2,k3,k4⟩=>k1 σ H δ M hs hm .refl rfl ht
theorem ah {st:Stmt} {rest:List Stmt} {t u:T3S} (h1:S3 X st t) (h2:Ss3 X rest u):Ss3 X (st :: rest) (dw t u):=PSs.mono (vp h1 h2) fun D' σ H ⟨δ,M,D,hs,hm,ht,k1,k2,k3,k4⟩ =>
 ⟨δ,M,{ D with nx:=u D },hs,hm,ht,fun σ1 H1 δ1 M1 hs1 hm1 e1 l1 q1=>⟨δ1,M1,D,hs1,hm1,q1,fun σ' H' δ' M' x1 x2 x3 x4 x5=>k1 σ' H' δ' M' x1 x2 (e1.trans x3) (x4.trans l1) x5,fun v H' d M' x1 x2 x3 x4=>k2 v H' d M' x1 x2 (e1.trans x3) x4,
  fun σ' H' δ' M' x1 x2 x3 x4 x5=>k3 σ' H' δ' M' x1 x2 (e1.trans x3) (x4.trans l1) x5,fun σ' H' δ' M' x1 x2 x3 x4 x5=>k4 σ' H' δ' M' x1 x2 (e1.trans x3) (x4.trans l1) x5⟩,k2,k3,k4⟩
theorem ai {st:Stmt} {t:T3S} (h1:S3 X st t):Ss3 X [st] t:=PSs.mono (tD h1) fun D' σ H h=>h
def v1 (te:T3):T3S:=fun D δ M=>te δ M fun _ M1=>D.nx δ M1
theorem aC {e:Expr} {te:T3} (he:E3 X e te) (hsw:swapsWith e none pos.line X.env=pure false:=by rfl):S3 X (.Expr e pos) (v1 te):=PS.mono (zF he hsw) fun D' σ H ⟨δ,M,D,hs,hm,ht,k1,k2,k3,k4⟩ =>
 ⟨δ,M,_,hs,hm,ht,fun v H1 d M1 hd hm1 e1 q1=>k1 σ H1 δ M1 (hs.mono e1) hm1 e1 rfl q1⟩
def AJ (te:T3):T3S:=fun D δ M=>te δ M D.rt
theorem aw {e:Expr} {te:T3} (he:E3 X e te):S3 X (.Return (some e) pos) (AJ te):=PS.mono (AA he) fun D' σ H ⟨δ,M,D,hs,hm,ht,k1,k2,k3,k4⟩=>⟨δ,M,_,hs,hm,ht,fun v H1 d M1 hd hm1 e1 q1=>k2 v H1 d M1 hd hm1 e1 q1⟩
def vH (c:T3T) (t u:T3S):T3S:=fun D δ M=>c δ M fun b M1=>if b=true then t D δ M1 else u D δ M1
theorem aF {c:Expr} {as bs:List Stmt} {tc:T3T} {t u:T3S} (hc:B3 X c tc) (ha:Ss3 X as t) (hb:Ss3 X bs u):S3 X (.If c as bs pos) (vH tc t u):=PS.mono (C4 hc ha hb) fun D' σ H ⟨δ,M,D,hs,hm,ht,k1,k2,k3,k4⟩ =>
 ⟨δ,M,_,hs,hm,ht,fun b H1 M1 hm1 e1 q1=>by
  have up:∀ t:T3S,t D δ M1→loS X.K t D' σ H1:=fun t q=>⟨δ,M1,D,hs.mono e1,hm1,q,fun σ' H' δ' M' x1 x2 x3 x4 x5=>k1 σ' H' δ' M' x1 x2 (e1.trans x3) x4 x5,fun v H' d M' x1 x2 x3 x4=>k2 v H' d M' x1 x2 (e1.trans x3) x4,
   fun σ' H' δ' M' x1 x2 x3 x4 x5=>k3 σ' H' δ' M' x1 x2 (e1.trans x3) x4 x5,fun σ' H' δ' M' x1 x2 x3 x4 x5=>k4 σ' H' δ' M' x1 x2 (e1.trans x3) x4 x5⟩
  cases b with
  | true=>exact (if_pos rfl).mpr (up t ((if_pos rfl).mp q1))
  | false=>exact (if_neg Bool.false_ne_true).mpr (up u ((if_neg Bool.false_ne_true).mp q1))⟩
def Bo:T3S:=fun _ _ _=>False
theorem bz {st:Stmt}:S3 X st Bo:=PS.mono vC fun D' σ H ⟨δ,M,D,hs,hm,ht,_⟩=>ht
abbrev T3G:=D→DSt→Mp→(DSt→Mp→Prop)→Prop
def loG (K:PySem.W.Frag) (g:T3G):TG:=fun v σ H Q'=>∃ d δ M Q,Has K H d v∧St3 K H σ δ∧HM K H M∧g d δ M Q∧∀ σ' H' δ' M',St3 K H' σ' δ'→HM K H' M'→bg K H H'→σ'.length=σ.length→Q δ' M'→Q' σ' H'
def G3 (X:Cx) (e:Expr) (g:T3G):Prop:=PG X e (loG X.K g)
theorem PG.monoL {X:Cx} {e:Expr} {t t':TG} (h:PG X e t) (m:∀ v σ H Q,σ.length=X.N.length→t' v σ H Q→t v σ H Q):PG X e t':=fun pins s σ H v u Q I r q=>h pins s σ H v u Q I r (m v σ H Q I.len q)
def fq (i:Nat):T3G:=fun d δ M Q=>Q (δ.set i (some d)) M
theorem aB {i:Nat} {x:Str} (hN:X.N.Nodup) (hi:X.N[i]?=some x) (hx:Loc X.env.scope x) (hf:X.fn x=true∨X.env.scope.names.lookup x=some .local:=by first | exact .inl rfl | exact .inr rfl | assumption):G3 X (.Name x pos) (fq i) :=
 PG.monoL (yc hN hi hx hf) fun v σ H Q' hl ⟨d,δ,M,Q,hd,hs,hm,ht,k⟩=>k _ H _ M (hs.set hd (by rw [hl]; exact (List.getElem?_eq_some_iff.mp hi).1)) hm .refl (by simp) ht
abbrev qh:=List D→DSt→Mp→(DSt→Mp→Prop)→Prop
def Dm (K:PySem.W.Frag) (g:qh):TGs:=fun vs σ H Q'=>∃ ds δ M Q,aM K H ds vs∧St3 K H σ δ∧HM K H M∧g ds δ M Q∧∀ σ' H' δ' M',St3 K H' σ' δ'→HM K H' M'→bg K H H'→σ'.length=σ.length→Q δ' M'→Q' σ' H'
def Gs3 (X:Cx) (es:List Expr) (g:qh):Prop:=PGs X es (Dm X.K g)
theorem PGs.mono {X:Cx} {e:List Expr} {t t':TGs} (h:PGs X e t) (m:∀ v σ H Q,t' v σ H Q→t v σ H Q):PGs X e t':=fun pins s σ H v u Q I r q=>h pins s σ H v u Q I r (m v σ H Q q)
theorem PG.mono {X:Cx} {e:Expr} {t t':TG} (h:PG X e t) (m:∀ v σ H Q,t' v σ H Q→t v σ H Q):PG X e t':=fun pins s σ H v u Q I r q=>h pins s σ H v u Q I r (m v σ H Q q)
def Ag:qh:=fun ds δ M Q=>match ds with | []=>Q δ M | _=>False
def xS (t:T3G) (u:qh):qh:=fun ds δ M Q=>match ds with | d :: r=>t d δ M fun δ' M'=>u r δ' M' Q | []=>False
theorem dm:Gs3 X [] Ag:=PGs.mono zt fun vs σ H Q' ⟨ds,δ,M,Q,hd,hs,hm,ht,k⟩=>by
 cases ds with
 | nil=>exact ⟨hd.nil_inv,k σ H δ M hs hm .refl rfl ht⟩
 | cons _ _=>exact ht.elim
theorem aT {e:Expr} {es:List Expr} {t:T3G} {u:qh} (h1:G3 X e t) (h2:Gs3 X es u) (hs:(assignEach (e :: es) X.env).map (·.2)=assign e X.env :: (assignEach es X.env).map (·.2):=by rfl):Gs3 X (e :: es) (xS t u) :=
 PGs.mono (wt h1 h2 hs) fun vs σ H Q' ⟨ds,δ,M,Q,hd,hs,hm,ht,k⟩=>by
 cases ds with
 | nil=>exact ht.elim
 | cons d r =>
  obtain ⟨x,xr,rfl,hx,hr⟩:=hd.inv
  exact ⟨x,xr,rfl,d,δ,M,_,hx,hs,hm,ht,fun σ1 H1 δ1 M1 hs1 hm1 e1 l1 q1=>⟨r,δ1,M1,Q,hr.mono e1,hs1,hm1,q1,fun σ' H' δ' M' x1 x2 x3 x4 x5=>k σ' H' δ' M' x1 x2 (e1.trans x3) (x4.trans l1) x5⟩⟩
def BY (n:Nat) (t:qh):T3G:=fun d δ M Q=>match d with | .tup ds=>ds.length=n∧t ds δ M Q | _=>False
theorem d9 {es:List Expr} {k:Nat} {t:qh} {n:Nat} (hc:X.calm=true) (h:Gs3 X es t) (hn:(assignEach es X.env).length=n:=by rfl) (hst:(assignEach es X.env).findIdx? (·.1)=none:=by rfl):G3 X (.Tuple es k pos) (BY n t) :=
 PG.mono (Bs hc h hn hst) fun v σ H Q' ⟨d,δ,M,Q,hd,hs,hm,ht,k⟩=>by
 cases d with
 | tup ds =>
  obtain ⟨a,xs,rfl,h1,h2⟩:=hd.tup_inv
  exact ⟨a,xs,rfl,h1,by rw [← h2.length]; exact ht.1,ds,δ,M,Q,h2,hs,hm,ht.2,k⟩
 | _=>exact ht.elim
def jW (te:T3) (g:T3G):T3S:=fun D δ M=>te δ M fun x M1=>g x δ M1 D.nx
theorem Ay {tg e:Expr} {te:T3} {g:T3G} (he:E3 X e te) (hg:G3 X tg g) (hs:swapsWithSole [tg] e pos.line X.env=pure false:=by rfl) (hw:swappedStores [tg] e X.env=pure none:=by rfl)
  (h1:(assignEach [tg] X.env).map (·.2)=[assign tg X.env]:=by rfl):S3 X (.Assign [tg] e pos) (jW te g):=PS.mono (BC he hg hs hw h1) fun D' σ H ⟨δ,M,D,hs,hm,ht,k1,k2,k3,k4⟩ =>
 ⟨δ,M,_,hs,hm,ht,fun v H1 d M1 hd hm1 e1 q1=>⟨d,δ,M1,_,hd,hs.mono e1,hm1,q1,fun σ' H' δ' M' x1 x2 x3 x4 x5=>k1 σ' H' δ' M' x1 x2 (e1.trans x3) x4 x5⟩⟩
theorem aE {i:Nat} {x:Str} {e:Expr} {te:T3} {pos':Pos} (hN:X.N.Nodup) (hi:X.N[i]?=some x) (hx:Loc X.env.scope x) (he:E3 X e te) (hsw:swapsWith e (some (.Name x pos')) pos.line X.env=pure false:=by rfl)
  (hf:X.fn x=true∨X.env.scope.names.lookup x=some .local:=by first | exact .inl rfl | exact .inr rfl | assumption):S3 X (.Assign [.Name x pos'] e pos) (jW te (fq i)):=PS.monoL (BB hN hi hx he hsw hf) fun D' σ H hl ⟨δ,M,D,hs,hm,ht,k1,k2,k3,k4⟩ =>
 ⟨δ,M,_,hs,hm,ht,fun v H1 d M1 hd hm1 e1 q1=>k1 _ H1 _ M1 ((hs.mono e1).set hd (by rw [hl]; exact (List.getElem?_eq_some_iff.mp hi).1)) hm1 e1 (by simp) q1⟩
end
end L3
namespace L3
open PySem PySem.Spec PyProof.Rows L2
abbrev Sp3:=List D→Mp→DK→Prop
def up3 (K:PySem.W.Frag) (sp:Sp3):Sp:=fun vs H Q' _=>∃ ds M Q,aM K H ds vs∧HM K H M∧sp ds M Q∧Up K H Q' Q
def gJ (N:List Str) (ds:List D):DSt:=ds.map some ++ List.replicate (N.length - ds.length) none
theorem nY {K:PySem.W.Frag} {H:Hp} {N:List Str} {ds:List D} {vs:List V} (h:aM K H ds vs):St3 K H (L2.ig N vs) (gJ N ds):=fun i d q=>by
 unfold gJ at q
 unfold L2.ig
 by_cases hi:i < ds.length
 ·rw [List.getElem?_append_left (by simpa using hi),List.getElem?_map] at q
  cases e:ds[i]? with
  | none=>rw [e] at q; cases q
  | some d' =>
   rw [e] at q
   cases q
   obtain ⟨v,e1,e2⟩:=h.get e
   refine ⟨v,?_,e2⟩
   rw [List.getElem?_append_left (by rw [List.length_map,← h.length]; exact hi),List.getElem?_map,e1]
   rfl
 ·rw [List.getElem?_append_right (by simpa using hi),List.getElem?_replicate] at q
  split at q <;> cases q
section
variable {P:Program} {w:World} {K:PySem.W.Frag} {mg:Str→Option Value} {base:Heap}
abbrev Fn3 (P:Program) (w:World) (K:PySem.W.Frag) (mg:Str→Option Value) (base:Heap) (k:Nat) (f:Addr) (fd:FuncData) (ps:List Str) (sp:Sp3):Prop:=gx P w K mg base CX0 k f fd ps (up3 K sp)
end
section
variable {X:Cx} {k:Nat} {f C:Addr} {fd:FuncData} {ps:List Str} {sp:Sp3} {x m fn:Str} {p pos apos:Pos} {e o:Expr} {es:List Expr} {ta:T3} {t:T3A}
def gl (sp:Sp3) (t:T3A):T3:=fun δ M Q=>t δ M fun ds M1=>sp ds M1 Q
theorem zS (F:Fn3 X.prog X.w X.K X.mg X.base k f fd ps sp) (hr:bJ k X.A) (hg:Gl X x) (hm:X.mg x=some (.ref f)) (hk:PySem.W.keepIn X.K (.ref f)=true) (hb:dP X.K fd ps []) (ha:A3 X (e :: es) t)
  (hdb:(x == ("__debug__":Str))=false:=by decide) (he:starEach (e :: es) X.env=(false,eval e X.env) :: starEach es X.env:=by rfl) (hpl:(backTo pos (starEach es X.env)).any (·.1)=false:=by rfl) :
  E3 X (.Call (.Name x p) (e :: es) [] pos) (gl sp t):=PE.mono (zO F hr hg hm hk hb .nil (rh (X:=X)) ha hdb he hpl) fun σ H Q' ⟨δ,M,Q,hs,hm,ht,k⟩ =>
 ⟨δ,M,_,hs,hm,ht,fun vs H1 ds M1 hd hm1 e1 q1=>⟨ds,M1,Q,by rw [List.append_nil]; exact hd,hm1,q1,eZ e1 k⟩⟩
def C3 (X:Cx) (f:Value) (r:Sp3):Prop:=jh X f fun vs H Q'=>∃ ds M Q,aM X.K H ds vs∧HM X.K H M∧r ds M Q∧Up X.K H Q' Q
theorem aH {id:String} {r:Sp3} (hc:C3 X (.builtin id) r) (hg:Gl X x) (hm:X.mg x=none) (hv:bootBuiltins x=some (.builtin id)) (ha:A3 X (e :: es) t) (hn:x ≠ "__name__":=by decide) (hdb:(x == ("__debug__":Str))=false:=by decide)
  (he:starEach (e :: es) X.env=(false,eval e X.env) :: starEach es X.env:=by rfl) (hpl:(backTo pos (starEach es X.env)).any (·.1)=false:=by rfl):E3 X (.Call (.Name x p) (e :: es) [] pos) (gl r t) :=
 PE.mono (wD hc hg hm hv ha hn hdb he hpl) fun σ H Q' ⟨δ,M,Q,hs,hm,ht,k⟩=>⟨δ,M,_,hs,hm,ht,fun vs H1 ds M1 hd hm1 e1 q1=>⟨ds,M1,Q,hd,hm1,q1,eZ e1 k⟩⟩
theorem aP {T:String} {r:Sp3} (hc:C3 X (.type T) r) (hg:Gl X x) (hm:X.mg x=none) (hv:bootBuiltins x=some (.type T)) (ha:A3 X (e :: es) t) (hn:x ≠ "__name__":=by decide) (hdb:(x == ("__debug__":Str))=false:=by decide)
  (he:starEach (e :: es) X.env=(false,eval e X.env) :: starEach es X.env:=by rfl) (hpl:(backTo pos (starEach es X.env)).any (·.1)=false:=by rfl):E3 X (.Call (.Name x p) (e :: es) [] pos) (gl r t) :=
 PE.mono (vb hc hg hm hv ha hn hdb he hpl) fun σ H Q' ⟨δ,M,Q,hs,hm,ht,k⟩=>⟨δ,M,_,hs,hm,ht,fun vs H1 ds M1 hd hm1 e1 q1=>⟨ds,M1,Q,hd,hm1,q1,eZ e1 k⟩⟩
def Bd (ds:List D) (M:Mp) (Q:DK):Prop:=match ds with
 | [.str z]=>z.length≤sizeLine∧Q (.int z.length) M
 | [.tup es]=>Q (.int es.length) M
 | [.ref a]=>(lstM M a).elim False fun es=>Q (.int es.length) M
 | [.rl es]=>Q (.int es.length) M
 | _=>False
theorem bN {K:PySem.W.Frag} {H:Hp} {d:D} {vs:List V} (h:aM K H [d] vs):∃ v,vs=[v]∧Has K H d v:=by
 obtain ⟨x,r,rfl,a,b⟩:=h.inv
 rw [b.nil_inv]
 exact ⟨x,rfl,a⟩
theorem s8 {K:PySem.W.Frag} {H:Hp} {d e:D} {vs:List V} (h:aM K H [d,e] vs):∃ v u,vs=[v,u]∧Has K H d v∧Has K H e u:=by
 obtain ⟨x,r,rfl,a,b⟩:=h.inv
 obtain ⟨y,rfl,c⟩:=bN b
 exact ⟨x,y,rfl,a,c⟩
theorem bn:C3 X (.builtin "len") Bd:=by
 intro pins s σ H vs us Q' I rv h
 obtain ⟨ds,M,Q,hd,hm,q,k⟩:=h
 unfold Bd at q
 split at q
 ·obtain ⟨v,rfl,hv⟩:=bN hd
  cases hv.str_inv
  exact oW pins s σ H _ us Q' I rv ⟨_,rfl,q.1,k _ _ _ _ .int hm .refl q.2⟩
 ·obtain ⟨v,rfl,hv⟩:=bN hd
  obtain ⟨a,xs,rfl,h1,h2⟩:=hv.tup_inv
  exact fP pins s σ H _ us Q' I rv ⟨a,xs,rfl,.inr h1,k _ _ _ _ (by rw [← h2.length]; exact .int) hm .refl q⟩
 ·obtain ⟨v,rfl,hv⟩:=bN hd
  obtain ⟨es,e0,q⟩:=bv q
  cases hv.ref_inv
  obtain ⟨xs,h1,h2,_⟩:=aR hm e0
  exact fP pins s σ H _ us Q' I rv ⟨_,xs,rfl,.inl h1,k _ _ _ _ (by rw [← h2.length]; exact .int) hm .refl q⟩
 ·obtain ⟨v,rfl,hv⟩:=bN hd
  obtain ⟨a,xs,rfl,h1,h2⟩:=hv.rl_inv
  exact fP pins s σ H _ us Q' I rv ⟨a,xs,rfl,.inl h1.sq,k _ _ _ _ (by rw [← h2.length]; exact .int) hm .refl q⟩
 ·exact q.elim
def CM (ds:List D) (M:Mp) (Q:DK):Prop:=match ds with
 | [.int i,.int j]=>Q (.int (if j < i then j else i)) M
 | _=>False
theorem BG (hc:X.calm=true):C3 X (.builtin "min") CM:=by
 intro pins s σ H vs us Q' I rv h
 obtain ⟨ds,M,Q,hd,hm,q,k⟩:=h
 unfold CM at q
 split at q
 ·obtain ⟨v,u,rfl,hv,hw⟩:=s8 hd
  cases hv.int_inv; cases hw.int_inv
  exact va hc pins s σ H _ us Q' I rv ⟨_,_,rfl,k _ _ _ _ .int hm .refl q⟩
 ·exact q.elim
def xG (ds:List D) (M:Mp) (Q:DK):Prop:=match ds with
 | [.tup es]=>Q (.tup es) M
 | [.ref a]=>(lstM M a).elim False fun es=>Q (.tup es) M
 | [.rl es]=>Q (.tup es) M
 | _=>False
theorem bU:C3 X (.type "tuple") xG:=by
 intro pins s σ H vs us Q' I rv h
 obtain ⟨ds,M,Q,hd,hm,q,k⟩:=h
 unfold xG at q
 split at q
 ·obtain ⟨v,rfl,hv⟩:=bN hd
  obtain ⟨a,xs,rfl,h1,h2⟩:=id hv.tup_inv
  exact fz pins s σ H _ us Q' I rv ⟨a,xs,rfl,.inr ⟨h1,k _ _ _ _ hv hm .refl q⟩⟩
 ·obtain ⟨v,rfl,hv⟩:=bN hd
  obtain ⟨es,e0,q⟩:=bv q
  cases hv.ref_inv
  obtain ⟨xs,h1,h2,_⟩:=aR hm e0
  refine fz pins s σ H _ us Q' I rv ⟨_,xs,rfl,.inl ⟨h1,fun l hl=>?_⟩⟩
  have e:bg X.K H (upd H l (.tup xs)):=.new hl
  exact k _ _ _ _ (.tup (.of aN) (h2.mono e)) (hm.add hl) e q
 ·obtain ⟨v,rfl,hv⟩:=bN hd
  obtain ⟨a,xs,rfl,h1,h2⟩:=hv.rl_inv
  refine fz pins s σ H _ us Q' I rv ⟨_,xs,rfl,.inl ⟨h1.sq,fun l hl=>?_⟩⟩
  have e:bg X.K H (upd H l (.tup xs)):=.new hl
  exact k _ _ _ _ (.tup (.of aN) (h2.mono e)) (hm.add hl) e q
 ·exact q.elim
def wJ (ds:List D) (M:Mp) (Q:DK):Prop:=match ds with
 | [d]=>(wz M d).elim False fun es=>∀ p,M p=none→Q (.ref p) (am M p (.lst es))
 | _=>False
theorem dH:C3 X (.type "list") wJ:=by
 intro pins s σ H vs us Q' I rv h
 obtain ⟨ds,M,Q,hd,hm,q,k⟩:=h
 unfold wJ at q
 split at q
 ·obtain ⟨v,rfl,hv⟩:=bN hd
  obtain ⟨es,e0,q⟩:=bv q
  obtain ⟨p,xs,rfl,h1,h2⟩:=oP hm hv e0
  refine pN pins s σ H _ us Q' I rv ⟨p,xs,rfl,h1,fun l hl=>?_⟩
  have e:bg X.K H (upd H l (.lst xs)):=.new hl
  exact k _ _ _ _ .ref (hm.new (c:=.lst es) hl ⟨_,aN,h2.mono e⟩) e (q l (hm.fresh hl))
 ·exact q.elim
theorem iC {K:PySem.W.Frag} {H:Hp} {f:Str}:∀ {fs:List (Str × D)} {vs:List (Str × V)},ls K H fs vs→(∀ d,fs.lookup f=some d→∃ v,vs.lookup f=some v∧Has K H d v)∧(fs.lookup f=none→vs.lookup f=none)
 | [],[],_=>⟨fun d e=>by simp at e,fun _=>rfl⟩
 | [],_ :: _,h=>by have:=h.1; simp at this
 | _ :: _,[],h=>by have:=h.1; simp at this
 | (g,d) :: fs,(g',v) :: vs,h=>by
  have h1:g'=g∧vs.map (·.1)=fs.map (·.1):=by
   have:=h.1
   simpa using this
  obtain ⟨x,r,e,a,b⟩:=h.2.inv
  have e':v :: vs.map (·.2)=x :: r:=e
  cases e'
  obtain ⟨i1,i2⟩:=iC (f:=f) (fs:=fs) (vs:=vs) ⟨h1.2,b⟩
  rw [h1.1]
  refine ⟨fun d' e=>?_,fun e=>?_⟩
  ·rw [List.lookup_cons] at e ⊢
   cases q:f == g with
   | true=>rw [q] at e; cases e; exact ⟨v,rfl,a⟩
   | false=>rw [q] at e; exact i1 d' e
  ·rw [List.lookup_cons] at e ⊢
   cases q:f == g with
   | true=>rw [q] at e; cases e
   | false=>rw [q] at e; exact i2 e
theorem sZ {f:Str} {d:D}:∀ {fs:List (Str × D)},fs.lookup f=some d→f∈fs.map (·.1)
 | [],h=>by simp at h
 | (g,e) :: r,h=>by
  rw [List.lookup_cons] at h
  cases q:f == g with
  | true =>
   have z:f=g:=by simpa using q
   rw [z,List.map_cons]
   exact List.mem_cons_self
  | false=>rw [q] at h; simp [sZ h]
def uu (o:Option fB) (F:Addr→List (Str × D)→Prop):Prop:=match o with
 | some (.ins C fs)=>F C fs
 | _=>False
theorem aj {o:Option fB} {F:Addr→List (Str × D)→Prop} {C:Addr} {fs:List (Str × D)} (e:o=some (.ins C fs)) (h:F C fs):uu o F:=by rw [e]; exact h
theorem mq {o:Option fB} {F:Addr→List (Str × D)→Prop} (h:uu o F):∃ C fs,o=some (.ins C fs)∧F C fs:=by
 unfold uu at h
 split at h
 ·exact ⟨_,_,rfl,h⟩
 ·exact h.elim
def xk (f:Str) (ta:T3):T3:=fun δ M Q=>ta δ M fun x M1=>match x with
 | .ref a=>uu (M1 a) fun _ fs=>(fs.lookup f).elim False fun d=>Q d M1
 | _=>False
theorem ap {f:Str} (he:E3 X o ta) (hb:attributeBase o f X.env (eval o X.env)=eval o X.env:=by rfl):E3 X (.Attribute o f pos) (xk f ta):=PE.mono (By he hb) fun σ H Q' ⟨δ,M,Q,hs,hm,ht,k⟩ =>
 ⟨δ,M,_,hs,hm,ht,fun v H1 d M1 hd hm1 e1 q1=>by
  cases d with
  | ref a =>
   cases hd.ref_inv
   obtain ⟨C,fs,e,q1⟩:=mq q1
   obtain ⟨d,e2,q⟩:=bv q1
   obtain ⟨dx,vs,h1,cl,na,fo⟩:=hm1 a _ e
   obtain ⟨v,e3,hv⟩:=(iC fo).1 d e2
   exact ⟨a,C,dx,vs,v,rfl,h1,cl,na f (sZ e2),e3,k v H1 d M1 hv hm1 e1 q⟩
  | _=>exact q1.elim⟩
def gv (f:Str) (v:D):List (Str × D)→List (Str × D)
 | []=>[(f,v)]
 | (g,u) :: r=>if g=f then (g,v) :: r else (g,u) :: gv f v r
theorem tF {K:PySem.W.Frag} {H:Hp} {f:Str} {d:D} {v:V} (hv:Has K H d v):∀ {fs:List (Str × D)} {vs:List (Str × V)},ls K H fs vs→ls K H (gv f d fs) (fD f v vs)
 | [],[],_=>⟨rfl,.cons hv .nil⟩
 | [],_ :: _,h=>by have:=h.1; simp at this
 | _ :: _,[],h=>by have:=h.1; simp at this
 | (g,e) :: fs,(g',u) :: vs,h=>by
  have h1:g'=g∧vs.map (·.1)=fs.map (·.1):=by
   have:=h.1
   simpa using this
  obtain ⟨x,r,e1,a,b⟩:=h.2.inv
  have e':u :: vs.map (·.2)=x :: r:=e1
  cases e'
  obtain ⟨hg,ht⟩:=h1
  subst hg
  rw [show gv f d ((g',e) :: fs)=(if g'=f then (g',d) :: fs else (g',e) :: gv f d fs) from rfl,show fD f v ((g',u) :: vs)=(if g'=f then (g',v) :: vs else (g',u) :: fD f v vs) from rfl]
  by_cases q:g'=f
  ·rw [if_pos q,if_pos q]
   exact ⟨by simpa using ht,.cons hv b⟩
  ·rw [if_neg q,if_neg q]
   obtain ⟨i1,i2⟩:=tF hv (fs:=fs) (vs:=vs) ⟨ht,b⟩
   exact ⟨by simpa using i1,.cons a i2⟩
theorem qX {f:Str} {d:D}:∀ {fs:List (Str × D)} {g:Str},g∈(gv f d fs).map (·.1)→g=f∨g∈fs.map (·.1)
 | [],g,h=>.inl (by simpa [gv] using h)
 | (k,e) :: r,g,h=>by
  rw [show gv f d ((k,e) :: r)=(if k=f then (k,d) :: r else (k,e) :: gv f d r) from rfl] at h
  by_cases q:k=f
  ·rw [if_pos q] at h
   exact .inr (by simpa using h)
  ·rw [if_neg q] at h
   rw [List.map_cons,List.mem_cons] at h
   rcases h with h | h
   ·exact .inr (by simp [h])
   ·rcases qX h with z | z
    ·exact .inl z
    ·exact .inr (by simp; right; simpa using z)
def Cl (K:PySem.W.Frag) (f:Str) (ta tv:T3):T3S:=fun D δ M=>tv δ M fun y M1=>ta δ M1 fun x M2=>match x with
 | .ref a=>uu (M2 a) fun C fs=>fC K C f∧fs.length < 1000∧D.nx δ (am M2 a (.ins C (gv f y fs)))
 | _=>False
theorem aO {f:Str} {value:Expr} {tv:T3} {pos':Pos} (ha:E3 X o ta) (hv:E3 X value tv) (hsw:swapsWith value (some (.Attribute o f pos')) pos.line X.env=pure false:=by rfl):S3 X (.Assign [.Attribute o f pos'] value pos) (Cl X.K f ta tv) :=
 PS.mono (Bz ha hv hsw) fun D' σ H ⟨δ,M,D,hs,hm,ht,k1,k2,k3,k4⟩ =>
 ⟨δ,M,_,hs,hm,ht,fun y H1 dy M1 hy hm1 e1 q1=>⟨δ,M1,_,hs.mono e1,hm1,q1,fun v H2 d M2 hd hm2 e2 q2=>by
  cases d with
  | ref a =>
   cases hd.ref_inv
   obtain ⟨C,fs,e,q2⟩:=mq q2
   obtain ⟨na,hl,q⟩:=q2
   obtain ⟨dx,vs,h1,cl,nn,fo⟩:=hm2 a _ e
   have hlen:vs.length=fs.length:=by have:=congrArg List.length fo.1; simpa using this
   refine ⟨a,C,dx,vs,rfl,h1,cl,na,by omega,?_⟩
   obtain ⟨hm3,e3⟩:=hm2.put (p:=a) (o:=.ins C dx (fD f y vs)) (c:=.ins C (gv f dy fs)) e fun x=>⟨dx,_,aN,cl,fun g hg=>by
    rcases qX hg with z | z
    ·rw [z]; exact na
    ·exact nn g z,tF ((hy.mono e2).mono x) (fo.mono x)⟩
   exact k1 σ _ δ _ (hs.mono (e1.trans (e2.trans e3))) hm3 (e1.trans (e2.trans e3)) rfl q
  | _=>exact q2.elim⟩⟩
def zZ (C:Addr) (sp:Sp3) (t:T3A):T3:=fun δ M Q=>t δ M fun ds M1=>∀ x,M1 x=none→sp (.ref x :: ds) (am M1 x (.ins C [])) fun d M2=>d=.non∧Q (.ref x) M2
theorem xP {K:PySem.W.Frag} {H:Hp} {M:Mp} {xa dx:Addr} (hm:HM K H M) (cl:Cls K C) (h1:H xa=none) (h2:H dx=none) (ne:dx ≠ xa):HM K (upd (upd H dx (.own xa)) xa (.ins C dx [])) (am M xa (.ins C []))∧bg K H (upd (upd H dx (.own xa)) xa (.ins C dx [])):=by
 have h1':upd H dx (.own xa) xa=none:=by rw [aK (Ne.symm ne)]; exact h1
 exact ⟨(hm.add (p:=dx) (o:=.own xa) h2).new h1' ⟨dx,[],aN,cl,fun g hg=>by simp at hg,rfl,.nil⟩,bg.trans (.new h2) (.new h1')⟩
theorem yZ (cl:Cls X.K C) (Mk':Mk X.K C f) (F:Fn3 X.prog X.w X.K X.mg X.base k f fd ps sp) (hr:bJ (k + 1) X.A) (hg:Gl X x) (hm:X.mg x=some (.ref C)) (hb:dP X.K fd ps []) (ha:A3 X (e :: es) t)
  (hdb:(x == ("__debug__":Str))=false:=by decide) (he:starEach (e :: es) X.env=(false,eval e X.env) :: starEach es X.env:=by rfl) (hpl:(backTo pos (starEach es X.env)).any (·.1)=false:=by rfl) :
  E3 X (.Call (.Name x p) (e :: es) [] pos) (zZ C sp t):=PE.mono (yL Mk' F hr hg hm hb .nil (rh (X:=X)) ha hdb he hpl) fun σ H Q' ⟨δ,M,Q,hs,hm,ht,k⟩ =>
 ⟨δ,M,_,hs,hm,ht,fun vs H1 ds M1 hd hm1 e1 q1=>fun xa dx n1 n2 ne=>by
  obtain ⟨hm2,e2⟩:=xP hm1 cl n1 n2 ne
  refine ⟨.ref xa :: ds,_,_,?_,hm2,q1 xa (hm1.fresh n1),fun v H3 d M3 hd3 hm3 e3 q3=>?_⟩
  ·rw [List.append_nil]
   exact .cons .ref (hd.mono e2)
  ·obtain ⟨z,q3⟩:=q3
   subst z
   exact ⟨hd3.non_inv,k _ H3 _ M3 .ref hm3 (e1.trans (e2.trans e3)) q3⟩⟩
def sW (m:Str) (R:Addr→Sp→Prop) (ta:TE) (t:TA):TE:=fun σ H Q=>ta σ H fun x H1=>∃ a C dx fs sp,x=.ref a∧H1 a=some (.ins C dx fs)∧fs.lookup m=none∧R C sp∧t σ H1 fun vs H2=>sp (x :: vs) H2 Q E0
def pP (P:Program) (w:World) (K:PySem.W.Frag) (mg:Str→Option Value) (base:Heap) (k:Nat) (m:Str) (C:Addr) (sp:Sp):Prop:=Cls K C∧∃ f fd ps,AZ K C m f∧gx P w K mg base CX0 k f fd ps sp∧dP K fd ps []
theorem wW {R:Addr→Sp→Prop} {ta:TE} {t:TA} {pl:Sem Bool} (he:PE X o ta) (hR:∀ C sp,R C sp→pP X.prog X.w X.K X.mg X.base k m C sp) (hr:bJ k X.A) (ha:PA X (e :: es) t)
  (hst:starEach (e :: es) X.env=(false,eval e X.env) :: starEach es X.env:=by rfl) (hpl:(backTo pos (starEach es X.env)).any (·.1)=false:=by rfl)
  (ht:eval (.Call (.Attribute o m apos) (e :: es) [] pos) X.env=(do
   let ov ← eval o X.env
   standAt apos.atName
   let (f,first) ← holding [ov] (getMethod ov m pl)
   callWith pos f first (backTo pos (starEach (e :: es) X.env)) (backToKw pos (keywordEach [] X.env))):=by rfl) :
  PE X (.Call (.Attribute o m apos) (e :: es) [] pos) (sW m R ta t):=by
 intro pins s σ H Q I h
 refine PySem.W.methodCall_KW (pl:=pl) (thn (he pins s σ H _ I h) fun u s1 ⟨x,H1,I1,rx,a,C,dx,fs,sp,ex,ea,l,hRC,q⟩=>?_) ht
 obtain ⟨c,f,fd,ps,hm,F,hb⟩:=hR C sp hRC
 subst ex
 obtain rfl:u=Value.ref a:=rx
 refine lE I1 ea c hm l ?_
 refine PySem.W.callWith_K (first:=[.ref a]) (h₀:=X.base) I.ok.mod.kin hm.kp (thn (ha pos pins s1 σ H1 _ I1 q) fun us s2 ⟨vs,H2,I2,r,q2⟩=>⟨I2.kIn,?_⟩) hst hpl
 exact pR (us:=.ref a :: us) (vs:=.ref a :: vs) F hr hb .nil (rh (X:=X)) I2 (.cons rfl r) (by rw [List.append_nil]; exact q2)
theorem uO {R:Addr→Sp→Prop} {ta:TE} {pl:Sem Bool} (he:PE X o ta) (hR:∀ C sp,R C sp→pP X.prog X.w X.K X.mg X.base k m C sp) (hr:bJ k X.A)
  (ht:eval (.Call (.Attribute o m apos) [] [] pos) X.env=(do
   let ov ← eval o X.env
   standAt apos.atName
   let (f,first) ← holding [ov] (getMethod ov m pl)
   callWith pos f first (backTo pos (starEach [] X.env)) (backToKw pos (keywordEach [] X.env))):=by rfl) :
  PE X (.Call (.Attribute o m apos) [] [] pos) (sW m R ta C0):=by
 intro pins s σ H Q I h
 refine PySem.W.methodCall_KW (pl:=pl) (thn (he pins s σ H _ I h) fun u s1 ⟨x,H1,I1,rx,a,C,dx,fs,sp,ex,ea,l,hRC,q⟩=>?_) ht
 obtain ⟨c,f,fd,ps,hm,F,hb⟩:=hR C sp hRC
 subst ex
 obtain rfl:u=Value.ref a:=rx
 refine lE I1 ea c hm l ?_
 exact PySem.W.callWith_K0 (first:=[.ref a]) I1.kIn hm.kp (pR (us:=[.ref a]) (vs:=[.ref a]) F hr hb .nil (rh (X:=X)) I1 (.cons rfl .nil) (by rw [List.append_nil]; exact q))
def qp (m:Str) (R:Addr→Sp3→Prop) (ta:T3) (t:T3A):T3:=fun δ M Q=>ta δ M fun x M1=>match x with
 | .ref a=>uu (M1 a) fun C fs=>fs.lookup m=none∧∃ sp,R C sp∧t δ M1 fun ds M2=>sp (x :: ds) M2 Q
 | _=>False
def upR (K:PySem.W.Frag) (R:Addr→Sp3→Prop):Addr→Sp→Prop:=fun C sp'=>∃ sp,R C sp∧sp'=up3 K sp
theorem ud {R:Addr→Sp3→Prop}:∀ σ H Q',lo X.K (qp m R ta t) σ H Q'→sW m (upR X.K R) (lo X.K ta) (loA X.K t) σ H Q':=fun σ H Q' ⟨δ,M,Q,hs,hm,ht,k⟩ =>
 ⟨δ,M,_,hs,hm,ht,fun v H1 d M1 hd hm1 e1 q1=>by
  cases d with
  | ref a =>
   cases hd.ref_inv
   obtain ⟨C,fs,e,q1⟩:=mq q1
   obtain ⟨hn,sp,hR,q⟩:=q1
   obtain ⟨dx,vs,h1,cl,na,fo⟩:=hm1 a _ e
   exact ⟨a,C,dx,vs,_,rfl,h1,(iC fo).2 hn,⟨sp,hR,rfl⟩,δ,M1,_,hs.mono e1,hm1,q,fun us H2 ds M2 hds hm2 e2 q2=>⟨.ref a :: ds,M2,Q,.cons .ref hds,hm2,q2,eZ (e1.trans e2) k⟩⟩
  | _=>exact q1.elim⟩
theorem yK {R:Addr→Sp3→Prop} {pl:Sem Bool} (he:E3 X o ta) (hR:∀ C sp,R C sp→pP X.prog X.w X.K X.mg X.base k m C (up3 X.K sp)) (hr:bJ k X.A) (ha:A3 X (e :: es) t)
  (hst:starEach (e :: es) X.env=(false,eval e X.env) :: starEach es X.env:=by rfl) (hpl:(backTo pos (starEach es X.env)).any (·.1)=false:=by rfl)
  (ht:eval (.Call (.Attribute o m apos) (e :: es) [] pos) X.env=(do
   let ov ← eval o X.env
   standAt apos.atName
   let (f,first) ← holding [ov] (getMethod ov m pl)
   callWith pos f first (backTo pos (starEach (e :: es) X.env)) (backToKw pos (keywordEach [] X.env))):=by rfl) :
  E3 X (.Call (.Attribute o m apos) (e :: es) [] pos) (qp m R ta t):=PE.mono (wW (R:=upR X.K R) he (fun C sp' ⟨sp,h,z⟩=>by rw [z]; exact hR C sp h) hr ha hst hpl ht) ud
theorem xz {R:Addr→Sp3→Prop} {pl:Sem Bool} (he:E3 X o ta) (hR:∀ C sp,R C sp→pP X.prog X.w X.K X.mg X.base k m C (up3 X.K sp)) (hr:bJ k X.A)
  (ht:eval (.Call (.Attribute o m apos) [] [] pos) X.env=(do
   let ov ← eval o X.env
   standAt apos.atName
   let (f,first) ← holding [ov] (getMethod ov m pl)
   callWith pos f first (backTo pos (starEach [] X.env)) (backToKw pos (keywordEach [] X.env))):=by rfl) :
  E3 X (.Call (.Attribute o m apos) [] [] pos) (qp m R ta cO):=PE.mono (uO (R:=upR X.K R) he (fun C sp' ⟨sp,h,z⟩=>by rw [z]; exact hR C sp h) hr ht) fun σ H Q' h=>by
 obtain ⟨δ,M,Q,hs,hm,ht,k⟩:=ud (t:=cO) σ H Q' h
 refine ⟨δ,M,Q,hs,hm,ht,fun v H' d M' x1 x2 x3 x4=>?_⟩
 obtain ⟨a,C,dx,fs,sp,e1,e2,e3,e4,δ',M'',Q'',y1,y2,y3,y4⟩:=k v H' d M' x1 x2 x3 x4
 exact ⟨a,C,dx,fs,sp,e1,e2,e3,e4,y4 [] H' [] M'' .nil y2 .refl y3⟩
end
end L3
namespace L3
open PySem PySem.Spec PyProof.Rows L2
structure rV (K:PySem.W.Frag) (H1:Hp) (J:It) (ds:List D) (ok:Mp→Prop):Prop where
 go:∀ i H M,i < ds.length→HM K H M→ok M→bg K H1 H→J.go i H
 yld:∀ i d H M x H',ds[i]?=some d→HM K H M→ok M→bg K H1 H→J.yld i H x H'→Has K H' d x∧HM K H' M∧bg K H H'
 stop:∀ H M,HM K H M→ok M→bg K H1 H→J.stop ds.length H
abbrev T3I:=DSt→Mp→(List D→(Mp→Prop)→Mp→Prop)→Prop
def loI (K:PySem.W.Frag) (wi:T3I):TI:=fun σ H R'=>∃ δ M R,St3 K H σ δ∧HM K H M∧wi δ M R∧∀ J H1 ds ok M1,rV K H1 J ds ok→HM K H1 M1→bg K H H1→ok M1→R ds ok M1→R' J H1
def I3 (X:Cx) (tg iter:Expr) (wi:T3I):Prop:=PI X tg iter (loI X.K wi)
theorem PI.mono {X:Cx} {tg e:Expr} {t t':TI} (h:PI X tg e t) (m:∀ σ H Q,t' σ H Q→t σ H Q):PI X tg e t':=fun pins s σ H Q I q=>h pins s σ H Q I (m σ H Q q)
section
variable {K:PySem.W.Frag} {H1:Hp}
theorem vt {a:Addr} {ds:List D}:rV K H1 (Itl K a) ds (fun M=>lstM M a=some ds) where
 go:=fun i H M hi hm ok _=>by
  obtain ⟨xs,h1,h2,_⟩:=aR hm ok
  obtain ⟨x,e,_⟩:=h2.get (List.getElem?_eq_getElem hi)
  exact ⟨xs,x,h1,e⟩
 yld:=fun i d H M x H' hd hm ok _ y=>by
  obtain ⟨xs,h1,h2,_⟩:=aR hm ok
  obtain ⟨e,y⟩:=y
  subst e
  obtain ⟨x',e,hx⟩:=h2.get hd
  have:=y xs h1
  rw [e] at this
  cases this
  exact ⟨hx,hm,.refl⟩
 stop:=fun H M hm ok _=>by
  obtain ⟨xs,h1,h2,_⟩:=aR hm ok
  exact ⟨xs,h1,by rw [h2.length]; exact Nat.le_refl _⟩
theorem zL {a:Addr} {ds:List D} {xs:List V} (h1:SqT K H1 a xs) (h2:aM K H1 ds xs):rV K H1 (Itt K a) ds (fun _=>True) where
 go:=fun i H M hi hm ok e1=>by
  obtain ⟨x,e,_⟩:=h2.get (List.getElem?_eq_getElem hi)
  exact ⟨xs,x,e1.t _ _ h1,e⟩
 yld:=fun i d H M x H' hd hm ok e1 y=>by
  obtain ⟨e,y⟩:=y
  subst e
  obtain ⟨x',e,hx⟩:=h2.get hd
  have:=y xs (e1.t _ _ h1)
  rw [e] at this
  cases this
  exact ⟨hx.mono e1,hm,.refl⟩
 stop:=fun H M hm ok e1=>⟨xs,e1.t _ _ h1,by rw [h2.length]; exact Nat.le_refl _⟩
theorem BR {a:Addr} {ds:List D} {xs:List V} (h1:RoL K H1 a xs) (h2:aM K H1 ds xs):rV K H1 (Itl K a) ds (fun _=>True) where
 go:=fun i H M hi hm ok e1=>by
  obtain ⟨x,e,_⟩:=h2.get (List.getElem?_eq_getElem hi)
  exact ⟨xs,x,(h1.mono e1).sq,e⟩
 yld:=fun i d H M x H' hd hm ok e1 y=>by
  obtain ⟨e,y⟩:=y
  subst e
  obtain ⟨x',e,hx⟩:=h2.get hd
  have:=y xs (h1.mono e1).sq
  rw [e] at this
  cases this
  exact ⟨hx.mono e1,hm,.refl⟩
 stop:=fun H M hm ok e1=>⟨xs,(h1.mono e1).sq,by rw [h2.length]; exact Nat.le_refl _⟩
theorem vc {n:Nat} {lo:Int}:rV K H1 (Itr lo n) ((List.range n).map fun i=>D.int (lo + (i:Nat))) (fun _=>True) where
 go:=fun i H M hi hm ok e1=>by
  have z:i < n:=by simpa using hi
  exact z
 yld:=fun i d H M x H' hd hm ok e1 y=>by
  obtain ⟨e,y⟩:=y
  subst e
  subst y
  have hi:i < n:=by
   have:=(List.getElem?_eq_some_iff.mp hd).1
   simpa using this
  have hd':d=D.int (lo + (i:Nat)):=by
   rw [List.getElem?_map,List.getElem?_range hi] at hd
   exact (Option.some.inj hd).symm
  subst hd'
  exact ⟨.int,hm,.refl⟩
 stop:=fun H M hm ok e1=>by
  show n≤_
  simp
end
section
variable {X:Cx} {tg:Expr} {pos p:Pos}
def CN (t:T3):T3I:=fun δ M R=>t δ M fun x M1=>match x with
 | .tup ds=>R ds (fun _=>True) M1
 | .ref a=>(lstM M1 a).elim False fun ds=>R ds (fun M=>lstM M a=some ds) M1
 | .rl ds=>R ds (fun _=>True) M1
 | .str z=>R (z.cps.toList.map fun c=>D.str ⟨#[c]⟩) (fun _=>True) M1
 | _=>False
theorem zY {K:PySem.W.Frag} {H1:Hp} {z:Str}:rV K H1 (Itc z) (z.cps.toList.map fun c=>D.str ⟨#[c]⟩) (fun _=>True) where
 go:=fun i H M hi hm ok _=>by
  show i < z.cps.size
  simpa using hi
 yld:=fun i d H M x H' hd hm ok _ y=>by
  obtain ⟨e,c,e1,e2⟩:=y
  subst e e2
  rw [List.getElem?_map,Array.getElem?_toList,e1] at hd
  cases hd
  exact ⟨.str,hm,.refl⟩
 stop:=fun H M hm ok _=>by
  show _=z.cps.size
  simp
theorem aV {l:Expr} {t:T3} (h:E3 X l t) (hc:X.calm=true:=by rfl):I3 X tg l (CN t):=PI.mono (yQ hc h) fun σ H R' ⟨δ,M,R,hs,hm,ht,k⟩ =>
 ⟨δ,M,_,hs,hm,ht,fun v H1 d M1 hd hm1 e1 q1=>by
  cases d with
  | tup ds =>
   obtain ⟨a,xs,rfl,h1,h2⟩:=hd.tup_inv
   exact .inl ⟨a,rfl,.inr ⟨⟨xs,h1⟩,k _ H1 ds _ M1 (zL h1 h2) hm1 e1 trivial q1⟩⟩
  | ref a =>
   cases hd.ref_inv
   obtain ⟨ds,e0,q⟩:=bv q1
   obtain ⟨xs,h1,h2,_⟩:=aR hm1 e0
   exact .inl ⟨a,rfl,.inl ⟨⟨xs,h1⟩,k _ H1 ds _ M1 vt hm1 e1 e0 q⟩⟩
  | str z=>exact .inr ⟨z,hd.str_inv,k _ H1 _ _ M1 zY hm1 e1 trivial q1⟩
  | rl ds =>
   obtain ⟨a,xs,rfl,h1,h2⟩:=hd.rl_inv
   exact .inl ⟨a,rfl,.inl ⟨⟨xs,h1.sq⟩,k _ H1 ds _ M1 (BR h1 h2) hm1 e1 trivial q1⟩⟩
  | _=>exact q1.elim⟩
def CQ (t:T3A):T3I:=fun δ M R=>t δ M fun ds M1=>match ds with
 | [.int j]=>(-(2 ^ 62)≤j∧j < 2 ^ 62)∧R ((List.range j.toNat).map fun i=>D.int (0 + (i:Nat))) (fun _=>True) M1
 | [.int i,.int j]=>(-(2 ^ 62)≤i∧i < 2 ^ 62∧-(2 ^ 62)≤j∧j < 2 ^ 62)∧R ((List.range (j - i).toNat).map fun n=>D.int (i + (n:Nat))) (fun _=>True) M1
 | _=>False
theorem jS {a:Expr} {ta:T3A} (hg:Gl X "range") (hm:X.mg "range"=none) (ha:A3 X [a] ta) (hs:starEach [a] X.env=[(false,eval a X.env)]:=by rfl):I3 X tg (.Call (.Name "range" p) [a] [] pos) (CQ fun δ M Q=>ta δ M fun ds M1=>ds.length=1∧Q ds M1) :=
 PI.mono (uX hg hm ha hs) fun σ H R' ⟨δ,M,R,hs,hm,ht,k⟩=>⟨δ,M,_,hs,hm,ht,fun vs H1 ds M1 hd hm1 e1 q1=>by
  obtain ⟨hl,q1⟩:=q1
  split at q1
  ·obtain ⟨v,rfl,hv⟩:=bN hd
   cases hv.int_inv
   exact ⟨_,rfl,q1.1.1,q1.1.2,k _ H1 _ _ M1 vc hm1 e1 trivial q1.2⟩
  ·simp at hl
  ·exact q1.elim⟩
def oR (g:T3G) (tb:T3S) (ok:Mp→Prop) (E:nN):List D→DSt→Mp→Prop
 | [],δ,M=>E.nx δ M
 | d :: r,δ,M=>g d δ M fun δ2 M2=>tb { E with nx:=fun δ' M'=>ok M'∧oR g tb ok E r δ' M',ct:=fun δ' M'=>ok M'∧oR g tb ok E r δ' M',bk:=E.nx } δ2 M2
def yW (wi:T3I) (g:T3G) (tb:T3S):T3S:=fun E δ M=>wi δ M fun ds ok M1=>oR g tb ok E ds δ M1
theorem cZ {iter:Expr} {body:List Stmt} {wi:T3I} {g:T3G} {tb:T3S} (hp:PassesOwn (model X.prog X.w) X.A X.env X.xe) (hc:X.calm=true) (hi:I3 X tg iter wi) (hg:G3 X tg g) (hb:Ss3 X body tb)
  (hs:∀ x,foldedSetIterable iter X.env x=pure x:=by intro _; rfl):S3 X (.For tg iter body [] pos) (yW wi g tb):=PS.mono (Bj hp hc hi hg hb hs) fun D' σ H ⟨δ,M,E,hs,hm,ht,k1,k2,k3,k4⟩ =>
 ⟨δ,M,_,hs,hm,ht,fun J H1 ds ok M1 S hm1 e1 ok1 q1=>by
  refine ⟨fun i m σ' H'=>m=ds.length - i∧i≤ds.length∧∃ δ' M',St3 X.K H' σ' δ'∧HM X.K H' M'∧ok M'∧bg X.K H1 H'∧σ'.length=σ.length∧oR g tb ok E (ds.drop i) δ' M',
   ⟨ds.length,by simp,Nat.zero_le _,δ,M1,hs.mono e1,hm1,ok1,.refl,rfl,by simpa using q1⟩,?_⟩
  rintro i m σ' H' ⟨rfl,hi,δ',M',hs',hm',ok',e',l',q'⟩
  by_cases hlt:i < ds.length
  ·rw [List.drop_eq_getElem_cons hlt] at q'
   refine .inr ⟨S.go i H' M' hlt hm' ok' e',fun σ2 H2=>∃ δ2 M2,St3 X.K H2 σ2 δ2∧HM X.K H2 M2∧ok M2∧bg X.K H1 H2∧σ2.length=σ.length∧oR g tb ok E (ds.drop (i + 1)) δ2 M2,fun σ2 H2 z=>⟨ds.length - (i + 1),by omega,rfl,hlt,z⟩,fun x H2 y=>?_⟩
   obtain ⟨hx,hm2,e2⟩:=S.yld i ds[i] H' M' x H2 (List.getElem?_eq_getElem hlt) hm' ok' e' y
   refine ⟨ds[i],δ',M',_,hx,hs'.mono e2,hm2,q',fun σ3 H3 δ3 M3 x1 x2 x3 x4 x5=>?_⟩
   refine ⟨δ3,M3,_,x1,x2,x5,fun σ4 H4 δ4 M4 y1 y2 y3 y4 y5=>?_,fun v H4 d M4 y1 y2 y3 y4=>?_,fun σ4 H4 δ4 M4 y1 y2 y3 y4 y5=>?_,fun σ4 H4 δ4 M4 y1 y2 y3 y4 y5=>?_⟩
   ·exact ⟨δ4,M4,y1,y2,y5.1,e'.trans (e2.trans (x3.trans y3)),by rw [y4,x4,l'],y5.2⟩
   ·exact k2 v H4 d M4 y1 y2 (e1.trans (e'.trans (e2.trans (x3.trans y3)))) y4
   ·exact k1 σ4 H4 δ4 M4 y1 y2 (e1.trans (e'.trans (e2.trans (x3.trans y3)))) (by rw [y4,x4,l']) y5
   ·exact ⟨δ4,M4,y1,y2,y5.1,e'.trans (e2.trans (x3.trans y3)),by rw [y4,x4,l'],y5.2⟩
  ·have e:i=ds.length:=by omega
   subst e
   rw [List.drop_length] at q'
   exact .inl ⟨S.stop H' M' hm' ok' e',k1 σ' H' δ' M' hs' hm' (e1.trans e') l' q'⟩⟩
def zR (ix:List (Option Nat)) (δ:DSt):DSt:=ix.map fun o=>o.bind fun i=>(δ[i]?).join
theorem zy {K:PySem.W.Frag} {H:Hp} {σ:St} {δ:DSt} {ix:List (Option Nat)} (h:St3 K H σ δ):St3 K H (sel ix σ) (zR ix δ):=fun i d q=>by
 unfold zR at q
 unfold sel
 rw [List.getElem?_map] at q ⊢
 cases e:ix[i]? with
 | none=>rw [e] at q; cases q
 | some o =>
  rw [e] at q
  cases o with
  | none=>cases q
  | some j =>
   have q':(δ[j]?).join=some d:=Option.some.inj q
   have e4:δ[j]?=some (some d):=by
    cases r:δ[j]? with
    | none=>rw [r] at q'; cases q'
    | some w=>rw [r] at q'; exact congrArg some q'
   obtain ⟨v,e5,hv⟩:=h j d e4
   refine ⟨v,?_,hv⟩
   show some ((σ[j]?).join)=some (some v)
   rw [e5]
   rfl
def eY (g:T3G) (tt:T3T) (te:T3) (ok:Mp→Prop) (Q:DK):List D→List D→DSt→Mp→Prop
 | [],acc,_,M=>acc.length≤sizeLine∧∀ p,M p=none→Q (.ref p) (am M p (.lst acc))
 | d :: r,acc,δ,M=>acc.length < sizeLine∧g d δ M fun δ2 M2=>tt δ2 M2 fun b M3=>if b=true then te δ2 M3 fun y M4=>ok M4∧eY g tt te ok Q r (acc ++ [y]) δ2 M4 else ok M3∧eY g tt te ok Q r acc δ2 M3
def xC (ix:List (Option Nat)) (wi:T3I) (g:T3G) (tt:T3T) (te:T3):T3:=fun δ M Q=>wi δ M fun ds ok M1=>eY g tt te ok Q ds [] (zR ix δ) M1
variable {scope:Scope} {ix:List (Option Nat)} {N':List Str} {iter elt:Expr} {ifs:List Expr} {wi:T3I} {g:T3G} {tt:T3T} {te:T3}
def F3 (X:Cx) (ifs:List Expr) (t:T3T):Prop:=PF X ifs (loT X.K t)
theorem PF.mono {X:Cx} {e:List Expr} {t t':TT} (h:PF X e t) (m:∀ σ H Q,t' σ H Q→t σ H Q):PF X e t':=fun pins s σ H Q I q=>h pins s σ H Q I (m σ H Q q)
def ou:T3T:=fun _ M Q=>Q true M
theorem bK:F3 X [] ou:=PF.mono BL fun σ H Q' ⟨δ,M,Q,hs,hm,ht,k⟩=>k true H M hm .refl ht
theorem gz {c:Expr} {t:T3T} (h:B3 X c t):F3 X [c] t:=Ar h
theorem tO:∀ σ H Q',lo X.K (xC ix wi g tt te) σ H Q'→wM ix (loI X.K wi) (loG X.K g) (loT X.K tt) (lo X.K te) σ H Q':=fun σ H Q' ⟨δ,M,Q,hs,hm,ht,k⟩ =>
 ⟨δ,M,_,hs,hm,ht,fun J H1 ds ok M1 S hm1 e1 ok1 q1=>by
  refine ⟨fun i m ys σ' H'=>m=ds.length - i∧i≤ds.length∧∃ δ' M' acc,St3 X.K H' σ' δ'∧HM X.K H' M'∧aM X.K H' acc ys∧ok M'∧bg X.K H1 H'∧eY g tt te ok Q (ds.drop i) acc δ' M',
   ⟨ds.length,by simp,Nat.zero_le _,zR ix δ,M1,[],zy (hs.mono e1),hm1,.nil,ok1,.refl,by simpa using q1⟩,?_⟩
  rintro i m ys σ' H' ⟨rfl,hi,δ',M',acc,hs',hm',ha',ok',e',q'⟩
  by_cases hlt:i < ds.length
  ·rw [List.drop_eq_getElem_cons hlt] at q'
   obtain ⟨hz,q'⟩:=q'
   refine .inr ⟨S.go i H' M' hlt hm' ok' e',by rw [← ha'.length]; exact hz,fun x H2 y=>?_⟩
   obtain ⟨hx,hm2,e2⟩:=S.yld i ds[i] H' M' x H2 (List.getElem?_eq_getElem hlt) hm' ok' e' y
   refine ⟨ds[i],δ',M',_,hx,hs'.mono e2,hm2,q',fun σ3 H3 δ3 M3 x1 x2 x3 x4 x5=>?_⟩
   refine ⟨δ3,M3,_,x1,x2,x5,fun b H4 M4 y2 y3 y5=>?_⟩
   cases b with
   | true =>
    rw [if_pos rfl] at y5 ⊢
    refine ⟨δ3,M4,_,x1.mono y3,y2,y5,fun v H5 d M5 z1 z2 z3 z4=>⟨ds.length - (i + 1),by omega,rfl,hlt,δ3,M5,acc ++ [d],x1.mono (y3.trans z3),z2,(ha'.mono (e2.trans (x3.trans (y3.trans z3)))).snoc z1,z4.1,e'.trans (e2.trans (x3.trans (y3.trans z3))),z4.2⟩⟩
   | false =>
    rw [if_neg Bool.false_ne_true] at y5 ⊢
    exact ⟨ds.length - (i + 1),by omega,rfl,hlt,δ3,M4,acc,x1.mono y3,y2,ha'.mono (e2.trans (x3.trans y3)),y5.1,e'.trans (e2.trans (x3.trans y3)),y5.2⟩
  ·have e:i=ds.length:=by omega
   subst e
   rw [List.drop_length] at q'
   refine .inl ⟨S.stop H' M' hm' ok' e',by rw [← ha'.length]; exact q'.1,fun p hp=>?_⟩
   have e5:bg X.K H' (upd H' p (.lst ys)):=.new hp
   exact k _ _ _ _ .ref (hm'.new (c:=.lst acc) hp ⟨_,aN,ha'.mono e5⟩) (e1.trans (e'.trans e5)) (q'.2 p (hm'.fresh hp))⟩
theorem be (hc:X.calm=true) (S:bO X scope ix N') (hi:I3 X tg iter wi) (hg:∀ C s0 H0 ex,G3 (X.comp scope N' C s0 H0 ex) tg g) (ht:∀ C s0 H0 ex,F3 (X.comp scope N' C s0 H0 ex) ifs tt) (he:∀ C s0 H0 ex,E3 (X.comp scope N' C s0 H0 ex) elt te)
  (hs:∀ x,foldedSetIterable iter X.env x=pure x:=by intro _; rfl):E3 X (.ListComp elt [⟨tg,iter,ifs,0⟩] scope pos) (xC ix wi g tt te):=PE.mono (yq (g:=loG X.K g) (tt:=loT X.K tt) (te:=lo X.K te) hc S hi hg ht he hs) tO
theorem fT {i:Nat} {x:Str} {px spos:Pos} (hN:X.N.Nodup) (hix:X.N[i]?=some x) (hx:Loc X.env.scope x) (hc:X.calm=true) (S:bO X scope ix N') (hi:I3 X tg iter wi) (hg:∀ C s0 H0 ex,G3 (X.comp scope N' C s0 H0 ex) tg g) (ht:∀ C s0 H0 ex,F3 (X.comp scope N' C s0 H0 ex) ifs tt)
  (he:∀ C s0 H0 ex,E3 (X.comp scope N' C s0 H0 ex) elt te) (hsw:swapsWith (.ListComp elt [⟨tg,iter,ifs,0⟩] scope pos) (some (.Name x px)) spos.line X.env=pure true:=by rfl)
  (hf:X.fn x=true∨X.env.scope.names.lookup x=some .local:=by first | exact .inl rfl | exact .inr rfl | assumption) (hs:∀ x,foldedSetIterable iter X.env x=pure x:=by intro _; rfl) :
  S3 X (.Assign [.Name x px] (.ListComp elt [⟨tg,iter,ifs,0⟩] scope pos) spos) (jW (xC ix wi g tt te) (fq i)):=PS.monoL (r6 (g:=loG X.K g) (tt:=loT X.K tt) (te:=lo X.K te) hN hix hx hc S hi hg ht he hsw hf hs) fun D' σ H hl ⟨δ,M,D,hs,hm,ht,k1,k2,k3,k4⟩ =>
 tO σ H _ ⟨δ,M,_,hs,hm,ht,fun v H1 d M1 hd hm1 e1 q1=>k1 _ H1 _ M1 ((hs.mono e1).set hd (by rw [hl]; exact (List.getElem?_eq_some_iff.mp hix).1)) hm1 e1 (by simp) q1⟩
end
end L3
namespace L3
open PySem PySem.Spec PyProof.Rows L2
theorem hu9 {A:Around} {k:Nat} (hr:bJ k A):A.units + 9 < cLine:=by have:=hr.units; omega
def xy (sc:Scope) (N:List Str) (scope:Scope) (ix:List (Option Nat)) (N':List Str):Bool :=
 (scope.kind == .function) && (scope.names.all fun y=>!(y.2 == .cell)) && (scope.names.all fun y=>!(y.2 == .local) || (scope.names.lookup y.1 == some .local)) &&
 (scope.names.all fun y=>!(y.2 == .free) || (sc.names.lookup y.1 == some .cell) || (sc.names.lookup y.1 == some .free)) && (ix.length == N'.length) &&
 ((ix.zip N').all fun p=>match p.1 with | none=>true | some i=>(N[i]? == some p.2) && (scope.names.lookup p.2 == some .free))
theorem bH {X:Cx} {scope:Scope} {ix:List (Option Nat)} {N':List Str} (h:xy X.env.scope X.N scope ix N'=true):bO X scope ix N':=by
 unfold xy at h
 simp only [Bool.and_eq_true] at h
 obtain ⟨⟨⟨⟨⟨h1,h2⟩,h3⟩,h4⟩,h5⟩,h6⟩:=h
 refine ⟨by simpa using h1,fun y hy e=>?_,fun y hy e=>?_,fun y hy e=>?_,by simpa using h5,fun j i x e1 e2=>?_⟩
 ·have:=List.all_eq_true.mp h2 y hy
  rw [e] at this
  simp at this
 ·have:=List.all_eq_true.mp h3 y hy
  rw [e] at this
  simpa using this
 ·have:=List.all_eq_true.mp h4 y hy
  rw [e] at this
  simpa using this
 ·have hm:(some i,x)∈ix.zip N':=by
   have:(ix.zip N')[j]?=some (some i,x):=by
    rw [List.getElem?_zip_eq_some]
    exact ⟨e1,e2⟩
   exact List.mem_of_getElem? this
  have:=List.all_eq_true.mp h6 _ hm
  simpa using this
section
variable {X:Cx} {k:Nat} {f C:Addr} {fd:FuncData} {ps:List Str} {sp:Sp3} {x m:Str} {p pos apos:Pos} {a b c e o:Expr} {es:List Expr} {ta tb tc:T3} {t:T3A}
def tS (op op':CmpOp) (ta tb tc:T3):T3:=fun δ M Q=>ta δ M fun x M1=>tb δ M1 fun y M2=>zr op x y M2 fun z M3=>match z with
 | .bl k=>if k=true then tc δ M3 fun w M4=>zr op' y w M4 Q else Q (.bl false) M3
 | _=>False
theorem fJ {op op':CmpOp} (hu:X.A.units + 9 < cLine) (ha:E3 X a ta) (hb:E3 X b tb) (hc:E3 X c tc) (hmk:lastMarks [op,op'] [b,c]=false:=by rfl) :
  E3 X (.Compare a [op,op'] [b,c] pos) (tS op op' ta tb tc):=PE.mono (wc (ur op hu) (ur op' hu) ha hb hc hmk) fun σ H Q' ⟨δ,M,Q,hs,hm,ht,k⟩ =>
 ⟨δ,M,_,hs,hm,ht,fun v H1 x M1 hx hm1 e1 q1=>⟨δ,M1,_,hs.mono e1,hm1,q1,fun u H2 y M2 hy hm2 e2 q2=>⟨x,y,M2,_,hx.mono e2,hy,hm2,q2,fun w H3 z M3 hz hm3 e3 q3=>by
  cases z with
  | bl c =>
   refine ⟨c,hz.bl_inv,?_⟩
   cases c with
   | true =>
    refine (if_pos rfl).mpr ⟨δ,M3,_,hs.mono (e1.trans (e2.trans e3)),hm3,(if_pos rfl).mp q3,fun w' H4 d M4 hd hm4 e4 q4=>⟨y,d,M4,Q,hy.mono (e3.trans e4),hd,hm4,q4,eZ (e1.trans (e2.trans (e3.trans e4))) k⟩⟩
   | false=>exact (if_neg Bool.false_ne_true).mpr (k _ H3 _ M3 .bl hm3 (e1.trans (e2.trans e3)) ((if_neg Bool.false_ne_true).mp q3))
  | _=>exact q3.elim⟩⟩⟩
theorem xn {op op':CmpOp} (hu:X.A.units + 9 < cLine) (ha:E3 X a ta) (hb:E3 X b tb) (hc:E3 X c tc) (hmk:lastMarks [op,op'] [b,c]=false:=by rfl) :
  B3 X (.Compare a [op,op'] [b,c] pos) (b3 (tS op op' ta tb tc)):=PT.mono (v2 (ur op hu) (ur op' hu) ha hb hc hmk) fun σ H Q' ⟨δ,M,Q,hs,hm,ht,k⟩ =>
 ⟨δ,M,_,hs,hm,ht,fun v H1 x M1 hx hm1 e1 q1=>⟨δ,M1,_,hs.mono e1,hm1,q1,fun u H2 y M2 hy hm2 e2 q2=>⟨x,y,M2,_,hx.mono e2,hy,hm2,q2,fun w H3 z M3 hz hm3 e3 q3=>by
  cases z with
  | bl c =>
   refine ⟨c,hz.bl_inv,?_⟩
   cases c with
   | true =>
    refine (if_pos rfl).mpr ⟨δ,M3,_,hs.mono (e1.trans (e2.trans e3)),hm3,(if_pos rfl).mp q3,fun w' H4 d M4 hd hm4 e4 q4=>⟨y,d,M4,_,hy.mono (e3.trans e4),hd,hm4,q4,fun w5 H5 d5 M5 hd5 hm5 e5 q5=>?_⟩⟩
    cases d5 with
    | bl c5=>exact ⟨c5,hd5.bl_inv,k c5 H5 M5 hm5 (e1.trans (e2.trans (e3.trans (e4.trans e5)))) q5⟩
    | _=>exact q5.elim
   | false=>exact (if_neg Bool.false_ne_true).mpr ⟨false,rfl,k false H3 M3 hm3 (e1.trans (e2.trans e3)) ((if_neg Bool.false_ne_true).mp q3)⟩
  | _=>exact q3.elim⟩⟩⟩
structure DJ (K:PySem.W.Frag) (C:Addr):Prop where
 ha:PySem.W.findIn K (.ref C) "__class__"=some (some (.builtin "object.__class__"))
 hn:PySem.W.specialIn K (.builtin "object.__class__") "__get__"=some (some (.builtin "getset_descriptor.__get__"))
 htk:PySem.W.takesIn K (.builtin "object.__class__")=some true
 hm:PySem.W.mroIn K C (.type "object")=some true
def xq:Option fB→Option Value
 | some (.lst _)=>some (.type "list")
 | some (.ins C _)=>some (.ref C)
 | some (.dk _)=>some (.type "dict")
 | some (.exc _)=>none
 | none=>none
def tyD (M:Mp):D→Option Value
 | .non=>some (.type "NoneType")
 | .bl _=>some (.type "bool")
 | .int _=>some (.type "int")
 | .str _=>some (.type "str")
 | .tup _=>some (.type "tuple")
 | .ref a=>xq (M a)
 | .ty _=>none
 | .rl _=>some (.type "list")
def Ds:D→Option Value
 | .ref C=>some (.ref C)
 | .ty n=>some (.type n)
 | _=>none
def Ac (K:PySem.W.Frag) (ds:List D) (M:Mp) (Q:DK):Prop:=match ds with
 | [x,c]=>(tyD M x).elim False fun t=>(Ds c).elim False fun cv=>(∀ C,t=.ref C→DJ K C)∧(PySem.W.kitOne K t cv).elim False fun b=>Q (.bl b) M
 | _=>False
theorem vj:C3 X (.builtin "isinstance") (Ac X.K):=by
 intro pins s σ H vs us Q' I rv h
 obtain ⟨ds,M,Q,hd,hm,q,k⟩:=h
 unfold Ac at q
 split at q
 ·rename_i x c
  obtain ⟨v,u,rfl,hv,hw⟩:=s8 hd
  obtain ⟨t,et,q⟩:=bv q
  obtain ⟨cv,ec,hC,q⟩:=bv q
  obtain ⟨b,eb,qb⟩:=bv q
  obtain ⟨uv,uw,rfl,rv1,rv2⟩:=z6 rv
  have ecv:uw=cv:=by
   cases c with
   | ref C=>cases hw.ref_inv; cases ec; exact rv2
   | ty n=>cases hw.ty_inv; cases ec; exact rv2
   | _=>cases ec
  subst ecv
  have fin:∀ tk,EP X pins σ Q' (.bool b) { s with toks:=tk }:=fun tk=>⟨.bl b,H,I.tok tk,rfl,k _ _ _ _ .bl hm .refl qb⟩
  cases x with
  | non=>cases hv.non_inv; cases et; exact dC I rv1 .non eb fin
  | bl y=>cases hv.bl_inv; cases et; exact dC I rv1 (.bl y) eb fin
  | int y=>cases hv.int_inv; cases et; exact dC I rv1 (.int y) eb fin
  | str y=>cases hv.str_inv; cases et; exact dC I rv1 (.str y) eb fin
  | tup ds =>
   obtain ⟨a,xs,rfl,h1,h2⟩:=hv.tup_inv
   cases et
   cases rv1
   obtain ⟨its,r,p,_⟩:=I.tuple h1
   obtain ⟨o,g1,g2,_⟩:=p
   exact PySem.W.kia_one PySem.W.kitx_tuple I.kIn ⟨o,g1,g2⟩ eb (fun z=>nomatch z) fin
  | ref a =>
   cases hv.ref_inv
   have et:xq (M a)=some t:=et
   cases e:M a with
   | none=>rw [e] at et; cases et
   | some cell =>
    rw [e] at et
    have ok:=hm a cell e
    cases cell with
    | lst ds=>cases et; obtain ⟨xs,e1,_⟩:=ok; exact dC I rv1 (.lst e1) eb fin
    | ins C fs =>
     cases et
     obtain ⟨dx,vs,e1,cl,_⟩:=ok
     obtain ⟨i1,i2,i3,i4⟩:=hC C rfl
     exact dC I rv1 (.ins e1 cl i1 i2 i3 i4) eb fin
    | dk kvs=>cases et; obtain ⟨vs,e1,_⟩:=ok; exact dC I rv1 (.dK e1) eb fin
    | exc C=>cases et
  | ty n=>cases et
  | rl ds =>
   obtain ⟨p,xs,rfl,h1,h2⟩:=hv.rl_inv
   cases et
   cases rv1
   obtain ⟨its,r,⟨o,n,g1,g2,_⟩,_⟩:=I.list h1.sq
   exact PySem.W.kia_one PySem.W.kitx_list I.kIn ⟨o,g1,g2⟩ eb (fun z=>nomatch z) fin
 ·exact q.elim
def rF:List D→Option (List Bool)
 | []=>some []
 | .bl b :: r=>(rF r).map (b :: ·)
 | _ :: _=>none
theorem tI {K:PySem.W.Frag} {H:Hp}:∀ {ds:List D} {bs:List Bool} {xs:List V} {us:List Value},rF ds=some bs→aM K H ds xs→aU xs us→us=bs.map Value.bool
 | [],bs,xs,us,e,h,r=>by
  cases e
  have:=h.nil_inv
  subst this
  cases r
  rfl
 | d :: ds,bs,xs,us,e,h,r=>by
  cases d with
  | bl b =>
   obtain ⟨y,ys,rfl,h1,h2⟩:=h.inv
   cases h1.bl_inv
   unfold rF at e
   cases q:rF ds with
   | none=>rw [q] at e; cases e
   | some cs =>
    rw [q] at e
    cases e
    cases r with
    | cons r1 r2 =>
     cases r1
     rw [tI q h2 r2]
     rfl
  | _=>cases e
def CT (ds:List D) (M:Mp) (Q:DK):Prop:=match ds with
 | [.ref a]=>(lstM M a).elim False fun es=>(rF es).elim False fun bs=>Q (.bl (bs.all id)) M
 | _=>False
theorem pU (hc:X.calm=true):C3 X (.builtin "all") CT:=by
 intro pins s σ H vs us Q' I rv h
 obtain ⟨ds,M,Q,hd,hm,q,k⟩:=h
 unfold CT at q
 split at q
 ·rename_i a
  obtain ⟨v,rfl,hv⟩:=bN hd
  obtain ⟨es,e0,q⟩:=bv q
  obtain ⟨bs,e1,q⟩:=bv q
  cases hv.ref_inv
  obtain ⟨u,rfl,ru⟩:=iA rv
  cases ru
  obtain ⟨xs,h1,h2,_⟩:=aR hm e0
  obtain ⟨its,r,pl,hz⟩:=I.list h1
  have eits:=tI e1 h2 r
  subst eits
  have hne:a ≠ s.heap.objs.size:=by
   obtain ⟨o,_,e,_⟩:=pl
   exact Nat.ne_of_lt (Heap.lt_size e)
  refine call_all_walk (wpAny_pyIter_list pl.isList ?_)
  refine ⟨s.heap.objs.size,_,_,_,_,_,fun i=>(bs[i]?).getD true,rfl,Walks.list (A:=X.A.in1) (I.ok.hd hc) _ a hne (bs.map Value.bool).toArray,⟨⟨_,Heap.get?_push_size _ rfl,rfl,rfl⟩,?_⟩,fun i v s' Q E hP hQ=>?_,fun h' tk hk=>?_⟩
  ·obtain ⟨o,n,e,c,d,q⟩:=pl
   exact ⟨o,Heap.get?_push_of_some _ e,c,n,q⟩
  ·simp only [List.getElem?_toArray,List.getElem?_map] at hP
   cases e2:bs[i]? with
   | none=>rw [e2] at hP; cases hP
   | some b =>
    rw [e2] at hP
    cases hP
    have hQ:Q ((bs[i]?).getD true) s':=hQ
    rw [e2] at hQ
    exact wpAny_truthy_bool hQ
  ·have ea:(List.range (bs.map Value.bool).toArray.size).all (fun i=>(bs[i]?).getD true)=bs.all id:=by
    rw [List.size_toArray,List.length_map]
    rw [Bool.eq_iff_iff,List.all_eq_true,List.all_eq_true]
    constructor
    ·intro z b hb
     obtain ⟨i,hi,e⟩:=List.getElem_of_mem hb
     have:=z i (List.mem_range.mpr hi)
     rw [List.getElem?_eq_getElem hi,e] at this
     exact this
    ·intro z i hi
     have hi':=List.mem_range.mp hi
     rw [List.getElem?_eq_getElem hi']
     exact z _ (List.getElem_mem hi')
   rw [ea]
   refine ⟨.bl (bs.all id),H,?_,rfl,k _ _ _ _ .bl hm .refl q⟩
   exact I.kept (h':=h') (t':=tk) fun b o e=>hk b o (by simpa using Nat.ne_of_lt (Heap.lt_size e)) (Heap.get?_push_of_some _ e)
 ·exact q.elim
def gW (x:D):List D→Option Nat
 | []=>none
 | d :: r=>if eqF d x=true then some 0 else (gW x r).map (· + 1)
theorem tX {K:PySem.W.Frag} {H:Hp} {e:D} {w:V} (g:Has K H e w) (fe:d3 e=true):∀ {ds:List D} {xs:List V} {us:List Value} {j:Nat},aM K H ds xs→aU xs us→ds.all d3=true→gW e ds=some j →
  ∃ h:j < us.length,eqU w us[j]=true∧∀ m (hm:m < us.length),m < j→eqU w us[m]=false
 | [],_,_,_,_,_,_,q=>by cases q
 | d :: ds,_,us,j,h,r,fl,q=>by
  obtain ⟨y,ys,rfl,h1,h2⟩:=h.inv
  rw [List.all_cons,Bool.and_eq_true] at fl
  cases r with
  | @cons _ u _ us' r1 r2 =>
   have eu:eqU w u=eqF d e:=by rw [sj r1 (jb h1 fl.1),uk h1 g fl.1 fe]
   unfold gW at q
   by_cases hq:eqF d e=true
   ·rw [if_pos hq] at q
    cases q
    exact ⟨by simp,by simpa [eu] using hq,fun m _ hm=>absurd hm (Nat.not_lt_zero m)⟩
   ·rw [if_neg hq] at q
    cases q2:gW e ds with
    | none=>rw [q2] at q; cases q
    | some j' =>
     rw [q2] at q
     cases q
     obtain ⟨hl,e1,e2⟩:=tX g fe h2 r2 fl.2 q2
     refine ⟨by simpa using hl,by simpa using e1,fun m hm hlt=>?_⟩
     cases m with
     | zero=>simpa [eu] using hq
     | succ m=>simpa using e2 m (by simpa using hm) (by have z:m + 1 < j' + 1:=hlt; omega)
def Ba (x:D) (ds:List D) (M:Mp) (Q:DK):Prop:=match x,ds with
 | .ref a,[y]=>(lstM M a).elim False fun es=>d3 y=true∧es.all d3=true∧(gW y es).elim False fun j=>Q (.int (j:Nat)) M
 | _,_=>False
def M3 (X:Cx) (id:String) (r:D→List D→Mp→DK→Prop):Prop:=MtR X id fun vx vs H Q'=>∃ x ds M Q,Has X.K H x vx∧aM X.K H ds vs∧HM X.K H M∧r x ds M Q∧Up X.K H Q' Q
theorem xl:M3 X "list.index" Ba:=by
 intro pins s σ H vx vs v us Q' I rx rv h
 obtain ⟨x,ds,M,Q,hx,hd,hm,q,k⟩:=h
 unfold Ba at q
 split at q
 ·rename_i a y
  obtain ⟨es,e0,f1,f2,q⟩:=bv q
  obtain ⟨j,e1,q⟩:=bv q
  cases hx.ref_inv
  cases rx
  obtain ⟨w,rfl,hw⟩:=bN hd
  obtain ⟨u,rfl,ru⟩:=iA rv
  obtain ⟨xs,h1,h2,rd⟩:=aR hm e0
  obtain ⟨hz,its,n,r,g⟩:=rd.ok I.hok
  obtain ⟨hl,p1,p2⟩:=tX hw f1 h2 r f2 e1
  have hlz:its.length≤sizeLine:=by rw [← r.length]; exact hz
  have h63:=iX
  refine call_meets F.slot_list_index ⟨_,g,rfl⟩ F.entry_list_index (F.args_list_index_2 _ _) (SeqAt.list_indexAt a its.toArray n none #[] u (eqU w) j (by simpa using hl) (by omega) (by simpa using p1) fun m hm hlt=>by simpa using p2 m (by simpa using hm) hlt) ⟨g,?_,?_⟩
  ·intro z hz'
   exact fM ru (jb hw f1) r (oV h2 f2) z (by simpa using hz')
  ·exact ⟨.int (j:Nat),H,I.tok _,⟨_,rfl⟩,k _ _ _ _ .int hm .refl q⟩
 ·exact q.elim
def z8 (M:Mp):D→Prop
 | .ref a=>(lstM M a).isSome=true
 | _=>False
def lm3 (r:D→List D→Mp→DK→Prop) (to:T3) (t:T3A):T3:=fun δ M Q=>to δ M fun x M1=>z8 M1 x∧t δ M1 fun ds M2=>r x ds M2 Q
theorem Az {K:PySem.W.Frag} {H:Hp} {M:Mp} {x:D} {v:V} (hm:HM K H M) (h:Has K H x v) (l:z8 M x):tyV K "list" v H:=by
 cases x with
 | ref a =>
  cases h.ref_inv
  obtain ⟨ds,e⟩:=Option.isSome_iff_exists.mp (show (lstM M a).isSome=true from l)
  obtain ⟨xs,h1,_⟩:=aR hm e
  exact .inl ⟨rfl,xs,h1⟩
 | _=>exact l.elim
theorem Ae {id:String} {name:Str} {r:D→List D→Mp→DK→Prop} (slot:Slot "list" name id) (hty:typeOf (.builtin id)=pure (.type "method_descriptor")) (hm:M3 X id r) (ho:E3 X o ta) (ha:A3 X (e :: es) t)
  (hbase:attributeBase o name X.env (eval o X.env)=eval o X.env:=by rfl)
  (hfew:((backTo pos (starEach (e :: es) X.env)).all (fun x=>!x.1) && (backToKw pos (keywordEach [] X.env)).all (fun x=>x.1.isSome)
   && decide ((e :: es).length + ([]:List Keyword).length + (if ([]:List Keyword).isEmpty then 0 else 1) < 30))=true:=by rfl)
  (hline:(apos.endLine == pos.line)=true:=by rfl) (hs:starEach (e :: es) X.env=(false,eval e X.env) :: starEach es X.env:=by rfl) (hplain:(backTo pos (starEach es X.env)).any (·.1)=false:=by rfl) :
  E3 X (.Call (.Attribute o name apos) (e :: es) [] pos) (lm3 r ta t):=PE.mono (Ca PySem.F.plainAttrs_list slot hty hm ho ha hbase hfew hline hs hplain) fun σ H Q' ⟨δ,M,Q,hs,hm,ht,k⟩ =>
 ⟨δ,M,_,hs,hm,ht,fun v H1 x M1 hx hm1 e1 q1=>⟨Az hm1 hx q1.1,δ,M1,_,hs.mono e1,hm1,q1.2,fun vs H2 ds M2 hds hm2 e2 q2=>⟨x,ds,M2,Q,hx.mono e2,hds,hm2,q2,eZ (e1.trans e2) k⟩⟩⟩
theorem gM (ho:E3 X o ta) (ha:A3 X (e :: es) t)
  (hbase:attributeBase o "index" X.env (eval o X.env)=eval o X.env:=by rfl)
  (hfew:((backTo pos (starEach (e :: es) X.env)).all (fun x=>!x.1) && (backToKw pos (keywordEach [] X.env)).all (fun x=>x.1.isSome)
   && decide ((e :: es).length + ([]:List Keyword).length + (if ([]:List Keyword).isEmpty then 0 else 1) < 30))=true:=by rfl)
  (hline:(apos.endLine == pos.line)=true:=by rfl) (hs:starEach (e :: es) X.env=(false,eval e X.env) :: starEach es X.env:=by rfl) (hplain:(backTo pos (starEach es X.env)).any (·.1)=false:=by rfl) :
  E3 X (.Call (.Attribute o "index" apos) (e :: es) [] pos) (lm3 Ba ta t):=Ae PySem.F.slot_list_index PySem.F.type_list_index xl ho ha hbase hfew hline hs hplain
structure yx (K:PySem.W.Frag) (C:Addr) (m:Str) (f:Addr):Prop where
 hg:PySem.W.specialIn K (.ref C) "__getattribute__"=some (some (.builtin "type.__getattribute__"))
 rd:PySem.W.readsIn K C (.type "type")=true
 fc:PySem.W.findCls K (.ref C) (.type "type") m=some (.val (.ref f))
theorem xT {sp:Sp} {t:TA} {pl:Sem Bool} (cm:yx X.K C m f) (F:gx X.prog X.w X.K X.mg X.base CX0 k f fd ps sp) (hr:bJ k X.A) (hg:Gl X x) (hm:X.mg x=some (.ref C)) (hk:PySem.W.keepIn X.K (.ref f)=true) (hb:dP X.K fd ps []) (ha:PA X (e :: es) t)
  (hdb:(x == ("__debug__":Str))=false:=by decide) (hst:starEach (e :: es) X.env=(false,eval e X.env) :: starEach es X.env:=by rfl) (hpl:(backTo pos (starEach es X.env)).any (·.1)=false:=by rfl)
  (ht:eval (.Call (.Attribute (.Name x p) m apos) (e :: es) [] pos) X.env=(do
   let ov ← eval (.Name x p) X.env
   standAt apos.atName
   let (f,first) ← holding [ov] (getMethod ov m pl)
   callWith pos f first (backTo pos (starEach (e :: es) X.env)) (backToKw pos (keywordEach [] X.env))):=by rfl) :
  PE X (.Call (.Attribute (.Name x p) m apos) (e :: es) [] pos) (fun σ H Q=>t σ H fun vs H1=>sp vs H1 Q E0):=by
 intro pins s σ H Q I h
 refine PySem.W.methodCall_KW (pl:=pl) (fX I hg hm ?_ hdb) ht
 refine PySem.W.method_cls I.kIn cm.hg (PySem.W.cls_value I.kIn cm.rd cm.fc rfl ?_)
 refine PySem.W.callWith_K (first:=[]) (h₀:=X.base) I.ok.mod.kin hk (thn (ha pos pins _ σ H _ (I.tok _) h) fun us s2 ⟨vs,H2,I2,r,q2⟩=>⟨I2.kIn,?_⟩) hst hpl
 exact pR F hr hb .nil (rh (X:=X)) I2 r (by rw [List.append_nil]; exact q2)
theorem zj {pl:Sem Bool} (cm:yx X.K C m f) (F:Fn3 X.prog X.w X.K X.mg X.base k f fd ps sp) (hr:bJ k X.A) (hg:Gl X x) (hm:X.mg x=some (.ref C)) (hk:PySem.W.keepIn X.K (.ref f)=true) (hb:dP X.K fd ps []) (ha:A3 X (e :: es) t)
  (hdb:(x == ("__debug__":Str))=false:=by decide) (hst:starEach (e :: es) X.env=(false,eval e X.env) :: starEach es X.env:=by rfl) (hpl:(backTo pos (starEach es X.env)).any (·.1)=false:=by rfl)
  (ht:eval (.Call (.Attribute (.Name x p) m apos) (e :: es) [] pos) X.env=(do
   let ov ← eval (.Name x p) X.env
   standAt apos.atName
   let (f,first) ← holding [ov] (getMethod ov m pl)
   callWith pos f first (backTo pos (starEach (e :: es) X.env)) (backToKw pos (keywordEach [] X.env))):=by rfl) :
  E3 X (.Call (.Attribute (.Name x p) m apos) (e :: es) [] pos) (gl sp t):=PE.mono (xT cm F hr hg hm hk hb ha hdb hst hpl ht) fun σ H Q' ⟨δ,M,Q,hs,hm,ht,k⟩ =>
 ⟨δ,M,_,hs,hm,ht,fun vs H1 ds M1 hd hm1 e1 q1=>⟨ds,M1,Q,hd,hm1,q1,eZ e1 k⟩⟩
theorem bi:bootBuiltins "len"=some (.builtin "len"):=by decide +kernel
theorem Au:bootBuiltins "min"=some (.builtin "min"):=by decide +kernel
theorem Bp:bootBuiltins "max"=some (.builtin "max"):=by decide +kernel
theorem nC:bootBuiltins "isinstance"=some (.builtin "isinstance"):=by decide +kernel
theorem pG:bootBuiltins "all"=some (.builtin "all"):=by decide +kernel
theorem bT:bootBuiltins "tuple"=some (.type "tuple"):=by decide +kernel
theorem dN:bootBuiltins "list"=some (.type "list"):=by decide +kernel
theorem zn:bootBuiltins "bool"=some (.type "bool"):=by decide +kernel
theorem pj:bootBuiltins "dict"=some (.type "dict"):=by decide +kernel
theorem oZ:bootBuiltins "enumerate"=some (.type "enumerate"):=by decide +kernel
end
section
variable {X:Cx} {pins:List (Addr × Obj)} {σ:St} {H:Hp} {s:Shared}
theorem _root_.L2.Inv.drawn {ch:List Addr} {T:Addr} {xs:List V} {its:List Value} {h':Heap} {tk:Nat} (I:Inv X pins σ H s) (hch:∀ b∈ch,mf X pins H b) (k:∀ b o,b ∉ ch→s.heap.get? b=some o→h'.get? b=some o) (hT:s.heap.objs.size≤T) (hx:xs.length≤sizeLine)
  (rv:aU xs its) (ht:mU h' T its.toArray):Inv X pins σ (upd H T (.tup xs)) { s with heap:=h',toks:=tk }:=by
 have hT0:H T=none:=I.hok.fresh hT
 have nT:∀ b o,s.heap.get? b=some o→b ≠ T:=fun b o e=>Nat.ne_of_lt (Nat.lt_of_lt_of_le (Heap.lt_size e) hT)
 refine I.step (g':=s.gens) (d':=s.drawn) (ch:=ch) (fun b hb=>⟨(hch b hb).2.2.2.1,(hch b hb).2.1,(hch b hb).2.2.2.2.1,(hch b hb).2.2.2.2.2⟩) (fun b o _ _ hc e _=>k b o hc e) (fun b o _ _ hc e _=>⟨o.slots,k b o hc e⟩) (fun b o _ e n=>by rw [aK (nT b o e)]; exact n)
  (fun b o hc e=>⟨o,k b o hc e⟩) (fun b ys e=>by rw [aK (bh e hT0)]; exact e) (fun b o u e=>by rw [aK (bh e hT0)]; exact e) (fun b ps e=>⟨#[],by rw [aK (bh e hT0),e]; simp⟩) (fun m hm=>?_) (fun b u e=>?_) I.bare
 ·obtain ⟨o,es,ep,ho,r⟩:=hm
  exact ⟨o,es,ep,k _ o (fun z=>(hch _ z).2.1 rfl) ho,r⟩
 ·by_cases hb:b=T
  ·subst hb
   rw [aN] at e
   cases e
   exact ⟨hx,its,rv,ht⟩
  ·rw [aK hb] at e
   refine (I.hok b u e).stay (fun c v hc q=>k c v (fun z=>?_) q) (fun c q=>by rw [aK (bh q hT0)]; exact q) (fun c ys q=>by rw [aK (bh q hT0)]; exact q)
   have n:=(hch c z).1
   rcases hc with y | y
   ·rw [y,e] at n; cases n
   ·rw [y] at n; cases n
def Ite (K:PySem.W.Frag) (a:Addr):It :=
 ⟨fun i H=>∃ xs x,SqL K H a xs∧xs[i]?=some x,fun i H x H'=>∃ p y,x=.ref p∧H p=none∧H'=upd H p (.tup [.int (i:Nat),y])∧∀ xs,SqL K H a xs→xs[i]?=some y,fun i H=>∃ xs,SqL K H a xs∧xs.length≤i⟩
theorem uq {P:Program} {w:World} {K:PySem.W.Frag} {elts:List Expr} {n:Nat} {tp:Pos} (a e it:Addr) (hei:e ≠ it):rE P w K (.Tuple elts n tp) (Ite K a) [e,it] e (fun i h=>(∃ old,IsEnum h e it (i:Nat) old)∧h.IsListIter it a i) where
 mem:=by simp
 obj:=fun i h st b hb=>by
  obtain ⟨⟨old,he⟩,o,e1,c,d⟩:=st
  rcases List.mem_cons.mp hb with rfl | hb
  ·exact ⟨_,he,fun v z=>by cases z⟩
  ·rw [List.mem_singleton.mp hb]
   exact ⟨o,e1,fun v z=>by rw [d] at z; cases z⟩
 keep:=fun i h h' st k=>by
  obtain ⟨⟨old,he⟩,hi⟩:=st
  exact ⟨⟨old,k e (by simp) _ he⟩,hi.at fun o q=>k it (by simp) o q⟩
 item:=by
  intro X hP hw hK hc i pins s σ H E I hf st hg
  subst hP hw hK
  obtain ⟨xs,x,hq,hx⟩:=hg
  obtain ⟨its,rv,p,hz⟩:=I.list hq
  obtain ⟨u,hu,ru⟩:=rv.get hx
  obtain ⟨⟨old,he⟩,hi⟩:=st
  refine wpAny_pyNext_enum_item he hi p.isList (x:=u) (by simpa using hu) hei fun h1 ho hi1 hT hsz hk=>?_
  refine ⟨_,rfl,wpAny_letOwnedTupleGo_enum ho fun h2 he2 hs2=>?_⟩
  have helt:e < s.heap.objs.size:=Heap.lt_size he
  have hilt:it < s.heap.objs.size:=by obtain ⟨o,q,_⟩:=hi; exact Heap.lt_size q
  have kk:∀ b o,b ∉ [e,it]→s.heap.get? b=some o→h2.get? b=some o:=fun b o hb q=>(hs2.2 b fun z=>hb (by simp [z])).trans (hk b o (fun z=>hb (by simp [z])) (fun z=>hb (by simp [z])) q)
  have hT2:h2.get? s.heap.objs.size=some { cls:=.type "tuple",data:=.seq #[.int (i:Nat) s.toks,u] }:=(hs2.2 _ (Nat.ne_of_gt helt)).trans hT
  have hT0:H s.heap.objs.size=none:=I.hok.fresh (Nat.le_refl _)
  have I2:=I.drawn (ch:=[e,it]) (T:=s.heap.objs.size) (xs:=[.int (i:Nat),x]) (its:=[.int (i:Nat) s.toks,u]) (h':=h2) (tk:=s.toks + 1) hf kk (Nat.le_refl _) (by show 2≤sizeLine; decide) (.cons ⟨_,rfl⟩ (.cons ru .nil)) ⟨_,hT2,rfl,⟨_,rfl⟩,rfl⟩
  refine ⟨.ref s.heap.objs.size,_,I2,rfl,⟨_,x,rfl,hT0,rfl,fun ys hy=>by rw [I.list_inj hy hq]; exact hx⟩,⟨⟨_,by simpa using he2⟩,hi1.extBut hs2.extBut (Ne.symm hei)⟩,fun b hb=>?_⟩
  have hb':b < s.heap.objs.size:=by
   rcases List.mem_cons.mp hb with z | z
   ·rw [z]; exact helt
   ·rw [List.mem_singleton.mp z]; exact hilt
  rw [aK (Nat.ne_of_lt hb')]
  exact (hf b hb).1
 done:=by
  intro X hP hw hK hc i pins s σ H E I hf st hg
  subst hP hw hK
  obtain ⟨xs,hq,hx⟩:=hg
  obtain ⟨its,rv,p,hz⟩:=I.list hq
  obtain ⟨⟨old,he⟩,hi⟩:=st
  have hl:=rv.length
  obtain ⟨f0,f1,f2,f3,f4,f5⟩:=hf it (by simp)
  exact wpAny_pyNext_enum_end (I.ok.hd hc) he hi p.isList (by simp; omega) fun h' eb=>⟨rfl,I.turned (t':=s.toks) (fun b o hb q=>eb b o hb q) f0 f1 f3 f4 f5⟩
 self:=fun _ _ _ _ _ st h=>by
  obtain ⟨⟨old,he⟩,_⟩:=st
  exact wpAny_pyIter_enum he h
end
section
variable {X:Cx} {pos p tp:Pos} {elts:List Expr} {n:Nat}
theorem yX {a:Expr} {ta:TA} (hg:Gl X "enumerate") (hm:X.mg "enumerate"=none) (ha:PA X [a] ta) (hs:starEach [a] X.env=[(false,eval a X.env)]:=by rfl) :
  PI X (.Tuple elts n tp) (.Call (.Name "enumerate" p) [a] [] pos) (fun σ H R=>ta σ H fun vs H1=>∃ l,vs=[.ref l]∧(∃ xs,SqL X.K H1 l xs)∧R (Ite X.K l) H1):=by
 intro pins s σ H R I h
 refine Call_ (gO I hg hm oZ (PyProof.Rows.callWith_type1 (thn (ha pos pins s σ H _ I h) fun us s1 ⟨vs,H1,I1,r1,q1⟩=>?_) hs rfl))
 obtain ⟨l,e,⟨xs,hq⟩,q⟩:=q1
 subst e
 obtain ⟨u,rfl,ru⟩:=iA r1
 cases ru
 obtain ⟨its,rv,pl,hz⟩:=I1.list hq
 refine call_enumerate_list pl.isList fun h' he hi hsz hk=>?_
 refine wpAny_pyIter_enum he ?_
 have I2:Inv X pins σ H1 { s1 with heap:=h' }:=I1.kept (t':=s1.toks) hk
 refine ⟨s1.heap.objs.size + 1,[s1.heap.objs.size + 1,s1.heap.objs.size],_,_,H1,rfl,I2,uq l _ _ (Nat.succ_ne_self _),⟨⟨_,he⟩,hi⟩,fun b hb=>?_,q⟩
 have hb':s1.heap.objs.size≤b:=by
  rcases List.mem_cons.mp hb with z | z
  ·rw [z]; exact Nat.le_succ _
  ·rw [List.mem_singleton.mp z]; exact Nat.le_refl _
 exact I1.fpOk hb' (I1.hok.fresh hb')
def gi:Nat→List D→List D
 | _,[]=>[]
 | i,d :: r=>.tup [.int (i:Nat),d] :: gi (i + 1) r
theorem mM:∀ {ds:List D} {i j:Nat},(gi j ds)[i]?=(ds[i]?).map fun d=>D.tup [.int ((j + i:Nat):Int),d]
 | [],i,j=>by simp [gi]
 | d :: r,0,j=>by simp [gi]
 | d :: r,i + 1,j=>by
  show (gi (j + 1) r)[i]?=_
  rw [mM]
  simp only [List.getElem?_cons_succ]
  rw [show j + 1 + i=j + (i + 1) by omega]
theorem ma:∀ {ds:List D} {j:Nat},(gi j ds).length=ds.length
 | [],j=>rfl
 | d :: r,j=>by simp [gi,ma]
theorem xc {K:PySem.W.Frag} {H1:Hp} {a:Addr} {ds:List D}:rV K H1 (Ite K a) (gi 0 ds) (fun M=>lstM M a=some ds) where
 go:=fun i H M hi hm ok _=>by
  rw [ma] at hi
  obtain ⟨xs,h1,h2,_⟩:=aR hm ok
  obtain ⟨x,e,_⟩:=h2.get (List.getElem?_eq_getElem hi)
  exact ⟨xs,x,h1,e⟩
 yld:=fun i d H M x H' hd hm ok _ y=>by
  obtain ⟨xs,h1,h2,_⟩:=aR hm ok
  obtain ⟨p,z,rfl,hp,rfl,y⟩:=y
  rw [mM] at hd
  cases e:ds[i]? with
  | none=>rw [e] at hd; cases hd
  | some d' =>
   rw [e] at hd
   cases hd
   obtain ⟨x',e',hx⟩:=h2.get e
   have w1:=y xs h1
   rw [e'] at w1
   have w2:x'=z:=Option.some.inj w1
   subst w2
   have ex:bg K H (upd H p (.tup [.int (i:Nat),x'])):=.new hp
   refine ⟨.tup (.of aN) (.cons (by rw [Nat.zero_add]; exact .int) (.cons (hx.mono ex) .nil)),hm.add hp,ex⟩
 stop:=fun H M hm ok _=>by
  obtain ⟨xs,h1,h2,_⟩:=aR hm ok
  exact ⟨xs,h1,by rw [ma,h2.length]; exact Nat.le_refl _⟩
def Aw (t:T3A):T3I:=fun δ M R=>t δ M fun ds M1=>match ds with
 | [.ref a]=>(lstM M1 a).elim False fun es=>R (gi 0 es) (fun M=>lstM M a=some es) M1
 | _=>False
theorem jo {a:Expr} {ta:T3A} (hg:Gl X "enumerate") (hm:X.mg "enumerate"=none) (ha:A3 X [a] ta) (hs:starEach [a] X.env=[(false,eval a X.env)]:=by rfl):I3 X (.Tuple elts n tp) (.Call (.Name "enumerate" p) [a] [] pos) (Aw ta) :=
 PI.mono (yX hg hm ha hs) fun σ H R' ⟨δ,M,R,hs,hm,ht,k⟩=>⟨δ,M,_,hs,hm,ht,fun vs H1 ds M1 hd hm1 e1 q1=>by
  split at q1
  ·obtain ⟨v,rfl,hv⟩:=bN hd
   cases hv.ref_inv
   obtain ⟨es,e0,q⟩:=bv q1
   obtain ⟨xs,h1,h2,_⟩:=aR hm1 e0
   exact ⟨_,rfl,⟨xs,h1⟩,k _ H1 _ _ M1 xc hm1 e1 e0 q⟩
  ·exact q1.elim⟩
end
end L3
namespace L3
open PySem PySem.Spec PyProof.Rows L2
section
variable {prog:Program} {w:World} {A:Around} {E:Value→Shared→Prop} {s:Shared}
end
structure C9 (z TI TO i1 i2:Addr) (f1 f2:List Addr):Prop where
 a1:TI ≠ z
 a2:TO ≠ z
 a3:i1 ≠ z
 a4:i2 ≠ z
 a5:TI ≠ TO
 a6:TI ≠ i1
 a7:TI ≠ i2
 a8:TO ≠ i1
 a9:TO ≠ i2
 a10:i1 ≠ i2
 b1:z ∉ f1
 b2:TO ∉ f1
 b3:i2 ∉ f1
 c1:z ∉ f2
 c2:TO ∉ f2
 c3:i1 ∉ f2
section
variable {prog:Program} {w:World} {A:Around} {E:Value→Shared→Prop} {s:Shared} {z TI TO i1 i2:Addr} {f1 f2:List Addr} {n1 n2 k1 k2:Nat} {P1 P2:Nat→Value→Prop} {S1 S2:Nat→Heap→Prop} {a b:Value}
end
section
variable {prog:Program} {w:World} {A:Around} {E:Value→Shared→Prop} {s:Shared}
end
end L3
namespace L3
open PySem PySem.Spec PyProof.Rows L2
section
variable {X:Cx} {pins:List (Addr × Obj)} {σ:St} {H:Hp} {s:Shared}
end
section
variable {X:Cx} {pos p tp:Pos} {elts:List Expr} {n:Nat}
end
end L3
namespace L3
open PySem PySem.Spec PyProof.Rows L2
def Sub (M M':Mp):Prop:=∀ a c,M a=some c→M' a=some c
theorem Sub.refl {M:Mp}:Sub M M:=fun _ _ h=>h
theorem Sub.trans {M M1 M2:Mp} (a:Sub M M1) (b:Sub M1 M2):Sub M M2:=fun x c h=>b x c (a x c h)
theorem Sub.new {M:Mp} {p:Addr} {c:fB} (h:M p=none):Sub M (am M p c):=fun x d q=>by rw [cR (neM q h)]; exact q
theorem Sub.lst {M M':Mp} {a:Addr} {ds:List D} (s:Sub M M') (h:lstM M a=some ds):lstM M' a=some ds:=by
 unfold lstM at h ⊢
 cases e:M a with
 | none=>rw [e] at h; cases h
 | some c=>rw [s a c e]; rw [e] at h; exact h
theorem HM.sub {K:PySem.W.Frag} {H:Hp} {M M':Mp} (h:HM K H M') (s:Sub M M'):HM K H M:=fun a c q=>h a c (s a c q)
section
variable {P:Program} {w:World} {K:PySem.W.Frag} {mg:Str→Option Value} {base:Heap}
theorem B5 {x qual:Str} {st:Stmt} {f:Addr} {fd:FuncData} {N ps:List Str} {k:Nat} {sp:Sp3} (F:Fun K x qual st f fd) (S:aq N ps (al st)) (len:∀ ds M Q,sp ds M Q→ds.length=ps.length)
  (hbody:∀ (cdv:Value) (A:Around) (outer:List Env) (s:Shared) (H:Hp) (E:XK),bJ k (A.deeper (envOfC qual (al st) s.heap.objs.size f cdv)) →
   ∃ t,Ss3 (eO CX0 P w K mg base N qual (al st) f cdv A outer s H E).nox (bI st) t∧∀ ds M Q,sp ds M Q→t { nx:=fun _ M'=>∃ M'',Sub M'' M'∧Q .non M'',rt:=fun d M'=>∃ M'',Sub M'' M'∧Q d M'' } (gJ N ds) M):Fn3 P w K mg base (k + 1) f fd ps sp:=by
 refine F.ok S (fun vs H Q E h=>?_) (fun cdv A outer s H vs Q' E hr h=>?_)
 ·obtain ⟨ds,M,Q,hd,_,hs,_⟩:=h
  rw [← hd.length]
  exact len ds M Q hs
 ·obtain ⟨ds,M,Q,hd,hm,hs,k⟩:=h
  obtain ⟨t,ht,hb⟩:=hbody cdv A outer s H E hr
  exact ⟨_,ht,gJ N ds,M,_,nY hd,hm,hb ds M Q hs,fun σ' H' δ' M' _ x2 x3 _ ⟨M'',y1,y2⟩=>k .non H' .non M'' .non (x2.sub y1) x3 y2,fun v H' d M' x1 x2 x3 ⟨M'',y1,y2⟩=>k v H' d M'' x1 (x2.sub y1) x3 y2,fun _ _ _ _ _ _ _ _ z=>z,fun _ _ _ _ _ _ _ _ z=>z⟩
end
theorem qY {g:T3G} {te:T3} {ok:Mp→Prop} {Q:DK} {f:D→D} {M:Mp} (J:DSt→Prop) (hok:ok M):∀ (ds acc:List D) (δ:DSt),J δ→acc.length + ds.length≤sizeLine →
  (∀ d∈ds,∀ δ,J δ→∀ k:DSt→DK,(∀ δ',J δ'→k δ' (f d) M)→g d δ M fun δ2 M2=>te δ2 M2 (k δ2))→(∀ p,M p=none→Q (.ref p) (am M p (.lst (acc ++ ds.map f))))→eY g ou te ok Q ds acc δ M
 | [],acc,δ,_,hl,_,hq=>⟨by simpa using hl,by simpa using hq⟩
 | d :: r,acc,δ,hj,hl,ht,hq=>by
  rw [List.length_cons] at hl
  refine ⟨by omega,?_⟩
  refine ht d List.mem_cons_self δ hj (fun δ2 y M4=>ok M4∧eY g ou te ok Q r (acc ++ [y]) δ2 M4) fun δ' hj'=>⟨hok,qY (f:=f) J hok r (acc ++ [f d]) δ' hj' ?_ (fun e he=>ht e (List.mem_cons_of_mem _ he)) ?_⟩
  ·rw [List.length_append,List.length_singleton]
   omega
  ·simpa using hq
theorem br {i:Nat} {te:T3} {ok:Mp→Prop} {Q:DK} {f:D→D} {M:Mp} (hok:ok M):∀ (ds acc:List D) (δ:DSt),acc.length + ds.length≤sizeLine→(∀ d∈ds,∀ k:DK,k (f d) M→te (δ.set i (some d)) M k) →
  (∀ p,M p=none→Q (.ref p) (am M p (.lst (acc ++ ds.map f))))→eY (fq i) ou te ok Q ds acc δ M:=fun ds acc δ hl ht hq =>
 qY (f:=f) (fun δ'=>∀ d,δ'.set i (some d)=δ.set i (some d)) hok ds acc δ (fun _=>rfl) hl (fun d hd δ' hj k hk=>by
  show te (δ'.set i (some d)) M (k (δ'.set i (some d)))
  rw [hj d]
  exact ht d hd _ (hk _ fun e=>by rw [List.set_set])) hq
theorem jn {α:Type} (f:α→Bool):∀ l:List α,rF (l.map fun x=>D.bl (f x))=some (l.map f)
 | []=>rfl
 | x :: r=>by
  show (rF (r.map fun x=>D.bl (f x))).map (f x :: ·)=_
  rw [jn f r]
  rfl
theorem av {M:Mp} {p:Addr} {ds:List D}:lstM (am M p (.lst ds)) p=some ds:=by
 unfold lstM
 rw [aL]
theorem af {α:Type} {o:Option α} {P:α→Prop} {x:α} (e:o=some x) (h:P x):o.elim False P:=by rw [e]; exact h
theorem few {l:List D} (h:decide (l.length≤100)=true):l.length≤sizeLine:=by
 have z:sizeLine=16777216:=sizeLine_eq
 have:=of_decide_eq_true h
 omega
end L3
namespace L3
open PySem PySem.Spec PyProof.Rows L2
theorem oA {g:T3G} {tb:T3S} {ok:Mp→Prop} {E:nN} (J:DSt→Mp→Prop) (hok:∀ δ M,J δ M→ok M):∀ (ds:List D) (δ:DSt) (M:Mp),J δ M →
  (∀ d∈ds,∀ δ M,J δ M→∀ nx:DSt→Mp→Prop,(∀ δ' M',J δ' M'→nx δ' M')→g d δ M fun δ2 M2=>tb { E with nx:=nx,ct:=nx,bk:=E.nx } δ2 M2)→(∀ δ M,J δ M→E.nx δ M)→oR g tb ok E ds δ M
 | [],δ,M,j,_,hn=>hn δ M j
 | d :: r,δ,M,j,ht,hn=>ht d List.mem_cons_self δ M j (fun δ' M'=>ok M'∧oR g tb ok E r δ' M') fun δ' M' j'=>⟨hok δ' M' j',oA J hok r δ' M' j' (fun e he=>ht e (List.mem_cons_of_mem _ he)) hn⟩
theorem dW {g:T3G} {tb:T3S} {ok:Mp→Prop} {E:nN} (all:List D) (J:List D→DSt→Mp→Prop) (hok:∀ p δ M,J p δ M→ok M):∀ (ds pre:List D) (δ:DSt) (M:Mp),pre ++ ds=all→J pre δ M →
  (∀ pre d post,pre ++ d :: post=all→∀ δ M,J pre δ M→∀ nx:DSt→Mp→Prop,(∀ δ' M',J (pre ++ [d]) δ' M'→nx δ' M')→g d δ M fun δ2 M2=>tb { E with nx:=nx,ct:=nx,bk:=E.nx } δ2 M2)→(∀ δ M,J all δ M→E.nx δ M)→oR g tb ok E ds δ M
 | [],pre,δ,M,e,j,_,hn=>hn δ M (by rw [← e,List.append_nil]; exact j)
 | d :: r,pre,δ,M,e,j,ht,hn=>ht pre d r e δ M j (fun δ' M'=>ok M'∧oR g tb ok E r δ' M') fun δ' M' j'=>⟨hok _ δ' M' j',dW all J hok r (pre ++ [d]) δ' M' (by rw [← e,List.append_assoc]; rfl) j' ht hn⟩
theorem v7 {K:PySem.W.Frag} {t:Value}:PySem.W.kitOne K t t=some true:=by
 unfold PySem.W.kitOne
 rw [if_pos (by simp)]
theorem wN {c:Bool} {A B:Prop} (h:c=false) (hb:B):if c=true then A else B:=by
 subst h
 exact zx hb
theorem rK {c:Bool} {A B:Prop} (h:c=true) (ha:A):if c=true then A else B:=by
 subst h
 exact wv ha
theorem cut {t u:T3S} {E:nN} {δ:DSt} {M:Mp} (R:DSt→Mp→Prop) (h2:∀ nx:DSt→Mp→Prop,(∀ δ' M',R δ' M'→nx δ' M')→t { E with nx:=nx } δ M) (h1:∀ δ' M',R δ' M'→u E δ' M'):dw t u E δ M:=h2 (u E) h1
theorem B' {K:PySem.W.Frag} {H:Hp} {a:Addr} {ns:List Int} (hO:wb H) (hS:SqL K H a (ns.map V.int)):Has K H (.rl (ns.map D.int)) (.ref a):=by
 have r:RoL K H a (ns.map V.int):=by
  rcases hS with h | h
  ·rcases h with h | ⟨o,h⟩
   ·rcases hO a with z | ⟨o,xs,z⟩ <;> (rw [h] at z; cases z)
   ·exact .inl ⟨o,h⟩
  ·exact .inr h
 unfold Has
 exact ⟨a,_,rfl,r,.ints⟩
theorem BM {K:PySem.W.Frag} {sp:Sp3} {H:Hp} {a:Addr} {ns:List Int} (hO:wb H) (hS:SqL K H a (ns.map V.int)) (h:sp [.rl (ns.map D.int)] (fun _=>none) fun d _=>d=.bl true):up3 K sp [.ref a] H (fun v _=>v=.bl true) fun _ _ _=>False :=
 ⟨_,fun _=>none,_,.cons (B' hO hS) .nil,fun _ _ z=>(by cases z),h,fun v H' d M' x1 _ _ x4=>by subst x4; exact x1.bl_inv⟩
theorem vD {l:PySem.W.OpenLaw} {q:Program} {loose:List Str} {XP:(Str→Option Value)→Heap→Prop} {YP:World→Heap→Prop} {d:DefRec} {K:Params→PySem.W.Frag} {k:Nat} {x:Str} {sp:Sp3} (hn:l.most=some 63) (hdf:d.params.defaults=[]) (hr:bJ k callerA)
  (hY:∀ (w:World) (h:Heap),YP w h→(K w.params).In h)
  (hsp:∀ ns:List Int,ns.length≤63→sp [.rl (ns.map D.int)] (fun _=>none) fun d _=>d=.bl true)
  (F:∀ (w:World) (mg:Str→Option Value) (fa:Addr) (h:Heap),(K w.params).In h→h.Ns mainGlobals mg→mg d.name=some (.ref fa) →
   ∃ fd:FuncData,(∀ (s:Shared) (u:Value),BindsTo s fd ⟨[u],[]⟩ [(x,u)])∧∀ base:Heap,(K w.params).In base→base.Ns mainGlobals mg→Fn3 l.prog w (K w.params) mg base k fa fd [x] sp) :
  PySem.W.WalkO q loose XP YP l.row.toRowW d [] (fun f vs=>PySem.call f vs) :=
 L2.yR (n:=63) (k:=k) (x:=x) (CX:=fun _=>CX0) (sp:=fun w=>up3 (K w.params) sp) hn (by decide) hdf hr hY F (fun _ _ a ns hl hO hS=>BM hO hS (hsp ns hl)) fun _ _ _ _ _ z=>z
end L3
namespace L3
open PySem PySem.Spec PyProof.Rows L2
def KD (K:PySem.W.Frag) (mg:Str→Option Value) (x:Str) (d:D):Prop:=∃ v u,mg x=some u∧bf v u∧∀ H,Has K H d v
theorem AU {K:PySem.W.Frag} {mg:Str→Option Value} {x y:Str} {t:Tok} (h:mg x=some (.str y t)):KD K mg x (.str y):=⟨.str y,_,h,⟨t,rfl⟩,fun _=>.str⟩
theorem iZ {K:PySem.W.Frag} {mg:Str→Option Value} {x:Str} {y:Int} {t:Tok} (h:mg x=some (.int y t)):KD K mg x (.int y):=⟨.int y,_,h,⟨t,rfl⟩,fun _=>.int⟩
theorem vG {K:PySem.W.Frag} {a:Addr} {ss:List Str} {us:List Value} {n:Nat} {sl:Array (Option Value)} (h:K.lookup a=some ⟨.type "tuple",none,.seq us.toArray n,sl⟩) (r:aU (ss.map V.str) us) (hz:us.length≤1000):SqT K (fun _=>none) a (ss.map V.str) :=
 .inr ⟨_,us.toArray,n,h,rfl,rfl,rfl,by rw [List.size_toArray,sizeLine_eq]; omega,by simpa using r⟩
theorem nJ {K:PySem.W.Frag} {H:Hp}:∀ {ss:List Str},aM K H (ss.map D.str) (ss.map V.str)
 | []=>.nil
 | _ :: _=>.cons .str nJ
theorem yg {K:PySem.W.Frag} {mg:Str→Option Value} {x:Str} {a:Addr} {ss:List Str} (h:mg x=some (.ref a)) (q:SqT K (fun _=>none) a (ss.map V.str)):KD K mg x (.tup (ss.map D.str)) :=
 ⟨.ref a,_,h,rfl,fun _=>.tup (zJ q) nJ⟩
section
variable {X:Cx} {pos p:Pos} {x:Str} {d:D} {e o i:Expr} {ta tb td tk:T3} {F:List (Str × List Str)}
theorem c9 (hg:Gl X x) (h:KD X.K X.mg x d) (hd:(x == ("__debug__":Str))=false:=by decide):E3 X (.Name x pos) (c3 d):=by
 obtain ⟨v,u,hm,r,hh⟩:=h
 exact PE.mono (ye hg hm r hd) fun σ H Q' ⟨δ,M,Q,hs,hm,ht,k⟩=>k _ H _ M (hh H) hm .refl ht
def dkM (M:Mp) (a:Addr):Option (List (Key × D)):=match M a with
 | some (.dk kvs)=>some kvs
 | _=>none
def dR (kvs:List (Key × D)) (k:Key):Option D:=(kvs.find? fun p=>decide (p.1=k)).map (·.2)
theorem gF {K:PySem.W.Frag} {H:Hp} {M:Mp} {a:Addr} {kvs:List (Key × D)} (hm:HM K H M) (h:dkM M a=some kvs):∃ vs,H a=some (.dK vs)∧vs.map (·.1)=kvs.map (·.1)∧aM K H (kvs.map (·.2)) (vs.map (·.2)):=by
 unfold dkM at h
 cases e:M a with
 | none=>rw [e] at h; cases h
 | some c =>
  rw [e] at h
  have ok:=hm a c e
  cases c with
  | dk es=>cases h; exact ok
  | ins _ _=>cases h
  | lst _=>cases h
  | exc _=>cases h
theorem oN {K:PySem.W.Frag} {H:Hp} {k:Key}:∀ {kvs:List (Key × D)} {vs:List (Key × V)},vs.map (·.1)=kvs.map (·.1)→aM K H (kvs.map (·.2)) (vs.map (·.2))→(∀ d,dR kvs k=some d→∃ v,fO vs k=some v∧Has K H d v)∧(dR kvs k=none→fO vs k=none)
 | [],[],_,_=>⟨fun d z=>(by cases z),fun _=>rfl⟩
 | [],_ :: _,e,_=>by cases e
 | _ :: _,[],e,_=>by cases e
 | (j,d) :: kvs,(j',v) :: vs,e,h=>by
  have e1:j'=j:=by simpa using (List.cons.inj e).1
  subst e1
  obtain ⟨x,r,e2,h1,h2⟩:=h.inv
  obtain ⟨e3,e4⟩:=List.cons.inj e2
  subst e3 e4
  have ih:=oN (k:=k) (kvs:=kvs) (vs:=vs) (List.cons.inj e).2 h2
  by_cases hk:j'=k
  ·have g:dR ((j',d) :: kvs) k=some d:=by simp [dR,hk]
   have g':fO ((j',v) :: vs) k=some v:=by simp [fO,hk]
   rw [g,g']
   exact ⟨fun d' z=>by cases z; exact ⟨v,rfl,h1⟩,fun z=>by cases z⟩
  ·have g:dR ((j',d) :: kvs) k=dR kvs k:=by simp [dR,hk]
   have g':fO ((j',v) :: vs) k=fO vs k:=by simp [fO,hk]
   rw [g,g']
   exact ih
def wR (x y:D) (M:Mp) (Q:DK):Prop:=match x,y with
 | .ref a,.str k=>(dkM M a).elim False fun kvs=>(dR kvs (.inr k)).elim False fun d=>Q d M
 | _,_=>False
def CD (td tk:T3):T3:=fun δ M Q=>td δ M fun x M1=>tk δ M1 fun y M2=>wR x y M2 Q
theorem fU (hu:X.A.units + 9 < cLine) (ho:E3 X o td) (hi:E3 X i tk) (hs:pI i:=by exact fun _ _=>rfl):E3 X (.Subscript o i pos) (CD td tk):=by
 refine PE.mono (An (r:=R3 X.K wR) (fun value slice pins s σ H vx vy v u Q' I rx ry h hs=>?_) ho hi hs) sK
 obtain ⟨x,y,M,Q,hx,hy,hm,q,k⟩:=h
 unfold wR at q
 split at q
 ·rename_i a0 k0
  obtain ⟨kvs,e1,q⟩:=bv q
  obtain ⟨d,e2,q⟩:=bv q
  cases hx.ref_inv; cases hy.str_inv
  obtain ⟨vs,h1,h2,h3⟩:=gF hm e1
  obtain ⟨w,e3,hw⟩:=(oN h2 h3).1 d e2
  refine zC (by omega) value slice pins s σ H _ _ v u Q' I rx ry ⟨_,w,rfl,?_,k _ _ _ _ hw hm .refl q⟩ hs
  have g:=kK.k (k:=Sum.inr k0) h1
  rw [e3] at g
  exact g
 ·exact q.elim
def vV (neg:Bool) (x y:D) (M:Mp) (Q:DK):Prop:=match x,y with
 | .str k,.ref a=>(dkM M a).elim False fun kvs=>Q (.bl (if neg then !(dR kvs (.inr k)).isSome else (dR kvs (.inr k)).isSome)) M
 | _,_=>False
theorem qR {K:PySem.W.Frag} {H:Hp} {k:Key} {kvs:List (Key × D)} {vs:List (Key × V)} (h2:vs.map (·.1)=kvs.map (·.1)) (h3:aM K H (kvs.map (·.2)) (vs.map (·.2))):(fO vs k).isSome=(dR kvs k).isSome:=by
 obtain ⟨a,b⟩:=oN (k:=k) h2 h3
 cases e:dR kvs k with
 | none=>rw [b e]; rfl
 | some d =>
  obtain ⟨v,e3,_⟩:=a d e
  rw [e3]
  rfl
def CZ (neg:Bool) (tk td:T3):T3:=fun δ M Q=>tk δ M fun x M1=>td δ M1 fun y M2=>vV neg x y M2 Q
theorem CP (hu:X.A.units + 9 < cLine):OpR X (compareOp .In) (R3 X.K (vV false)):=fun pins s σ H vx vy v u Q' I rx ry h=>by
 obtain ⟨x,y,M,Q,hx,hy,hm,q,k⟩:=h
 unfold vV at q
 split at q
 ·obtain ⟨kvs,e1,q⟩:=bv q
  cases hy.ref_inv; cases hx.str_inv
  obtain ⟨vs,h1,h2,h3⟩:=gF hm e1
  refine Bi (by omega) pins s σ H _ _ v u Q' I rx ry ⟨_,_,rfl,kK.k (k:=Sum.inr _) h1,?_⟩
  rw [qR h2 h3]
  exact k _ _ _ _ .bl hm .refl q
 ·exact q.elim
theorem AH (hu:X.A.units + 9 < cLine):OpR X (compareOp .NotIn) (R3 X.K (vV true)):=fun pins s σ H vx vy v u Q' I rx ry h=>by
 obtain ⟨x,y,M,Q,hx,hy,hm,q,k⟩:=h
 unfold vV at q
 split at q
 ·obtain ⟨kvs,e1,q⟩:=bv q
  cases hy.ref_inv; cases hx.str_inv
  obtain ⟨vs,h1,h2,h3⟩:=gF hm e1
  refine uQ (by omega) pins s σ H _ _ v u Q' I rx ry ⟨_,_,rfl,kK.k (k:=Sum.inr _) h1,?_⟩
  rw [qR h2 h3]
  exact k _ _ _ _ .bl hm .refl q
 ·exact q.elim
theorem xu (hu:X.A.units + 9 < cLine) (hi:E3 X i tk) (ho:E3 X o td) (hm:behindInMarks .In o=false:=by first | exact oU _ | with_unfolding_all rfl):B3 X (.Compare i [.In] [o] pos) (b3 (CZ false tk td)):=PT.mono (pQ (CP hu) hi ho hm) fun σ H Q' ⟨δ,M,Q,hs,hm,ht,k⟩ =>
 sK σ H _ ⟨δ,M,_,hs,hm,ht,fun v H1 d M1 hd hm1 e1 q1=>by
  cases d with
  | bl c=>exact ⟨c,hd.bl_inv,k c H1 M1 hm1 e1 q1⟩
  | _=>exact q1.elim⟩
theorem uJ (hu:X.A.units + 9 < cLine) (hi:E3 X i tk) (ho:E3 X o td) (hm:behindInMarks .NotIn o=false:=by first | exact oU _ | with_unfolding_all rfl):B3 X (.Compare i [.NotIn] [o] pos) (b3 (CZ true tk td)):=PT.mono (pQ (AH hu) hi ho hm) fun σ H Q' ⟨δ,M,Q,hs,hm,ht,k⟩ =>
 sK σ H _ ⟨δ,M,_,hs,hm,ht,fun v H1 d M1 hd hm1 e1 q1=>by
  cases d with
  | bl c=>exact ⟨c,hd.bl_inv,k c H1 M1 hm1 e1 q1⟩
  | _=>exact q1.elim⟩
def fV:List D→Option (List (Key × D))
 | []=>some []
 | .tup [.str k,d] :: r=>(fV r).map ((.inr k,d) :: ·)
 | _ :: _=>none
theorem nM {K:PySem.W.Frag} {H:Hp}:∀ {es:List D} {kvs:List (Key × D)} {xs:List V},fV es=some kvs→aM K H es xs→∃ (ts:List Addr) (vs:List (Key × V)),xs=ts.map V.ref∧ts.length=vs.length∧vs.map (·.1)=kvs.map (·.1)∧aM K H (kvs.map (·.2)) (vs.map (·.2)) ∧
  ∀ (j:Nat) (t:Addr) (p:Key × V),ts[j]?=some t→vs[j]?=some p→SqT K H t [kV p.1,p.2]
 | [],_,_,e,h=>by
  cases e
  exact ⟨[],[],h.nil_inv,rfl,rfl,.nil,fun j t p z=>by simp at z⟩
 | d :: es,kvs,xs,e,h=>by
  obtain ⟨x,r,rfl,h1,h2⟩:=h.inv
  unfold fV at e
  split at e
  ·rename_i z; cases z
  ·rename_i k d' r' z
   cases z
   cases q:fV es with
   | none=>rw [q] at e; cases e
   | some kvs' =>
    rw [q] at e
    cases e
    obtain ⟨ts,vs,e1,e2,e3,e4,e5⟩:=nM q h2
    obtain ⟨a,ys,rfl,g1,g2⟩:=h1.tup_inv
    obtain ⟨y,r1,rfl,g3,g4⟩:=g2.inv
    obtain ⟨w,r2,rfl,g5,g6⟩:=g4.inv
    cases g6.nil_inv
    cases g3.str_inv
    refine ⟨a :: ts,(.inr k,w) :: vs,by rw [e1]; rfl,by simpa using e2,by rw [List.map_cons,List.map_cons,e3],.cons g5 e4,fun j t p z1 z2=>?_⟩
    cases j with
    | zero =>
     have z1':a=t:=by simpa using z1
     have z2':(Sum.inr k,w)=p:=by simpa using z2
     subst z1' z2'
     exact g1
    | succ j=>exact e5 j t p (by simpa using z1) (by simpa using z2)
  ·cases e
def Ah (ds:List D) (M:Mp) (Q:DK):Prop:=match ds with
 | [.ref a]=>(lstM M a).elim False fun es=>(fV es).elim False fun kvs=>(kvs.map (·.1)).Nodup∧∀ p,M p=none→Q (.ref p) (am M p (.dk kvs))
 | _=>False
theorem pi (hc:X.calm=true):C3 X (.type "dict") Ah:=by
 intro pins s σ H vs us Q' I rv h
 obtain ⟨ds,M,Q,hd,hm,q,k⟩:=h
 unfold Ah at q
 split at q
 ·obtain ⟨es,e1,q⟩:=bv q
  obtain ⟨kvs,e2,hnd,q⟩:=bv q
  obtain ⟨v,rfl,hv⟩:=bN hd
  cases hv.ref_inv
  obtain ⟨xs,h1,h2,_⟩:=aR hm e1
  obtain ⟨ts,ws,rfl,f2,f3,f4,f5⟩:=nM e2 h2
  refine sL hc pins s σ H _ us Q' I rv ⟨_,ts,ws,rfl,h1,f2,f5,by rw [f3]; exact hnd,fun d hd=>?_⟩
  have e:bg X.K H (upd H d (.dK ws)):=.new hd
  exact k _ _ _ _ .ref (hm.new (c:=.dk kvs) hd ⟨_,aN,f3,f4.mono e⟩) e (q d (hm.fresh hd))
 ·exact q.elim
theorem BJ:bootBuiltins "set"=some (.type "set"):=by decide +kernel
def mh:List D→Option (List Str)
 | []=>some []
 | .str x :: r=>(mh r).map (x :: ·)
 | _ :: _=>none
theorem lq:∀ ss:List Str,mh (ss.map D.str)=some ss
 | []=>rfl
 | x :: r=>by
  show (mh (r.map D.str)).map (x :: ·)=_
  rw [lq r]
  rfl
theorem ql {K:PySem.W.Frag} {H:Hp}:∀ {ds:List D} {ss:List Str} {xs:List V},mh ds=some ss→aM K H ds xs→xs=ss.map V.str
 | [],_,_,e,h=>by cases e; exact h.nil_inv
 | d :: ds,_,_,e,h=>by
  obtain ⟨x,r,rfl,h1,h2⟩:=h.inv
  cases d with
  | str z =>
   unfold mh at e
   cases q:mh ds with
   | none=>rw [q] at e; cases e
   | some ss =>
    rw [q] at e
    cases e
    rw [h1.str_inv,ql q h2]
    rfl
  | _=>cases e
def CY (ta:T3):T3:=fun δ M Q=>ta δ M fun x M1=>(wz M1 x).elim False fun es=>(mh es).elim False fun ss=>ss.length < 4000∧Q (.int (cE ss).length) M1
theorem ux {p2 pos2:Pos} (hc:X.calm=true) (he:E3 X e ta) (hg1:Gl X "len") (hm1:X.mg "len"=none) (hg2:Gl X "set") (hm2:X.mg "set"=none) (b1:bootBuiltins "len"=some (.builtin "len")) (b2:bootBuiltins "set"=some (.type "set"))
  (hs:starEach [e] X.env=[(false,eval e X.env)]:=by rfl):E3 X (.Call (.Name "len" p) [.Call (.Name "set" p2) [e] [] pos2] [] pos) (CY ta) :=
 PE.mono (uo hc he hg1 hm1 hg2 hm2 b1 b2 hs) fun σ H Q' ⟨δ,M,Q,hs,hm,ht,k⟩=>⟨δ,M,_,hs,hm,ht,fun v H1 d M1 hd hm1 e1 q1=>by
  obtain ⟨es,e2,q1⟩:=bv q1
  obtain ⟨ss,e3,hz,q1⟩:=bv q1
  obtain ⟨a,xs,rfl,h1,h2⟩:=oP hm1 hd e2
  rw [ql e3 h2] at h1
  have z:scanBound=4096:=rfl
  exact ⟨a,ss,rfl,h1,by omega,k _ _ _ _ .int hm1 e1 q1⟩⟩
def BH (x:D) (ds:List D) (M:Mp) (Q:DK):Prop:=match x,ds with
 | .ref a,[y]=>(lstM M a).elim False fun es=>es.length < sizeLine∧Q .non (am M a (.lst (es ++ [y])))
 | _,_=>False
theorem aY {M:Mp} {a:Addr} {es:List D} (h:lstM M a=some es):M a=some (.lst es):=by
 unfold lstM at h
 split at h
 ·rename_i e; rw [e]; cases h; rfl
 ·cases h
theorem tH {K:PySem.W.Frag} {H:Hp} {M:Mp} {a:Addr} {es:List D} (hm:HM K H M) (h:lstM M a=some es):∃ xs,H a=some (.lst xs)∧aM K H es xs:=hm a _ (aY h)
theorem uF:M3 X "list.append" BH:=by
 intro pins s σ H vx vs v us Q' I rx rv h
 obtain ⟨x,ds,M,Q,hx,hd,hm,q,k⟩:=h
 unfold BH at q
 split at q
 ·obtain ⟨es,e1,hz,q⟩:=bv q
  obtain ⟨w,rfl,hw⟩:=bN hd
  cases hx.ref_inv
  obtain ⟨xs,h1,h2⟩:=tH hm e1
  refine vi pins s σ H _ _ v us Q' I rx rv ⟨_,xs,w,rfl,rfl,h1,by rw [← h2.length]; exact hz,?_⟩
  obtain ⟨hm2,ex⟩:=hm.put (c:=.lst (es ++ [_])) (aY e1) fun ex=>⟨_,aN,(h2.mono ex).snoc (hw.mono ex)⟩
  exact k _ _ _ _ .non hm2 ex q
 ·exact q.elim
variable {es:List Expr} {t:T3A} {apos:Pos}
theorem bM (ho:E3 X o ta) (ha:A3 X (e :: es) t) (hbase:attributeBase o "append" X.env (eval o X.env)=eval o X.env:=by rfl)
  (hfew:((backTo pos (starEach (e :: es) X.env)).all (fun x=>!x.1) && (backToKw pos (keywordEach [] X.env)).all (fun x=>x.1.isSome) && decide ((e :: es).length + ([]:List Keyword).length + (if ([]:List Keyword).isEmpty then 0 else 1) < 30))=true:=by rfl)
  (hline:(apos.endLine == pos.line)=true:=by rfl) (hs:starEach (e :: es) X.env=(false,eval e X.env) :: starEach es X.env:=by rfl) (hplain:(backTo pos (starEach es X.env)).any (·.1)=false:=by rfl) :
  E3 X (.Call (.Attribute o "append" apos) (e :: es) [] pos) (lm3 BH ta t):=Ae PySem.F.slot_list_append PySem.F.type_list_append uF ho ha hbase hfew hline hs hplain
end
end L3
namespace L3
open PySem PySem.Spec PyProof.Rows L2
theorem Sub.none {M M2:Mp} {q:Addr} (s:Sub M M2) (h:M2 q=none):M q=none:=by
 cases e:M q with
 | none=>rfl
 | some c=>rw [s q c e] at h; cases h
theorem Sub.upd {M M2:Mp} {q:Addr} {c:fB} (s:Sub M M2):Sub (am M q c) (am M2 q c):=fun x d h=>by
 by_cases e:x=q
 ·subst e; rw [aL] at h ⊢; exact h
 ·rw [cR e] at h ⊢; exact s x d h
theorem Sub.dk {M M':Mp} {a:Addr} {ds:List (Key × D)} (s:Sub M M') (h:dkM M a=some ds):dkM M' a=some ds:=by
 unfold dkM at h ⊢
 cases e:M a with
 | none=>rw [e] at h; cases h
 | some c=>rw [s a c e]; rw [e] at h; exact h
def ck (p:Addr) (M M':Mp):Prop:=∀ b c,b ≠ p→M b=some c→M' b=some c
theorem Sub.keep {M M':Mp} {p:Addr} (s:Sub M M'):ck p M M':=fun b c _ h=>s b c h
theorem ck.trans {M M1 M2:Mp} {p:Addr} (a:ck p M M1) (b:ck p M1 M2):ck p M M2:=fun x c n h=>b x c n (a x c n h)
theorem ck.put {M:Mp} {p:Addr} {c:fB}:ck p M (am M p c):=fun b d n h=>by rw [cR n]; exact h
theorem ck.lst {M M':Mp} {p a:Addr} {ds:List D} (k:ck p M M') (n:a ≠ p) (h:lstM M a=some ds):lstM M' a=some ds:=by
 have:=k a _ n (aY h)
 unfold lstM
 rw [this]
theorem ck.dk {M M':Mp} {p a:Addr} {ds:List (Key × D)} (k:ck p M M') (n:a ≠ p) (h:dkM M a=some ds):dkM M' a=some ds:=by
 unfold dkM at h ⊢
 cases e:M a with
 | none=>rw [e] at h; cases h
 | some c=>rw [k a c n e]; rw [e] at h; exact h
theorem aG {M:Mp} {a p C:Addr} {ds:List D} {fs:List (Str × D)} (h:lstM M a=some ds) (hp:M p=some (.ins C fs)):a ≠ p:=fun z=>by
 subst z
 rw [aY h] at hp
 cases hp
theorem oz {M:Mp} {a p C:Addr} {ds:List (Key × D)} {fs:List (Str × D)} (h:dkM M a=some ds) (hp:M p=some (.ins C fs)):a ≠ p:=fun z=>by
 subst z
 unfold dkM at h
 rw [hp] at h
 cases h
theorem cx {M:Mp} {p:Addr} {ds:List D} (h:M p=some (.lst ds)):lstM M p=some ds:=by
 unfold lstM
 rw [h]
theorem j9 {M:Mp} {p:Addr} {ds:List (Key × D)} (h:M p=some (.dk ds)):dkM M p=some ds:=by
 unfold dkM
 rw [h]
theorem cf {N:Mp} {p q C:Addr} {fs fs':List (Str × D)} {c:fB} (hp:N p=some (.ins C fs)) (hq:N q=none) :
  q ≠ p∧am N q c p=some (.ins C fs)∧ck p N (am (am N q c) p (.ins C fs'))∧am (am N q c) p (.ins C fs') q=some c∧am (am N q c) p (.ins C fs') p=some (.ins C fs'):=by
 have n:p ≠ q:=neM hp hq
 refine ⟨Ne.symm n,by rw [cR n]; exact hp,(Sub.new hq).keep.trans .put,by rw [cR (Ne.symm n),aL],aL⟩
theorem jq {g:T3G} {te:T3} {ok:Mp→Prop} {Q:DK} (all:List D) (J:List D→List D→DSt→Mp→Prop) (hok:∀ p acc δ M,J p acc δ M→ok M):∀ (ds pre acc:List D) (δ:DSt) (M:Mp),pre ++ ds=all→acc.length + ds.length≤sizeLine→J pre acc δ M →
  (∀ pre d post,pre ++ d :: post=all→∀ acc δ M,J pre acc δ M→∀ k:DSt→DK,(∀ δ2 y M4,J (pre ++ [d]) (acc ++ [y]) δ2 M4→k δ2 y M4)→g d δ M fun δ2 M2=>te δ2 M2 (k δ2)) →
  (∀ acc δ M,J all acc δ M→∀ p,M p=none→Q (.ref p) (am M p (.lst acc)))→eY g ou te ok Q ds acc δ M
 | [],pre,acc,δ,M,e,hl,j,_,hq=>⟨by simpa using hl,hq acc δ M (by rw [← e,List.append_nil]; exact j)⟩
 | d :: r,pre,acc,δ,M,e,hl,j,ht,hq=>by
  rw [List.length_cons] at hl
  refine ⟨by omega,?_⟩
  refine ht pre d r e acc δ M j (fun δ2 y M4=>ok M4∧eY g ou te ok Q r (acc ++ [y]) δ2 M4) fun δ2 y M4 j'=>⟨hok _ _ _ _ j',jq all J hok r (pre ++ [d]) (acc ++ [y]) δ2 M4 (by rw [← e,List.append_assoc]; rfl) ?_ j' ht hq⟩
  rw [List.length_append,List.length_singleton]
  omega
end L3
namespace L3
open PySem PySem.Spec PyProof.Rows L2
def ce:Nat→D→Bool
 | _,.non=>true
 | _,.bl _=>true
 | _,.int _=>true
 | _,.str _=>true
 | n + 1,.tup ds=>ds.all (ce n)
 | _,_=>false
theorem iJ {f:D→D→Option Bool}:∀ ds:List D,(∀ d∈ds,f d d=some true)→bX f ds ds=some true
 | [],_=>rfl
 | d :: r,h=>by
  show (f d d).bind (fun p=>(bX f r r).map fun q=>p && q)=some true
  rw [h d List.mem_cons_self,iJ r fun e he=>h e (List.mem_cons_of_mem _ he)]
  rfl
theorem mO {M:Mp}:∀ (n:Nat) (d:D),ce n d=true→eqD M (n + 1) d d=some true
 | _,.non,_=>rfl
 | _,.bl _,_=>by simp [eqD]
 | _,.int _,_=>by simp [eqD]
 | _,.str _,_=>by simp [eqD]
 | n + 1,.tup ds,h=>by
  have h:ds.all (ce n)=true:=h
  show (bX (eqD M (n + 1)) ds ds).map (fun p=>p && ds.length == ds.length)=some true
  rw [iJ ds fun d hd=>mO n d (List.all_eq_true.mp h d hd)]
  simp
 | 0,.tup _,h=>by cases h
 | 0,.ref _,h=>by cases h
 | _ + 1,.ref _,h=>by cases h
 | 0,.ty _,h=>by cases h
 | _ + 1,.ty _,h=>by cases h
 | 0,.rl _,h=>by cases h
 | _ + 1,.rl _,h=>by cases h
theorem u6 {M:Mp} {n:Nat} {a b:Addr} {ds:List D} (ha:lstM M a=some ds) (hb:lstM M b=some ds) (h:∀ d∈ds,eqD M n d d=some true):eqD M (n + 1) (.ref a) (.ref b)=some true:=by
 show (lstM M a).bind (fun i=>(lstM M b).bind fun j=>if i.length=j.length then bX (eqD M n) i j else some false)=some true
 rw [ha,hb]
 show (if ds.length=ds.length then bX (eqD M n) ds ds else some false)=some true
 rw [if_pos rfl]
 exact iJ ds h
section
variable {X:Cx} {pos apos:Pos} {o e:Expr} {es:List Expr} {ta:T3} {t:T3A}
end
end L3
namespace L3
open PySem PySem.Spec PyProof.Rows L2
section
variable {X:Cx} {pos:Pos}
def Br (tc:T3T) (tb:T3S):T3S:=fun E δ M=>∃ W:Nat→DSt→Mp→Prop,(∃ m,W m δ M)∧∀ m δ M,W m δ M →
 tc δ M fun b M1=>if b=true then tb { E with nx:=fun δ' M'=>∃ m',m' < m∧W m' δ' M',ct:=fun δ' M'=>∃ m',m' < m∧W m' δ' M',bk:=E.nx } δ M1 else E.nx δ M1
theorem xt {c:Expr} {body:List Stmt} {tc:T3T} {tb:T3S} (hp:PassesOwn (model X.prog X.w) X.A X.env X.xe) (hc:B3 X c tc) (hb:Ss3 X body tb):S3 X (.While c body [] pos) (Br tc tb) :=
 PS.mono (wT hp hc hb) fun D' σ H ⟨δ,M,E,hs,hm,⟨W,⟨m0,w0⟩,turn⟩,k1,k2,k3,k4⟩=>by
 refine ⟨fun m σ' H'=>∃ δ' M',St3 X.K H' σ' δ'∧HM X.K H' M'∧bg X.K H H'∧σ'.length=σ.length∧W m δ' M',⟨m0,δ,M,hs,hm,.refl,rfl,w0⟩,?_⟩
 rintro m σ1 H1 ⟨δ1,M1,hs1,hm1,e1,l1,w1⟩
 refine ⟨δ1,M1,_,hs1,hm1,turn m δ1 M1 w1,fun b H2 M2 hm2 e2 q2=>?_⟩
 cases b with
 | false =>
  rw [if_neg Bool.false_ne_true] at q2 ⊢
  exact k1 σ1 H2 δ1 M2 (hs1.mono e2) hm2 (e1.trans e2) l1 q2
 | true =>
  rw [if_pos rfl] at q2 ⊢
  refine ⟨fun σ' H'=>∃ δ' M',St3 X.K H' σ' δ'∧HM X.K H' M'∧bg X.K H H'∧σ'.length=σ.length∧∃ m',m' < m∧W m' δ' M',?_,δ1,M2,_,hs1.mono e2,hm2,q2,?_,?_,?_,?_⟩
  ·rintro σ' H' ⟨δ',M',a1,a2,a3,a4,m',lt,w⟩
   exact ⟨m',lt,δ',M',a1,a2,a3,a4,w⟩
  ·exact fun σ' H' δ' M' y1 y2 y3 y4 y5=>⟨δ',M',y1,y2,e1.trans (e2.trans y3),by rw [y4,l1],y5⟩
  ·exact fun v H' d M' y1 y2 y3 y4=>k2 v H' d M' y1 y2 (e1.trans (e2.trans y3)) y4
  ·exact fun σ' H' δ' M' y1 y2 y3 y4 y5=>k1 σ' H' δ' M' y1 y2 (e1.trans (e2.trans y3)) (by rw [y4,l1]) y5
  ·exact fun σ' H' δ' M' y1 y2 y3 y4 y5=>⟨δ',M',y1,y2,e1.trans (e2.trans y3),by rw [y4,l1],y5⟩
end
end L3
namespace L3
open PySem PySem.Spec PyProof.Rows L2
theorem cX {i:Nat} {tt:T3T} {te:T3} {ok:Mp→Prop} {Q:DK} {f:D→D} {t:D→Bool} {M:Mp} (hok:ok M):∀ (ds acc:List D) (δ:DSt),acc.length + ds.length≤sizeLine →
  (∀ d∈ds,∀ k:Bool→Mp→Prop,k (t d) M→tt (δ.set i (some d)) M k)→(∀ d∈ds,t d=true→∀ k:DK,k (f d) M→te (δ.set i (some d)) M k) →
  (∀ p,M p=none→Q (.ref p) (am M p (.lst (acc ++ (ds.filter t).map f))))→eY (fq i) tt te ok Q ds acc δ M
 | [],acc,δ,hl,_,_,hq=>⟨by simpa using hl,by simpa using hq⟩
 | d :: r,acc,δ,hl,ht,he,hq=>by
  rw [List.length_cons] at hl
  refine ⟨by omega,?_⟩
  show tt (δ.set i (some d)) M _
  refine ht d List.mem_cons_self _ ?_
  have z:∀ e:D,(δ.set i (some d)).set i (some e)=δ.set i (some e):=fun e=>by rw [List.set_set]
  cases q:t d with
  | true =>
   rw [if_pos rfl]
   refine he d List.mem_cons_self q _ ⟨hok,cX (f:=f) (t:=t) hok r (acc ++ [f d]) _ ?_ (fun e m k h=>?_) (fun e m h0 k h=>?_) ?_⟩
   ·rw [List.length_append,List.length_singleton]; omega
   ·rw [z]; exact ht e (List.mem_cons_of_mem _ m) k h
   ·rw [z]; exact he e (List.mem_cons_of_mem _ m) h0 k h
   ·intro p hp
    have:=hq p hp
    rw [List.filter_cons_of_pos q] at this
    simpa using this
  | false =>
   rw [if_neg Bool.false_ne_true]
   refine ⟨hok,cX (f:=f) (t:=t) hok r acc _ (by omega) (fun e m k h=>?_) (fun e m h0 k h=>?_) ?_⟩
   ·rw [z]; exact ht e (List.mem_cons_of_mem _ m) k h
   ·rw [z]; exact he e (List.mem_cons_of_mem _ m) h0 k h
   ·intro p hp
    have:=hq p hp
    rw [List.filter_cons_of_neg (by rw [q]; exact Bool.false_ne_true)] at this
    exact this
section
variable {X:Cx} {pos:Pos} {a:Expr} {ta:T3}
def Dx (ta:T3):T3:=fun δ M Q=>ta δ M fun x M1=>match x with | .int i=>Q (.int (-i)) M1 | _=>False
theorem rQ (ha:E3 X a ta):E3 X (.UnaryOp .USub a pos) (Dx ta):=PE.mono (Cp AR ha) fun σ H Q' ⟨δ,M,Q,hs,hm,ht,k⟩ =>
 ⟨δ,M,_,hs,hm,ht,fun v H1 d M1 hd hm1 e1 q1=>by
  cases d with
  | int i =>
   cases hd.int_inv
   exact ⟨i,rfl,k _ H1 _ M1 .int hm1 e1 q1⟩
  | _=>exact q1.elim⟩
end
end L3
namespace L2
open PySem PySem.Spec PyProof.Rows PySem.W
def lf {α:Type} (lt:Nat→Nat→Bool):KasT α→α
 | .ret a=>a
 | .ask i j k=>lf lt (k (lt i j))
def eC (n:Nat):KasT (Array Nat)→Bool
 | .ret p=>p.size == n && p.toList.all fun i=>decide (i < n)
 | .ask i j k=>decide (i < n) && decide (j < n) && eC n (k true) && eC n (k false)
theorem qU {n i j:Nat} {k:Bool→KasT (Array Nat)} (h:eC n (.ask i j k)=true):i < n∧j < n∧∀ b,eC n (k b)=true:=by
 simp only [eC,Bool.and_eq_true,decide_eq_true_eq] at h
 exact ⟨h.1.1.1,h.1.1.2,fun b=>by cases b; exact h.2; exact h.1.2⟩
theorem rp {cmp:Nat→Nat→(Bool→Shared→Prop)→Shared→Prop} {lt:Nat→Nat→Bool} {n:Nat} {s:Shared} {Q:Array Nat→Shared→Prop} (hc:∀ i j (C:Bool→Shared→Prop),i < n→j < n→C (lt i j) s→cmp i j C s) :
  ∀ t:KasT (Array Nat),eC n t=true→Q (lf lt t) s→t.kasWp cmp Q s
 | .ret _,_,q=>q
 | .ask i j k,hb,q=>by
  obtain ⟨h1,h2,h3⟩:=qU hb
  exact hc i j _ h1 h2 (rp hc (k (lt i j)) (h3 _) q)
theorem tV {lt:Nat→Nat→Bool} {n:Nat}:∀ t:KasT (Array Nat),eC n t=true→(lf lt t).size=n∧∀ i∈(lf lt t).toList,i < n
 | .ret p,hb=>by
  simp only [eC,Bool.and_eq_true,beq_iff_eq,List.all_eq_true,decide_eq_true_eq] at hb
  exact hb
 | .ask i j k,hb=>tV (k (lt i j)) ((qU hb).2.2 _)
def cG (lt:Nat→Nat→Bool) (n:Nat):List Nat:=if n < 2 then List.range n else (lf lt (kas_sort n)).toList
theorem DC:eC 2 (kas_sort 2)=true:=by decide +kernel
theorem DE:eC 3 (kas_sort 3)=true:=by decide +kernel
theorem Cu {n:Nat} (h2:2≤n) (h3:n≤3):eC n (kas_sort n)=true:=by
 have:n=2∨n=3:=by omega
 rcases this with rfl | rfl
 ·exact DC
 ·exact DE
theorem g9 {lt:Nat→Nat→Bool} {n:Nat} (h3:n≤3):(cG lt n).length=n∧∀ i∈cG lt n,i < n:=by
 unfold cG
 by_cases h:n < 2
 ·rw [if_pos h,List.length_range]
  exact ⟨rfl,fun i hi=>List.mem_range.mp hi⟩
 ·rw [if_neg h]
  obtain ⟨h1,h2⟩:=tV (lt:=lt) (kas_sort n) (Cu (by omega) h3)
  exact ⟨by rw [Array.length_toList]; exact h1,h2⟩
section
variable {prog:Program} {w:World} {A:Around} {E:Value→Shared→Prop} {s:Shared}
theorem mT {a:Addr} {vs:List Value} {n:Nat} {κ:SortKind} {lt:Nat→Nat→Bool} {P:PySem.Fin→Shared→Prop} (ho:s.heap.get? a=some (seqObj "list" vs.toArray n)) (h3:vs.length≤3)
  (hk:∀ h' (Q:SortKind→Shared→Prop),0 < vs.length→(∀ b o,b ≠ a→s.heap.get? b=some o→h'.get? b=some o)→Q κ { s with heap:=h' }→wpAny (model prog w) A (keyKind' vs.toArray) Q (fun _ _=>False) { s with heap:=h' })
  (hlt:∀ h' i j (C:Bool→Shared→Prop),(∀ b o,b ≠ a→s.heap.get? b=some o→h'.get? b=some o)→i < vs.length→j < vs.length→C (lt i j) { s with heap:=h' }→wpAny (model prog w) A (keyLt' κ (vs.getD i .none) (vs.getD j .none)) C (fun _ _=>False) { s with heap:=h' })
  (h:P (.done (.ret .none)) { s with heap:=sortedHeap s.heap a vs (List.toArray ((cG lt vs.length).map fun i=>vs.getD i Value.none)) }) :
  wpAny (model prog w) A (Builtin.«list.sort» ⟨[.ref a],[]⟩) P E s:=by
 rw [list_sort_plain]
 have hz:sizeLine=16777216:=sizeLine_eq
 have ha:a < s.heap.objs.size:=Heap.lt_size ho
 refine wpAny_bind (listItems_at ho rfl ?_)
 refine wpAny_bind (listUpdate_at ho rfl ?_ (by rw [List.size_toArray]; omega) (Nat.zero_le _))
 obtain ⟨e1,ho1⟩:∃ e1,(s.heap.update a (Obj.mapSeq fun _=>#[])).get? a=some (seqObj "list" #[] e1):=⟨_,get?_update_seq ho (fun _=>#[])⟩
 refine wpAny_bind (seqEpoch_at ho1 rfl ?_)
 refine wpAny_bind (wpAny_newTuple ?_ (by show vs.length≤_; omega))
 refine wpAny_bind (wpAny_newList ?_ (Nat.zero_le _))
 refine wpAny_holding ?_
 have ho6:(((s.heap.update a (Obj.mapSeq fun _=>#[])).push (seqObj "tuple" vs.toArray 0)).push (seqObj "list" #[] 0)).get? a=some (seqObj "list" #[] e1):=by
  rw [Heap.get?_push_ne _ _ _ (by rw [size_push',Heap.size_update]; exact Nat.ne_of_lt (Nat.lt_succ_of_lt ha)),Heap.get?_push_ne _ _ _ (by rw [Heap.size_update]; exact Nat.ne_of_lt ha)]
  exact ho1
 have keep:∀ b o,b ≠ a→s.heap.get? b=some o→(((s.heap.update a (Obj.mapSeq fun _=>#[])).push (seqObj "tuple" vs.toArray 0)).push (seqObj "list" #[] 0)).get? b=some o:=fun b o hb q=>by
  have hlt:b < s.heap.objs.size:=Heap.lt_size q
  rw [Heap.get?_push_ne _ _ _ (by rw [size_push',Heap.size_update]; exact Nat.ne_of_lt (Nat.lt_succ_of_lt hlt)),Heap.get?_push_ne _ _ _ (by rw [Heap.size_update]; exact Nat.ne_of_lt hlt),Heap.get?_update_ne _ _ _ _ hb]
  exact q
 show wpAny (model prog w) A _ P E { s with heap:=((s.heap.update a (Obj.mapSeq fun _=>#[])).push (seqObj "tuple" vs.toArray 0)).push (seqObj "list" #[] 0) }
 dsimp only
 have hsz:vs.toArray.size=vs.length:=by simp
 by_cases h2:vs.toArray.size < 2
 ·rw [if_pos h2,if_pos h2]
  refine wpAny_bind (wpAny_pure ?_)
  rw [StateT.run_pure]
  refine wpAny_bind (wpAny_pure ?_)
  dsimp only
  refine wpAny_bind (seqEpoch_at ho6 rfl ?_)
  have eo:(arrOf (SortSt.mk' general' (vs.toArray.zip vs.toArray) #[] 7 none)).map (·.2)=List.toArray ((cG lt vs.length).map fun i=>vs.getD i Value.none):=by
   unfold cG
   rw [if_pos (by omega)]
   show ((vs.toArray.zip vs.toArray).map (·.2))=_
   match vs,hsz,h2 with
   | [],_,_=>simp
   | [_],_,_=>simp [List.range_succ]
   | _ :: _ :: _,_,h2=>simp at h2; omega
  rw [eo]
  refine wpAny_bind (listUpdate_at ho6 rfl ?_ (Nat.zero_le _) (by rw [List.size_toArray,List.length_map,(g9 h3).1]; omega))
  simp only [bne_self_eq_false,Bool.false_eq_true,if_false]
  exact wpAny_pure h
 ·rw [if_neg h2,if_neg h2]
  have g2:2≤vs.length:=by omega
  refine wpAny_bind (wpAny_mono (hk _ (fun κ' s'=>κ'=κ∧s'={ s with heap:=((s.heap.update a (Obj.mapSeq fun _=>#[])).push (seqObj "tuple" vs.toArray 0)).push (seqObj "list" #[] 0) }) (by omega) keep ⟨rfl,rfl⟩) ?_ fun _ _ x=>x.elim)
  rintro κ' s' ⟨rfl,rfl⟩
  refine wpAny_bind (wpAny_mono (kat_run (ks:=vs) (vs:=vs) (Q:=fun st' s'=>∃ p:Array Nat,arrOf st'=p.map (kas_item (vs.toArray.zip vs.toArray))∧failedOf st'=none∧p.toList=cG lt vs.length∧s'={ s with heap:=((s.heap.update a (Obj.mapSeq fun _=>#[])).push (seqObj "tuple" vs.toArray 0)).push (seqObj "list" #[] 0) })
   (G:=fun p s'=>p.toList=cG lt vs.length∧s'={ s with heap:=((s.heap.update a (Obj.mapSeq fun _=>#[])).push (seqObj "tuple" vs.toArray 0)).push (seqObj "list" #[] 0) })
   rfl g2 (by omega) (fun p' st' s' a1 a2 a3 a4=>⟨p',a2,a3,a4⟩) (rp (n:=vs.length) (lt:=lt) (fun i j C hi hj hC=>hlt _ i j C keep hi hj hC) _ (Cu g2 h3) ⟨by unfold cG; rw [if_neg (by omega)],rfl⟩)) ?_ fun _ _ e=>e)
  rintro ⟨⟨⟩,st'⟩ s' ⟨p,har,hf,hp,rfl⟩
  dsimp only
  have hout:=kat_snds rfl har
  rw [hp] at hout
  refine wpAny_bind (seqEpoch_at ho6 rfl ?_)
  rw [hout]
  refine wpAny_bind (listUpdate_at ho6 rfl ?_ (Nat.zero_le _) (by rw [List.size_toArray,List.length_map,(g9 h3).1]; omega))
  rw [hf]
  simp only [bne_self_eq_false,Bool.false_eq_true,if_false]
  exact wpAny_pure h
def ltP (a b:Str × Int):Bool:=if a.1 == b.1 then (if a.2 == b.2 then false else decide (a.2 < b.2)) else decide (a.1.cps.toList < b.1.cps.toList)
theorem zp {x y:Addr} {ox oy:Obj} {n k:Nat} {a b:Str × Int} {t1 t2 t3 t4:Tok} {C:Bool→Shared→Prop} (hx:s.heap.get? x=some ox) (dx:ox.data=.seq #[.str a.1 t1,.int a.2 t2] n) (hy:s.heap.get? y=some oy) (dy:oy.data=.seq #[.str b.1 t3,.int b.2 t4] k) (h:C (ltP a b) s) :
  wpAny (model prog w) A (keyLt' (tuples' true) (.ref x) (.ref y)) C E s:=by
 refine kat_lt hx dx hy dy ?_
 show KatLex prog w A true _ C [(Value.str a.1 t1,Value.str b.1 t3),(Value.int a.2 t2,Value.int b.2 t4)] 0 s
 unfold ltP at h
 refine kat_cons (eqBool_str ?_)
 cases e:a.1 == b.1 with
 | true =>
  rw [e,if_pos rfl] at h
  refine kat_yes (kat_cons (wpAny_eqBool_int ?_))
  cases e2:a.2 == b.2 with
  | true =>
   rw [e2,if_pos rfl] at h
   exact kat_yes (kat_nil h)
  | false =>
   rw [e2,if_neg Bool.false_ne_true] at h
   exact kat_no (kat_one _ _ (PyProof.Rows.lt_int h))
 | false =>
  rw [e,if_neg Bool.false_ne_true] at h
  exact kat_no (oneLt_str h)
end
end L2
namespace L2
open PySem PySem.Spec PyProof.Rows PySem.W
theorem nk {x:Str} {v:Value} (h:mE (.inr x) v=true):∃ t,v=.str x t:=by
 rcases bB h with ⟨i,t,e,_⟩ | ⟨y,t,e,e2⟩
 ·cases e
 ·cases e; exact ⟨t,e2⟩
def pW (ps:List (Str × Int)) (i j:Nat):Bool:=ltP (ps.getD i ("",0)) (ps.getD j ("",0))
def cA (ps:List (Str × Int)):List (Str × Int):=(cG (pW ps) ps.length).map fun i=>ps.getD i ("",0)
theorem nZ {ps:List (Str × Int)} (h:ps.length≤3):(cA ps).length=ps.length:=by
 unfold cA
 rw [List.length_map]
 exact (g9 h).1
def Pr (h:Heap) (a:Addr) (p:Str × Int):Prop:=∃ t1 t2,h.get? a=some { cls:=.type "tuple",data:=.seq #[.str p.1 t1,.int p.2 t2] }
theorem Pr.inj {h:Heap} {a:Addr} {p q:Str × Int} (x:Pr h a p) (y:Pr h a q):p=q:=by
 obtain ⟨t1,t2,e1⟩:=x
 obtain ⟨u1,u2,e2⟩:=y
 rw [e1] at e2
 have:=Option.some.inj e2
 simp only [Obj.mk.injEq,Data.seq.injEq,Array.mk.injEq,List.cons.injEq,Value.str.injEq,Value.int.injEq] at this
 exact Prod.ext (by simp_all) (by simp_all)
theorem uc {h:Heap}:∀ (as:List Addr) (ps:List (Str × Int)),as.length=ps.length→(∀ (j:Nat) (a:Addr) (p:Str × Int),as[j]?=some a→ps[j]?=some p→Pr h a p)→∃ fs,KatTups h (as.map Value.ref) fs∧fs.length=as.length∧∀ v∈fs,∃ x t,v=Value.str x t
 | [],[],_,_=>⟨[],.nil,rfl,fun v hv=>nomatch hv⟩
 | [],_ :: _,e,_=>by cases e
 | _ :: _,[],e,_=>by cases e
 | a :: as,p :: ps,e,hp=>by
  obtain ⟨fs,h1,h2,h3⟩:=uc as ps (by simpa using e) fun j a' p' e1 e2=>hp (j + 1) a' p' (by simpa using e1) (by simpa using e2)
  obtain ⟨t1,t2,ea⟩:=hp 0 a p rfl rfl
  refine ⟨.str p.1 t1 :: fs,.cons ea rfl rfl rfl h1,by simp [h2],fun v hv=>?_⟩
  rcases List.mem_cons.mp hv with z | z
  ·exact ⟨_,_,z⟩
  ·exact h3 v z
section
variable {prog:Program} {w:World} {A:Around} {E:Value→Shared→Prop} {s:Shared}
theorem qe {r d:Addr} {kvs:List (Key × Value)} {ep:Nat} {ps:List (Str × Int)} {Q:Value→Shared→Prop} (hh:A.handled=none) (hv:s.heap.IsItemsView r d) (hm:s.heap.DictAt (bu prog w) d kvs ep) (h3:ps.length≤3)
  (hp:kvs.length=ps.length) (hps:∀ (j:Nat) (k:Key) (x:Value),kvs[j]?=some (k,x)→∃ p t,ps[j]?=some p∧k=Sum.inr p.1∧x=.int p.2 t)
  (h:∀ (h':Heap) (tk:Nat) (S:Addr) (ws:List Addr) (e:Nat),(∀ b o,s.heap.get? b=some o→h'.get? b=some o)→r < S→h'.get? S=some (seqObj "list" (ws.map Value.ref).toArray e)→ws.length=ps.length →
    (∀ (j:Nat) (a:Addr) (p:Str × Int),ws[j]?=some a→(cA ps)[j]?=some p→r < a∧a ≠ S∧Pr h' a p)→Q (.ref S) { s with heap:=h',toks:=tk }) :
  wpAny (model prog w) A (call (.builtin "sorted") [.ref r]) Q E s:=by
 have hz:sizeLine=16777216:=sizeLine_eq
 have hr:r < s.heap.objs.size:=by obtain ⟨o,ho,_⟩:=hv; exact Heap.lt_size ho
 refine Calls.call_function_entry kind_sorted plain_sorted entry_sorted (args_sorted1 _) ?_
 unfold Builtin.«sorted»
 refine wpAny_bind (m:=checkCount "sorted" 1 1 _) (wpAny_pure ?_)
 refine wpAny_bind (kdx_collect (A:=A.in1) hh hv hm (by omega) fun h1 tk as hk hl hG=>?_)
 refine wpAny_bind (wpAny_newList ?_ (by rw [List.length_map]; omega))
 have hl':as.length=ps.length:=by omega
 have pr:∀ (j:Nat) (a:Addr) (p:Str × Int),as[j]?=some a→ps[j]?=some p→Pr h1 a p:=fun j a p e1 e2=>by
  obtain ⟨key,k,x,f1,f2,f3⟩:=hG.pairs j a e1
  obtain ⟨p',t,g1,g2,g3⟩:=hps j k x f1
  rw [e2] at g1
  cases g1
  subst g2 g3
  obtain ⟨t',rfl⟩:=nk f2
  exact ⟨t',t,f3⟩
 have hoL:(h1.push (seqObj "list" (as.map Value.ref).toArray 0)).get? h1.objs.size=some (seqObj "list" (as.map Value.ref).toArray 0):=Heap.get?_push_size _ rfl
 have pr2:∀ h',(∀ b o,b ≠ h1.objs.size→(h1.push (seqObj "list" (as.map Value.ref).toArray 0)).get? b=some o→h'.get? b=some o)→∀ (j:Nat) (a:Addr) (p:Str × Int),as[j]?=some a→ps[j]?=some p→Pr h' a p:=fun h' kp j a p e1 e2=>by
  obtain ⟨t1,t2,e3⟩:=pr j a p e1 e2
  exact ⟨t1,t2,kp _ _ (Nat.ne_of_lt (Heap.lt_size e3)) (Heap.get?_push_of_some _ e3)⟩
 have gd:∀ i,i < as.length→∃ a p,as[i]?=some a∧ps[i]?=some p∧(as.map Value.ref).getD i Value.none=.ref a∧ps.getD i ("",0)=p:=fun i hi=>by
  have hi2:i < ps.length:=by omega
  refine ⟨as[i],ps[i],List.getElem?_eq_getElem hi,List.getElem?_eq_getElem hi2,?_,?_⟩
  ·simp [hi]
  ·simp [hi2]
 have hll:(as.map Value.ref).length=ps.length:=by rw [List.length_map]; exact hl'
 show wpAny _ _ _ _ _ { s with heap:=h1.push (seqObj "list" (as.map Value.ref).toArray 0),toks:=tk }
 refine wpAny_bind (wpAny_holding (wpAny_call_entry slot_list_sort ⟨_,hoL,rfl⟩ entry_list_sort (mT (κ:=tuples' true) (lt:=pW ps) (s:={ s with heap:=h1.push (seqObj "list" (as.map Value.ref).toArray 0),toks:=tk }) hoL (by rw [hll]; exact h3) (fun h' Q' hne kp hq=>?_) (fun h' i j C kp hi hj hC=>?_) ⟨_,rfl,?_⟩) (args_list_sort _)))
 ·obtain ⟨fs,k1,k2,k3⟩:=uc as ps hl' (pr2 h' kp)
  refine kat_kind (T:=Value.type "str") k1 (by rw [k2]; rw [List.length_map] at hne; exact hne) (fun v hv=>?_) (by decide) hq
  obtain ⟨x,t,rfl⟩:=k3 v hv
  exact Looks.now
 ·rw [List.length_map] at hi hj
  obtain ⟨a,p,a1,a2,a3,a4⟩:=gd i hi
  obtain ⟨b,q,b1,b2,b3,b4⟩:=gd j hj
  rw [a3,b3]
  obtain ⟨t1,t2,e1⟩:=pr2 h' kp i a p a1 a2
  obtain ⟨t3,t4,e2⟩:=pr2 h' kp j b q b1 b2
  refine zp (s:={ s with heap:=h',toks:=tk }) e1 rfl e2 rfl ?_
  show C (ltP p q) _
  rw [← a4,← b4]
  exact hC
 ·obtain ⟨e,he⟩:=sortedHeap_at (h:=h1.push (seqObj "list" (as.map Value.ref).toArray 0)) (a:=h1.objs.size) (vs:=as.map Value.ref) (out:=List.toArray ((cG (pW ps) (as.map Value.ref).length).map fun i=>(as.map Value.ref).getD i Value.none)) hoL
  have old:∀ b o,h1.get? b=some o→(sortedHeap (h1.push (seqObj "list" (as.map Value.ref).toArray 0)) h1.objs.size (as.map Value.ref) (List.toArray ((cG (pW ps) (as.map Value.ref).length).map fun i=>(as.map Value.ref).getD i Value.none))).get? b=some o:=fun b o q=>by
   have hb:=Heap.lt_size q
   rw [sortedHeap_old (Nat.ne_of_lt hb) (by rw [size_push']; exact Nat.lt_succ_of_lt hb)]
   exact Heap.get?_push_of_some _ q
  have ix:=g9 (lt:=pW ps) h3
  have eo:((cG (pW ps) (as.map Value.ref).length).map fun i=>(as.map Value.ref).getD i Value.none)=((cG (pW ps) ps.length).map fun i=>as.getD i 0).map Value.ref:=by
   rw [hll,List.map_map]
   refine List.map_congr_left fun i hi=>?_
   have:=ix.2 i hi
   have hi':i < as.length:=by omega
   simp [hi']
  refine wpAny_pure ⟨_,rfl,h _ tk h1.objs.size ((cG (pW ps) ps.length).map fun i=>as.getD i 0) e (fun b o q=>old b o (hk b o q)) ?_ ?_ ?_ fun j a p e1 e2=>?_⟩
  ·obtain ⟨o,ho,_⟩:=hv
   exact Heap.lt_size (hk _ _ ho)
  ·rw [he,eo]
  ·rw [List.length_map]; exact ix.1
  ·unfold cA at e2
   rw [List.getElem?_map] at e1 e2
   cases ei:(cG (pW ps) ps.length)[j]? with
   | none=>rw [ei] at e1; cases e1
   | some i =>
    rw [ei] at e1 e2
    have hi:=ix.2 i (List.mem_of_getElem? ei)
    obtain ⟨a',p',a1,a2,a3,a4⟩:=gd i (by omega)
    have ea:a=a':=by
     have:as.getD i 0=a:=Option.some.inj e1
     rw [← this]
     simp [List.getD_eq_getElem?_getD,a1]
    have ep:p=p':=by
     have:ps.getD i ("",0)=p:=Option.some.inj e2
     rw [← this,a4]
    subst ea ep
    have P1:=pr i a p a1 a2
    obtain ⟨t1,t2,e3⟩:=P1
    exact ⟨Nat.lt_trans hr (hG.above a (List.mem_of_getElem? a1)),Nat.ne_of_lt (Heap.lt_size e3),t1,t2,old _ _ e3⟩
end
theorem Inv.many {X:Cx} {pins:List (Addr × Obj)} {σ:St} {H H':Hp} {s:Shared} {h':Heap} {t':Nat} (I:Inv X pins σ H s) (k:∀ b o,s.heap.get? b=some o→h'.get? b=some o) (hs:∀ b,b < s.heap.objs.size→H' b=H b)
  (new:∀ b o,s.heap.objs.size≤b→H' b=some o→bG X.prog X.w H' h' b o):Inv X pins σ H' { s with heap:=h',toks:=t' }:=by
 have sm:∀ b o,H b=some o→H' b=some o:=fun b o e=>by rw [hs b (I.hok.lt e)]; exact e
 refine I.step (g':=s.gens) (d':=s.drawn) (ch:=[]) (fun b hb=>nomatch hb) (fun b o _ _ _ e _=>k b o e) (fun b o _ _ _ e _=>⟨o.slots,k b o e⟩) (fun b o _ e n=>by rw [hs b (Heap.lt_size e)]; exact n)
  (fun b o _ e=>⟨o,k b o e⟩) (fun b xs e=>sm b _ e) (fun b o u e=>sm b _ e) (fun b ps e=>⟨#[],by rw [sm b _ e]; simp⟩) (fun m hm=>?_) (fun b u e=>?_) I.bare
 ·obtain ⟨o,es,ep,ho,r⟩:=hm
  exact ⟨o,es,ep,k _ o ho,r⟩
 ·by_cases hb:b < s.heap.objs.size
  ·rw [hs b hb] at e
   exact (I.hok b u e).stay (fun c v _ q=>k c v q) (fun c q=>sm c _ q) fun c xs q=>sm c _ q
  ·exact new b u (Nat.le_of_not_lt hb) e
def AV (te:TE):TE:=fun σ H Q=>te σ H fun v H1=>∃ a kvs ps,v=.ref a∧H1 a=some (.dK kvs)∧kvs=(ps:List (Str × Int)).map (fun p=>((Sum.inr p.1:Key),V.int p.2))∧ps.length≤3 ∧
 ∀ (S:Addr) (H2:Hp) (ws:List Addr),H1 S=none→(∀ b o,H1 b=some o→H2 b=some o)→H2 S=some (.lst (ws.map V.ref))→ws.length=ps.length→(∀ (j:Nat) (a:Addr) (p:Str × Int),ws[j]?=some a→(cA ps)[j]?=some p→H2 a=some (.tup [.str p.1,.int p.2])) →
  (∀ b o,H1 b=none→H2 b=some o→b=S∨∃ p:Str × Int,o=.tup [.str p.1,.int p.2])→Q (.ref S) H2
theorem uZ:bootBuiltins "sorted"=some (.builtin "sorted"):=by decide +kernel
theorem tT:∀ {ps:List (Str × Int)} {vs:List (Key × Value)},KV (ps.map (fun p=>((Sum.inr p.1:Key),V.int p.2))) vs→vs.length=ps.length∧∀ (j:Nat) (k:Key) (x:Value),vs[j]?=some (k,x)→∃ p t,ps[j]?=some p∧k=Sum.inr p.1∧x=.int p.2 t
 | [],_,.nil=>⟨rfl,fun j k x e=>by simp at e⟩
 | p :: ps,_,.cons r rs=>by
  obtain ⟨h1,h2⟩:=tT rs
  refine ⟨by simp [h1],fun j k x e=>?_⟩
  cases j with
  | zero =>
   have e:=Option.some.inj e
   obtain ⟨r1,t,r2⟩:=r
   subst e
   exact ⟨p,t,rfl,r1.symm,r2⟩
  | succ j=>exact h2 j k x e
theorem pb {X:Cx} {o:Expr} {te:TE} {p pos apos cpos:Pos} (hc:X.calm=true) (he:PE X o te) (hg:Gl X "sorted") (hm:X.mg "sorted"=none)
  (hbase:attributeBase o "items" X.env (eval o X.env)=eval o X.env:=by rfl) (hline:(apos.endLine == cpos.line)=true:=by rfl) :
  PE X (.Call (.Name "sorted" p) [.Call (.Attribute o "items" apos) [] [] cpos] [] pos) (AV te):=by
 intro pins s σ H Q I h
 refine wpAny_Call_Name_kw (gO I hg hm uZ ?_)
 refine PyProof.Rows.callWith_builtin1 ?_ rfl rfl
 show wpAny _ _ (spliced ((false,eval (.Call (.Attribute o "items" apos) [] [] cpos) X.env) :: backTo pos (starEach [] X.env))) _ _ s
 refine Calls.spliced_cons ?_
 refine wpAny_Call_method0_late hbase hline (thn (he pins s σ H _ I h) fun v s1 ⟨x,H1,I1,r1,a,kvs,ps,ex,ea,ek,h3,q⟩=>?_)
 subst ex
 obtain rfl:v=Value.ref a:=r1
 obtain ⟨h1,h2⟩:=wn (T:="dict") (x:=.ref a) I1 rfl (.inr (.inr (.inl ⟨rfl,.inl ⟨_,ea⟩⟩)))
 refine ⟨"dict","dict.items",PySem.F.plainAttrs_dict,PySem.F.slot_dict_items,PySem.F.type_dict_items,h1,h2,Calls.callWith_builtin rfl (PySem.evalArgs_none ?_)⟩
 obtain ⟨hz,hS,vs,rk,hD⟩:=I1.hok a _ ea
 refine call_meetsIn PySem.F.slot_dict_items h1 PySem.F.entry_dict_items (PySem.F.args_dict_items_1 _) (meets_dict_items (bu X.prog X.w) a hS) ⟨⟨vs,hD⟩,?_⟩
 refine Calls.spliced_nil ?_
 obtain ⟨ep,hat⟩:=hD.dictAt
 subst ek
 obtain ⟨g1,g2⟩:=tT rk
 refine qe (ps:=ps) (s:={ s1 with heap:=s1.heap.push { cls:=.type "dict_items",data:=.fields #[.ref a] } }) (I1.ok.hd hc) ⟨_,Heap.get?_push_size _ rfl,rfl,rfl⟩ (hat.push _) h3 g1 g2 fun h' tk S ws e k hrS hS' hl hw=>?_
 have k':∀ b o,s1.heap.get? b=some o→h'.get? b=some o:=fun b o z=>k b o (Heap.get?_push_of_some _ z)
 have hsl:(cA ps).length=ws.length:=by rw [nZ h3,hl]
 let H2:Hp:=fun b=>if b=S then some (.lst (ws.map V.ref)) else match (ws.zip (cA ps)).lookup b with
  | some p=>some (.tup [.str p.1,.int p.2])
  | none=>H1 b
 have at1:∀ b p,(ws.zip (cA ps)).lookup b=some p→s1.heap.objs.size < b∧b ≠ S∧Pr h' b p:=fun b p z=>by
  have:(b,p)∈ws.zip (cA ps):=by
   have go:∀ l:List (Addr × (Str × Int)),l.lookup b=some p→(b,p)∈l:=fun l=>by
    induction l with
    | nil=>intro z; cases z
    | cons c r ih =>
     intro z
     rw [List.lookup_cons] at z
     cases q:b == c.1 with
     | true =>
      rw [q] at z
      have hb:b=c.1:=by simpa using q
      have:c=(b,p):=Prod.ext hb.symm (Option.some.inj z)
      rw [this]
      exact List.mem_cons_self
     | false=>rw [q] at z; exact List.mem_cons_of_mem _ (ih z)
   exact go _ z
  obtain ⟨j,hj⟩:=List.mem_iff_getElem?.mp this
  obtain ⟨e1,e2⟩:=List.getElem?_zip_eq_some.mp hj
  exact hw j b p e1 e2
 have lowS:s1.heap.objs.size < S:=hrS
 have low:∀ b,b < s1.heap.objs.size→H2 b=H1 b:=fun b hb=>by
  show (if b=S then _ else _)=_
  rw [if_neg (Nat.ne_of_lt (Nat.lt_trans hb lowS))]
  cases z:(ws.zip (cA ps)).lookup b with
  | none=>rfl
  | some p=>exact absurd (at1 b p z).1 (Nat.not_lt_of_lt hb)
 have eS:H2 S=some (.lst (ws.map V.ref)):=if_pos rfl
 have fr:∀ b,s1.heap.objs.size≤b→H1 b=none:=fun b hb=>I1.hok.fresh hb
 have tupAt:∀ (j:Nat) (b:Addr) (p:Str × Int),ws[j]?=some b→(cA ps)[j]?=some p→H2 b=some (.tup [.str p.1,.int p.2]):=fun j b p e1 e2=>by
  obtain ⟨_,n2,n3⟩:=hw j b p e1 e2
  show (if b=S then _ else _)=_
  rw [if_neg n2]
  have mem:(b,p)∈ws.zip (cA ps):=List.mem_of_getElem? (List.getElem?_zip_eq_some.mpr ⟨e1,e2⟩)
  cases z:(ws.zip (cA ps)).lookup b with
  | none =>
   have go:∀ l:List (Addr × (Str × Int)),(b,p)∈l→l.lookup b ≠ none:=fun l=>by
    induction l with
    | nil=>intro z; cases z
    | cons c r ih =>
     intro z
     rw [List.lookup_cons]
     cases q:b == c.1 with
     | true=>simp
     | false =>
      rcases List.mem_cons.mp z with y | y
      ·rw [← y] at q; simp at q
      ·exact ih y
   exact absurd z (go _ mem)
  | some p'=>rw [(at1 b p' z).2.2.inj n3]
 have newOk:∀ b u,s1.heap.objs.size≤b→H2 b=some u→bG X.prog X.w H2 h' b u∧(b=S∨∃ p:Str × Int,u=.tup [.str p.1,.int p.2]):=fun b u hb z=>by
  by_cases eb:b=S
  ·subst eb
   rw [eS] at z
   cases z
   refine ⟨⟨by rw [List.length_map,hl,sizeLine_eq]; omega,ws.map Value.ref,e,?_,hS'⟩,.inl rfl⟩
   have go:∀ l:List Addr,aU (l.map V.ref) (l.map Value.ref):=fun l=>by
    induction l with
    | nil=>exact .nil
    | cons c r ih=>exact .cons rfl ih
   exact go ws
  ·have z':(match (ws.zip (cA ps)).lookup b with | some p=>some (HO.tup [.str p.1,.int p.2]) | none=>H1 b)=some u:=by
    have:H2 b=_:=if_neg eb
    rw [this] at z
    exact z
   cases y:(ws.zip (cA ps)).lookup b with
   | none=>rw [y,fr b hb] at z'; cases z'
   | some p =>
    rw [y] at z'
    cases z'
    obtain ⟨_,_,t1,t2,e3⟩:=at1 b p y
    exact ⟨⟨by show 2≤sizeLine; rw [sizeLine_eq]; decide,[.str p.1 t1,.int p.2 t2],.cons ⟨_,rfl⟩ (.cons ⟨_,rfl⟩ .nil),⟨_,e3,rfl,⟨_,rfl⟩,rfl⟩⟩,.inr ⟨p,rfl⟩⟩
 refine ⟨.ref S,H2,I1.many (t':=tk) k' low fun b u hb z=>(newOk b u hb z).1,rfl,q S H2 ws (fr S (Nat.le_of_lt lowS)) (fun b u z=>by rw [low b (I1.hok.lt z)]; exact z) eS hl tupAt fun b u z1 z2=>?_⟩
 by_cases hb:b < s1.heap.objs.size
 ·rw [low b hb,z1] at z2; cases z2
 ·exact (newOk b u (Nat.le_of_not_lt hb) z2).2
end L2
namespace L3
open PySem PySem.Spec PyProof.Rows L2
def kl (p:Str × Int):D:=.tup [.str p.1,.int p.2]
def BQ (ta:T3):T3:=fun δ M Q=>ta δ M fun x M1=>match x with
 | .ref a=>∃ ps:List (Str × Int),dkM M1 a=some (ps.map fun p=>((Sum.inr p.1:Key),D.int p.2))∧ps.length≤3∧∀ S,M1 S=none→Q (.ref S) (am M1 S (.lst ((cA ps).map kl)))
 | _=>False
theorem mH {K:PySem.W.Frag} {H:Hp}:∀ {ps:List (Str × Int)} {vs:List (Key × V)},vs.map (·.1)=(ps.map fun p=>((Sum.inr p.1:Key),D.int p.2)).map (·.1)→aM K H ((ps.map fun p=>((Sum.inr p.1:Key),D.int p.2)).map (·.2)) (vs.map (·.2))→vs=ps.map (fun p=>((Sum.inr p.1:Key),V.int p.2))
 | [],[],_,_=>rfl
 | [],_ :: _,e,_=>by cases e
 | _ :: _,[],e,_=>by cases e
 | p :: ps,(k,v) :: vs,e,h=>by
  obtain ⟨x,r,e2,h1,h2⟩:=h.inv
  obtain ⟨e3,e4⟩:=List.cons.inj e2
  obtain ⟨f1,f2⟩:=List.cons.inj e
  subst e3 e4
  have hk:k=Sum.inr p.1:=f1
  have hv:v=V.int p.2:=Has.int_inv h1
  rw [mH f2 h2,hk,hv]
  rfl
theorem oK {X:Cx} {o:Expr} {ta:T3} {p pos apos cpos:Pos} (hc:X.calm=true) (he:E3 X o ta) (hg:Gl X "sorted") (hm:X.mg "sorted"=none)
  (hbase:attributeBase o "items" X.env (eval o X.env)=eval o X.env:=by rfl) (hline:(apos.endLine == cpos.line)=true:=by rfl) :
  E3 X (.Call (.Name "sorted" p) [.Call (.Attribute o "items" apos) [] [] cpos] [] pos) (BQ ta):=PE.mono (pb hc he hg hm hbase hline) fun σ H Q' ⟨δ,M,Q,hs,hm,ht,k⟩ =>
 ⟨δ,M,_,hs,hm,ht,fun v H1 d M1 hd hm1 e1 q1=>by
  cases d with
  | ref a =>
   cases hd.ref_inv
   obtain ⟨ps,f1,f2,q⟩:=q1
   obtain ⟨vs,h1,h2,h3⟩:=gF hm1 f1
   refine ⟨a,vs,ps,rfl,h1,mH h2 h3,f2,fun S H2 ws n1 kp eS hl hw hn=>?_⟩
   have ex:bg X.K H1 H2:=⟨fun b xs z=>by
    rcases z with (z | ⟨u,z⟩) | z
    ·exact .inl (.inl (kp _ _ z))
    ·exact .inl (.inr ⟨u,kp _ _ z⟩)
    ·exact .inr z,fun b u xs z=>kp _ _ z⟩
   have hl2:(cA ps).length=ws.length:=by rw [nZ f2,hl]
   have hasW:∀ (l:List (Str × Int)) (us:List Addr),l.length=us.length→(∀ (j:Nat) (a:Addr) (p:Str × Int),us[j]?=some a→l[j]?=some p→H2 a=some (.tup [.str p.1,.int p.2]))→aM X.K H2 (l.map kl) (us.map V.ref):=fun l=>by
    induction l with
    | nil=>intro us e _; cases us with
     | nil=>exact .nil
     | cons _ _=>cases e
    | cons c r ih=>intro us e hu; cases us with
     | nil=>cases e
     | cons b us=>exact .cons (.tup (.of (hu 0 b c rfl rfl)) (.cons .str (.cons .int .nil))) (ih us (by simpa using e) fun j a p e1 e2=>hu (j + 1) a p e1 e2)
   refine k _ _ _ _ .ref (fun b c z=>?_) (e1.trans ex) (q S (hm1.fresh n1))
   by_cases eb:b=S
   ·subst eb
    rw [aL] at z
    cases z
    exact ⟨_,eS,hasW _ _ hl2 hw⟩
   ·rw [cR eb] at z
    have ok:=hm1 b c z
    obtain ⟨u,eu,_⟩:=ok.there
    exact ok.keep ex (by rw [eu,kp _ _ eu])
  | _=>exact q1.elim⟩
end L3
namespace L3
open PySem PySem.Spec PyProof.Rows L2
section
variable {X:Cx} {pos:Pos} {a b o i:Expr} {ta tb ti to:T3}
def CK (to ti:T3):T3G:=fun d δ M Q=>to δ M fun x M1=>ti δ M1 fun y M2=>match x,y with
 | .ref p,.int k=>(lstM M2 p).elim False fun es=>(ixN es.length k).elim False fun j=>Q δ (am M2 p (.lst (es.set j d)))
 | _,_=>False
theorem aM.set {K:PySem.W.Frag} {H:Hp} {d:D} {v:V} (hv:Has K H d v):∀ {ds:List D} {xs:List V} (j:Nat),aM K H ds xs→aM K H (ds.set j d) (xs.set j v)
 | [],_,j,h=>by rw [h.nil_inv]; simp only [List.set_nil]; exact .nil
 | e :: ds,_,0,h=>by
  obtain ⟨x,r,rfl,h1,h2⟩:=h.inv
  exact .cons hv h2
 | e :: ds,_,j + 1,h=>by
  obtain ⟨x,r,rfl,h1,h2⟩:=h.inv
  exact .cons h1 (aM.set hv j h2)
theorem Bu (ho:E3 X o to) (hi:E3 X i ti)
  (ha:∀ v,assign (.Subscript o i pos) X.env v=(do
   let ov ← holding [v] (eval o X.env)
   let iv ← holding [v,ov] (eval i X.env)
   standAt pos
   holding [v,ov,iv] (setItem ov iv v)
   release [v,ov,iv] []):=by intro _; rfl):G3 X (.Subscript o i pos) (CK to ti) :=
 PG.mono (A8 ho hi wI ha) fun v σ H Q' ⟨d,δ,M,Q,hd,hs,hm,ht,k⟩ =>
 ⟨δ,M,_,hs,hm,ht,fun vx H1 x M1 hx hm1 e1 q1=>⟨δ,M1,_,hs.mono e1,hm1,q1,fun vy H2 y M2 hy hm2 e2 q2=>by
  cases x with
  | ref p =>
   cases y with
   | int j0 =>
    obtain ⟨es,f1,q2⟩:=bv q2
    obtain ⟨j,f2,q2⟩:=bv q2
    cases (hx.mono e2).ref_inv
    cases hy.int_inv
    obtain ⟨xs,h1,h2⟩:=tH hm2 f1
    refine ⟨p,xs,j0,j,rfl,rfl,h1,by rw [← h2.length]; exact f2,?_⟩
    have hd2:=hd.mono (e1.trans e2)
    obtain ⟨hm3,e3⟩:=hm2.put (o:=.lst (xs.set j v)) (c:=.lst (es.set j d)) (aY f1) fun ex=>⟨_,aN,(h2.mono ex).set (hd2.mono ex) j⟩
    exact k σ _ δ _ (hs.mono (e1.trans (e2.trans e3))) hm3 (e1.trans (e2.trans e3)) rfl q2
   | _=>exact q2.elim
  | _=>exact q2.elim⟩⟩
end
end L3
namespace L2
open PySem PySem.Spec PyProof.Rows
section
variable {prog:Program} {w:World} {A:Around} {E:Value→Shared→Prop} {s:Shared}
end
section
variable {X:Cx}
end
end L2
namespace L3
open PySem PySem.Spec PyProof.Rows L2
section
variable {X:Cx} {pos apos p:Pos} {a b o e i value:Expr} {es:List Expr} {ta tb ti to tv td tk:T3} {t:T3A}
def B2:T3:=fun _ M Q=>∀ p,M p=none→Q (.ref p) (am M p (.dk []))
theorem yh:E3 X (.Dict [] [] pos) B2:=PE.mono xi fun σ H Q' ⟨δ,M,Q,hs,hm,ht,k⟩=>fun p hp=>by
 have ex:bg X.K H (upd H p (.dK [])):=.new hp
 exact k _ _ _ _ .ref (hm.new (c:=.dk []) hp ⟨[],aN,rfl,.nil⟩) ex (ht p (hm.fresh hp))
def lx (kvs:List (Key × D)) (k:Key) (v:D):List (Key × D):=if (kvs.any fun kv=>decide (kv.1=k))=true then kvs.map (fun kv=>if kv.1=k then (kv.1,v) else kv) else kvs ++ [(k,v)]
theorem qN {κ α β:Type} {k:κ} [DecidableEq κ]:∀ {xs:List (κ × α)} {ys:List (κ × β)},xs.map (·.1)=ys.map (·.1)→(xs.any fun kv=>decide (kv.1=k))=ys.any fun kv=>decide (kv.1=k)
 | [],[],_=>rfl
 | [],_ :: _,e=>by cases e
 | _ :: _,[],e=>by cases e
 | x :: xs,y :: ys,e=>by
  obtain ⟨e1,e2⟩:=List.cons.inj e
  rw [List.any_cons,List.any_cons,qN e2]
  have e1:x.1=y.1:=e1
  rw [e1]
theorem uH {K:PySem.W.Frag} {H:Hp} {k:Key} {d:D} {v:V} (hv:Has K H d v) {kvs:List (Key × D)} {vs:List (Key × V)} (h1:vs.map (·.1)=kvs.map (·.1)) (h2:aM K H (kvs.map (·.2)) (vs.map (·.2))) :
  (iL vs k v).map (·.1)=(lx kvs k d).map (·.1)∧aM K H ((lx kvs k d).map (·.2)) ((iL vs k v).map (·.2)):=by
 have go:∀ {kvs:List (Key × D)} {vs:List (Key × V)},vs.map (·.1)=kvs.map (·.1)→aM K H (kvs.map (·.2)) (vs.map (·.2)) →
   (vs.map (fun kv=>if kv.1=k then (kv.1,v) else kv)).map (·.1)=(kvs.map (fun kv=>if kv.1=k then (kv.1,d) else kv)).map (·.1)∧aM K H ((kvs.map (fun kv=>if kv.1=k then (kv.1,d) else kv)).map (·.2)) ((vs.map (fun kv=>if kv.1=k then (kv.1,v) else kv)).map (·.2)):=fun {kvs}=>by
  induction kvs with
  | nil=>intro vs e h; cases vs with
   | nil=>exact ⟨rfl,.nil⟩
   | cons _ _=>cases e
  | cons c r ih=>intro vs e h; cases vs with
   | nil=>cases e
   | cons w ws =>
    obtain ⟨e1,e2⟩:=List.cons.inj e
    obtain ⟨x,xr,e3,g1,g2⟩:=h.inv
    obtain ⟨e4,e5⟩:=List.cons.inj e3
    subst e4 e5
    obtain ⟨i1,i2⟩:=ih e2 g2
    have e1:w.1=c.1:=e1
    by_cases hk:c.1=k
    ·have w1:(if w.1=k then (w.1,v) else w)=(w.1,v):=if_pos (e1.trans hk)
     have w2:(if c.1=k then (c.1,d) else c)=(c.1,d):=if_pos hk
     simp only [List.map_cons,w1,w2]
     exact ⟨by rw [i1,e1],.cons hv i2⟩
    ·have w1:(if w.1=k then (w.1,v) else w)=w:=if_neg fun z=>hk (e1.symm.trans z)
     have w2:(if c.1=k then (c.1,d) else c)=c:=if_neg hk
     simp only [List.map_cons,w1,w2]
     exact ⟨by rw [i1,e1],.cons g1 i2⟩
 unfold iL lx
 rw [qN (k:=k) h1]
 by_cases hk:(kvs.any fun kv=>decide (kv.1=k))=true
 ·rw [if_pos hk,if_pos hk]
  exact go h1 h2
 ·rw [if_neg hk,if_neg hk]
  exact ⟨by rw [List.map_append,List.map_append,h1]; rfl,by rw [List.map_append,List.map_append]; exact h2.append (.cons hv .nil)⟩
def Cv (td tk tv:T3):T3S:=fun D δ M=>tv δ M fun v M1=>td δ M1 fun x M2=>tk δ M2 fun y M3=>match x,y with
 | .ref a,.str k=>(dkM M3 a).elim False fun kvs=>kvs.length < sizeLine∧D.nx δ (am M3 a (.dk (lx kvs (.inr k) v)))
 | _,_=>False
theorem jy {M:Mp} {a:Addr} {kvs:List (Key × D)} (h:dkM M a=some kvs):M a=some (.dk kvs):=by
 unfold dkM at h
 split at h
 ·rename_i e; rw [e]; cases h; rfl
 ·cases h
theorem tP {pos':Pos} (hu:X.A.units + 9 < cLine) (ho:E3 X o td) (hi:E3 X i tk) (hv:E3 X value tv) (hs:swapsWith value (some (.Subscript o i pos')) pos.line X.env=pure false:=by rfl):S3 X (.Assign [.Subscript o i pos'] value pos) (Cv td tk tv) :=
 PS.mono (zA (by omega) ho hi hv hs) fun D' σ H ⟨δ,M,D,hs,hm,ht,k1,k2,k3,k4⟩ =>
 ⟨δ,M,_,hs,hm,ht,fun v H1 d M1 hd hm1 e1 q1=>⟨δ,M1,_,hs.mono e1,hm1,q1,fun vx H2 x M2 hx hm2 e2 q2=>⟨δ,M2,_,hs.mono (e1.trans e2),hm2,q2,fun vy H3 y M3 hy hm3 e3 q3=>by
  split at q3
  ·rename_i a0 k0
   obtain ⟨kvs,f1,f2,q3⟩:=bv q3
   cases (hx.mono e3).ref_inv
   cases hy.str_inv
   obtain ⟨vs,h1,h2,h3⟩:=gF hm3 f1
   have hl:vs.length=kvs.length:=by have:=congrArg List.length h2; simpa using this
   refine ⟨_,_,rfl,vq.k (k:=Sum.inr k0) h1 (by omega),?_⟩
   have hd3:=hd.mono (e2.trans e3)
   obtain ⟨hm4,e4⟩:=hm3.put (o:=.dK (iL vs (Sum.inr k0) v)) (c:=.dk (lx kvs (.inr k0) d)) (jy f1) fun ex=>by
    obtain ⟨g1,g2⟩:=uH (k:=Sum.inr k0) (hd3.mono ex) h2 (h3.mono ex)
    exact ⟨_,aN,g1,g2⟩
   exact k1 σ _ δ _ (hs.mono (e1.trans (e2.trans (e3.trans e4)))) hm4 (e1.trans (e2.trans (e3.trans e4))) rfl q3
  ·exact q3.elim⟩⟩⟩
end
end L3
namespace L3
open PySem PySem.Spec PyProof.Rows L2
section
variable {X:Cx} {pins:List (Addr × Obj)} {σ:St} {H:Hp} {s:Shared}
end
section
variable {X:Cx} {pos p tp:Pos} {elts:List Expr} {n:Nat}
end
end L3
namespace L2
open PySem PySem.Spec PyProof.Rows Builtin Builtin.Str
section
variable {prog:Program} {w:World} {A:Around} {E:Value→Shared→Prop} {s:Shared}
end
section
variable {X:Cx}
end
end L2
namespace L3
open PySem PySem.Spec PyProof.Rows L2 Builtin Builtin.Str
section
variable {X:Cx} {pos apos:Pos} {o e:Expr} {es:List Expr} {ta:T3} {t:T3A}
end
end L3
namespace L3
open PySem PySem.Spec PyProof.Rows L2
@[irreducible] def SsI (X:Cx) (st:List Stmt) (t:T3S):Prop:=Ss3 X st t
@[irreducible] def SI (X:Cx) (st:Stmt) (t:T3S):Prop:=S3 X st t
@[irreducible] def EI (X:Cx) (e:Expr) (t:T3):Prop:=E3 X e t
@[irreducible] def AI (X:Cx) (es:List Expr) (t:T3A):Prop:=A3 X es t
section
variable {X:Cx} {pos:Pos}
end
end L3
namespace L3
open PySem PySem.Spec PyProof.Rows L2
section
variable {prog:Program} {w:World} {A:Around} {E:Value→Shared→Prop} {s:Shared}
end
section
variable {X:Cx} {pins:List (Addr × Obj)} {σ:St} {H:Hp} {s:Shared}
end
section
variable {X:Cx} {pos p tp:Pos} {elts:List Expr} {n:Nat}
end
end L3
namespace L3
open PySem PySem.Spec PyProof.Rows L2
section
variable {X:Cx} {pos apos:Pos} {o e:Expr} {es:List Expr} {ta:T3} {t:T3A}
def C7:T3T:=fun _ _ _=>False
theorem wX {cs:List Expr}:F3 X cs C7:=fun _ _ _ _ _ _ ⟨_,_,_,_,_,z,_⟩=>z.elim
theorem gZ {g:T3G} {tt:T3T} {te:T3} {ok:Mp→Prop} {Q:DK} (all:List D) (J:List D→List D→DSt→Mp→Prop) (hok:∀ p acc δ M,J p acc δ M→ok M):∀ (ds pre acc:List D) (δ:DSt) (M:Mp),pre ++ ds=all→acc.length + ds.length≤sizeLine→J pre acc δ M →
  (∀ pre d post,pre ++ d :: post=all→∀ acc δ M,J pre acc δ M→∀ (k:DSt→DK) (k2:DSt→Mp→Prop),(∀ δ2 y M4,J (pre ++ [d]) (acc ++ [y]) δ2 M4→k δ2 y M4)→(∀ δ2 M3,J (pre ++ [d]) acc δ2 M3→k2 δ2 M3)→g d δ M fun δ2 M2=>tt δ2 M2 fun b M3=>if b=true then te δ2 M3 (k δ2) else k2 δ2 M3) →
  (∀ acc δ M,J all acc δ M→∀ p,M p=none→Q (.ref p) (am M p (.lst acc)))→eY g tt te ok Q ds acc δ M
 | [],pre,acc,δ,M,e,hl,j,_,hq=>⟨by simpa using hl,hq acc δ M (by rw [← e,List.append_nil]; exact j)⟩
 | d :: r,pre,acc,δ,M,e,hl,j,ht,hq=>by
  rw [List.length_cons] at hl
  refine ⟨by omega,?_⟩
  refine ht pre d r e acc δ M j (fun δ2 y M4=>ok M4∧eY g tt te ok Q r (acc ++ [y]) δ2 M4) (fun δ2 M3=>ok M3∧eY g tt te ok Q r acc δ2 M3) (fun δ2 y M4 j'=>⟨hok _ _ _ _ j',gZ all J hok r (pre ++ [d]) (acc ++ [y]) δ2 M4 (by rw [← e,List.append_assoc]; rfl) ?_ j' ht hq⟩) fun δ2 M3 j'=>⟨hok _ _ _ _ j',gZ all J hok r (pre ++ [d]) acc δ2 M3 (by rw [← e,List.append_assoc]; rfl) (by omega) j' ht hq⟩
  rw [List.length_append,List.length_singleton]
  omega
end
end L3
namespace L3
open PySem PySem.Spec PyProof.Rows L2
section
variable {X:Cx}
end
end L3
namespace L2
open PySem PySem.Spec PyProof.Rows
def Cx.xeTo (X:Cx) (E:Value→Shared→Prop):Cx:={ X with xe:=E }
theorem Inv.xeTo {X:Cx} {E:Value→Shared→Prop} {pins:List (Addr × Obj)} {σ:St} {H:Hp} {s:Shared} (I:Inv X pins σ H s):Inv (X.xeTo E) pins σ H s :=
 ⟨⟨I.ok.mod,I.ok.kind,I.ok.glob,I.ok.blt,I.ok.above,I.ok.inj,I.ok.has,I.ok.cab,I.ok.hd,I.ok.frames,I.ok.stk,I.ok.exf,I.ok.bs,I.ok.bsz,I.ok.noex,I.ok.exfs,I.ok.funs,I.ok.frf⟩,I.os,I.bare,I.base,I.loc,I.cell,I.free,I.freeC,I.pin,I.hok,I.len⟩
theorem Inv.xeOf {X:Cx} {E:Value→Shared→Prop} {pins:List (Addr × Obj)} {σ:St} {H:Hp} {s:Shared} (I:Inv (X.xeTo E) pins σ H s):Inv X pins σ H s :=
 ⟨⟨I.ok.mod,I.ok.kind,I.ok.glob,I.ok.blt,I.ok.above,I.ok.inj,I.ok.has,I.ok.cab,I.ok.hd,I.ok.frames,I.ok.stk,I.ok.exf,I.ok.bs,I.ok.bsz,I.ok.noex,I.ok.exfs,I.ok.funs,I.ok.frf⟩,I.os,I.bare,I.base,I.loc,I.cell,I.free,I.freeC,I.pin,I.hok,I.len⟩
end L2
namespace L3
open PySem PySem.Spec PyProof.Rows L2
end L3
namespace L2
open PySem PySem.Spec PyProof.Rows
end L2
namespace L2
open PySem PySem.Spec PyProof.Rows
end L2
namespace L3
open PySem PySem.Spec PyProof.Rows L2
section
variable {X:Cx} {pos p tp kpos:Pos} {elts:List Expr} {n:Nat}
end
end L3
namespace L2
open PySem PySem.Spec PyProof.Rows
section
variable {prog:Program} {w:World} {A:Around} {E:Value→Shared→Prop} {s:Shared} {a:Addr} {δ:Type} {R:δ→Value→Prop} {D:List (Str × δ)} {k:Str} {tk:Tok}
end
end L2
namespace L3
open PySem PySem.Spec PyProof.Rows L2
section
variable {X:Cx} {pos p:Pos} {x:Str} {d:D} {e o i:Expr} {ta tb td tk:T3} {F:List (Str × List Str)}
end
end L3
namespace L2
open PySem PySem.Spec PyProof.Rows
def wH (h:Heap) (e:Addr) (cls:Value) (dx tb:Option Addr) (F:Value):Prop :=
 ∃ oe vs,h.get? e=some oe∧oe.cls=cls∧oe.dict=dx∧oe.data=.fields vs∧1 < vs.size∧vs[1]?=some (tb.elim Value.none Value.ref)∧∀ T,tb=some T→T ≠ e∧∃ oT ts,h.get? T=some oT∧oT.data=.fields ts∧3 < ts.size∧ts[3]?=some F
def XAt (h:Heap) (e:Addr) (cls:Value) (dx tb:Option Addr):Prop:=wH h e cls dx tb Value.none
theorem lN {h base:Heap}:∀ {l:List Env} {b:Addr},h.FunFrames base l→b∈frs l→∃ o,h.get? b=some o∧∀ vs,o.data ≠ .fields vs
 | [],b,_,hb=>by cases hb
 | env :: r,b,hF,hb=>by
  obtain ⟨_,⟨L,o,hL,_,ho,hd⟩,hr⟩:=hF
  have e:frs (env :: r)=L :: frs r:=by
   unfold frs
   rw [List.filterMap_cons,hL]
  rw [e] at hb
  rcases List.mem_cons.mp hb with z | z
  ·rw [z]; exact ⟨o,ho,hd⟩
  ·exact lN hr z
theorem nQ {h base:Heap} {l:List Env} {b:Addr} {o:Obj} {vs:Array Value} (hF:h.FunFrames base l) (ho:h.get? b=some o) (hd:o.data=.fields vs):b ∉ frs l:=fun hb=>by
 obtain ⟨o',ho',hn⟩:=lN hF hb
 rw [ho] at ho'
 cases ho'
 exact hn vs hd
section
variable {M:Model} {A:Around} {E:Value→Shared→Prop} {s:Shared} {base:Heap} {env:Env} {outer:List Env} {L e:Addr} {cls:Value} {dx:Option Addr} {Q:Unit→Shared→Prop}
theorem yt {head:Value} {had:Bool} {oe:Obj} {vs:Array Value} {cenv:Env} (hcf:cenv.frame=some L) (hfr:A.frames=some (env :: outer)) (hF:s.heap.FunFrames base (env :: outer)) (hL:env.frame=some L) (ho:s.heap.get? e=some oe) (hd:oe.data=.fields vs) (h1:1 < vs.size)
  (k:∀ (h':Heap) (T:Addr),s.heap.get? T=none→(∀ b o,s.heap.get? b=some o→b ∉ frs (env :: outer)→b ≠ e→h'.get? b=some o)→(∀ b o,s.heap.get? b=some o→b∈frs (env :: outer)→∃ sl,h'.get? b=some { o with slots:=sl }) →
   (∃ oe',h'.get? e=some oe'∧oe'.cls=oe.cls∧oe'.dict=oe.dict∧oe'.data=.fields (vs.setIfInBounds 1 (.ref T)))→(∃ oT ts,h'.get? T=some oT∧oT.data=.fields ts∧3 < ts.size∧ts[3]?=some (rawInt ↑L))→Q () { s with heap:=h' }) :
  wpAny M A (do
   let a ← PySem.frameOf cenv
   let pl ← entryPlaceOf L had
   let b ← EntryCells.newEntry head a Value.none (rawInt ↑L) Value.none pl
   setField (Value.ref e) 1 b) Q E s:=by
 have ne:=nQ hF ho hd
 unfold PySem.frameOf
 refine wpAny_bind (wpAny_bind (wpAny_frameEnvs hfr (wpAny_bind ?_)))
 have ed:List.dropWhile (fun x=>x.frame != cenv.frame) (env :: outer)=env :: outer:=by
  rw [List.dropWhile_cons,if_neg (by rw [hL,hcf]; simp)]
 rw [ed]
 unfold frameObject
 refine wpAny_bind (wpAny_readyFrames_fun hF fun h1' hs=>?_)
 obtain ⟨z1,z2,z3⟩:=hs
 rw [hL]
 refine wpAny_pure (wpAny_pure ?_)
 refine wpAny_bind (wpAny_entryPlaceOf fun pl hp=>?_)
 refine wpAny_bind ?_
 unfold EntryCells.newEntry newFields
 have hlen:([head,Value.ref L,Value.none,rawInt ↑L,Value.none] ++ if pl.isEmpty=true then List.replicate 6 Value.none else pl).length=11:=by
  rw [List.length_append]
  rcases hp with rfl | ⟨_,_,_,_,_,_,_,rfl⟩ <;> rfl
 have hfl:([head,Value.ref L,Value.none,rawInt ↑L,Value.none] ++ if pl.isEmpty=true then List.replicate 6 Value.none else pl)[3]?=some (rawInt ↑L):=rfl
 generalize ([head,Value.ref L,Value.none,rawInt ↑L,Value.none] ++ if pl.isEmpty=true then List.replicate 6 Value.none else pl)=fs at hlen hfl ⊢
 refine wpAny_newObj_type ?_ (by
  show fs.toArray.size≤_
  rw [List.size_toArray,hlen]
  decide)
 have e1:h1'.get? e=some oe:=by rw [z2 e ne]; exact ho
 have e2:(h1'.push { cls:=.type "traceback",data:=.fields fs.toArray }).get? e=some oe:=Heap.get?_push_of_some _ e1
 refine wpAny_setField e2 hd h1 ?_
 have tn:s.heap.get? h1'.objs.size=none:=Heap.get?_none_of_le (by rw [z1]; exact Nat.le_refl _)
 have te:h1'.objs.size ≠ e:=fun z=>by rw [z,ho] at tn; cases tn
 obtain ⟨oc,od,odt,osl⟩:=oe
 obtain rfl:odt=.fields vs:=hd
 have up:∀ b,e ≠ b→((h1'.push { cls:=.type "traceback",data:=.fields fs.toArray }).update e (Obj.mapFields fun x=>x.setIfInBounds 1 (.ref h1'.objs.size))).get? b=(h1'.push { cls:=.type "traceback",data:=.fields fs.toArray }).get? b:=fun b z=>Heap.get?_update_other _ _ z
 refine k _ h1'.objs.size tn (fun b o hb nf ne'=>?_) (fun b o hb hf=>?_) ⟨_,Heap.get?_update_self _ e2 rfl,rfl,rfl,rfl⟩ ⟨_,fs.toArray,(up _ (Ne.symm te)).trans (Heap.get?_push_size _ rfl),rfl,by rw [List.size_toArray,hlen]; decide,by rw [List.getElem?_toArray]; exact hfl⟩
 ·rw [up b (Ne.symm ne')]
  exact Heap.get?_push_of_some _ (by rw [z2 b nf]; exact hb)
 ·obtain ⟨sl,q⟩:=z3 b o hb
  refine ⟨sl,?_⟩
  rw [up b (fun z=>ne (z ▸ hf))]
  exact Heap.get?_push_of_some _ q
theorem BF {E₁:Value→Shared→Prop} {tb:Option Addr} {F:Value} {cenv:Env} (hcf:cenv.frame=some L) (hfr:A.frames=some (env :: outer)) (hF:s.heap.FunFrames base (env :: outer)) (hL:env.frame=some L) (hx:wH s.heap e cls dx tb F) (hFL:(F == rawInt ↑L)=false)
  (k:∀ (h':Heap) (T:Addr),s.heap.get? T=none→(∀ b o,s.heap.get? b=some o→b ∉ frs (env :: outer)→b ≠ e→tb ≠ some b→h'.get? b=some o)→(∀ b o,s.heap.get? b=some o→b∈frs (env :: outer)→∃ sl,h'.get? b=some { o with slots:=sl }) →
   (∀ b,h'.get? b=none→s.heap.get? b=none)→wH h' e cls dx (some T) (rawInt ↑L)→Q () { s with heap:=h' }):wpAny M A (noteFrame (.ref e) cenv) Q E₁ s:=by
 obtain ⟨oe,vs,ho,hc,hdx,hd,h1,hv,hT⟩:=hx
 have ne:=nQ hF ho hd
 unfold noteFrame
 rw [hcf]
 refine wpAny_bind (wpAny_field ho hd hv ?_)
 have fin:∀ (s1:Shared) (oe1:Obj),s1.gens=s.gens→s1.drawn=s.drawn→s1.toks=s.toks→s1.os=s.os→s1.heap.FunFrames base (env :: outer)→s1.heap.get? e=some oe1→oe1.cls=cls→oe1.dict=dx→oe1.data=.fields vs→(∀ b o,s.heap.get? b=some o→b ∉ frs (env :: outer)→b ≠ e→tb ≠ some b→s1.heap.get? b=some o) →
   (∀ b o,s.heap.get? b=some o→b∈frs (env :: outer)→s1.heap.get? b=some o)→(∀ b,s1.heap.get? b=none ↔ s.heap.get? b=none)→∀ (head:Value) (had:Bool),wpAny M A (do
   let a ← PySem.frameOf cenv
   let pl ← entryPlaceOf L had
   let b ← EntryCells.newEntry head a Value.none (rawInt ↑L) Value.none pl
   setField (Value.ref e) 1 b) Q E₁ s1:=by
  intro s1 oe1 g1 g2 g3 g4 hF1 ho1 hc1 hdx1 hd1 kb kf kn head had
  refine yt hcf hfr hF1 hL ho1 hd1 h1 fun h' T tn k1 k2 ⟨oe',he',hce,hdxe,hde⟩ ⟨oT,ts,hoT,hdT,h3,h3v⟩=>?_
  have te:T ≠ e:=fun z=>by rw [z,ho1] at tn; cases tn
  have:=k h' T ((kn T).mp tn) (fun b o hb nf nb nt=>k1 b o (kb b o hb nf nb nt) nf nb) (fun b o hb hf=>k2 b o (kf b o hb hf) hf) (fun b hb=>?_) ⟨oe',vs.setIfInBounds 1 (.ref T),he',hce.trans hc1,hdxe.trans hdx1,hde,by rw [Array.size_setIfInBounds]; exact h1,by rw [Array.getElem?_setIfInBounds_self_of_lt h1]; rfl,fun T' eT=>?_⟩
  ·show Q () { heap:=_,gens:=s1.gens,drawn:=s1.drawn,toks:=s1.toks,os:=s1.os }
   rw [g1,g2,g3,g4]
   exact this
  ·refine (kn b).mp ?_
   cases q:s1.heap.get? b with
   | none=>rfl
   | some o =>
    by_cases z:b=e
    ·rw [z,he'] at hb; cases hb
    ·by_cases zf:b∈frs (env :: outer)
     ·obtain ⟨sl,q2⟩:=k2 b o q zf
      rw [q2] at hb; cases hb
     ·rw [k1 b o q zf z] at hb; cases hb
  ·cases eT
   exact ⟨te,oT,ts,hoT,hdT,h3,h3v⟩
 cases tb with
 | none =>
  rw [if_neg (show ¬ ((none:Option Addr).elim Value.none Value.ref != Value.none)=true by decide +kernel)]
  exact fin s oe rfl rfl rfl rfl hF ho hc hdx hd (fun b o hb _ _ _=>hb) (fun b o hb _=>hb) (fun b=>.rfl) _ _
 | some T =>
  obtain ⟨nTe,oT,ts,hoT,hdT,h3,hn⟩:=hT T rfl
  rw [if_pos (show ((some T:Option Addr).elim Value.none Value.ref != Value.none)=true by rfl)]
  refine wpAny_bind (wpAny_field hoT hdT hn ?_)
  rw [if_neg (by rw [hFL]; exact Bool.false_ne_true)]
  refine wpAny_bind (wpAny_setField hoT hdT h3 ?_)
  have up:∀ b,T ≠ b→(s.heap.update T (Obj.mapFields fun x=>x.setIfInBounds 3 .none)).get? b=s.heap.get? b:=fun b z=>Heap.get?_update_other _ _ z
  have nf:∀ b o,s.heap.get? b=some o→(∀ vs,o.data ≠ .fields vs)→T ≠ b:=fun b o hb hn z=>by
   rw [← z,hoT] at hb
   cases hb
   exact hn ts hdT
  have sz:∀ b,(s.heap.update T (Obj.mapFields fun x=>x.setIfInBounds 3 .none)).get? b=none ↔ s.heap.get? b=none:=fun b=>by
   by_cases z:T=b
   ·rw [← z]
    obtain ⟨oc,od,odt,osl⟩:=oT
    obtain rfl:odt=.fields ts:=hdT
    rw [Heap.get?_update_self _ hoT rfl,hoT]
    exact ⟨(fun q=>by cases q),(fun q=>by cases q)⟩
   ·rw [up b z]
  exact fin { s with heap:=s.heap.update T (Obj.mapFields fun x=>x.setIfInBounds 3 .none) } oe rfl rfl rfl rfl (Heap.FunFrames.of_keeps (fun b o hb hn=>⟨o,(up b (nf b o hb hn)).trans hb,rfl⟩) hF) ((up e nTe).trans ho) hc hdx hd
   (fun b o hb _ _ nt=>(up b fun z=>nt (by rw [z])).trans hb) (fun b o hb hf=>by
    obtain ⟨o',ho',hn⟩:=lN hF hf
    rw [hb] at ho'
    cases ho'
    exact (up b (nf b o hb hn)).trans hb) sz _ _
theorem xI {T:Addr} {F:Value} (x:Option Addr) (hx:wH s.heap e cls dx (some T) F) (k:∀ h':Heap,(∀ b,T ≠ b→h'.get? b=s.heap.get? b)→(∀ b,h'.get? b=none ↔ s.heap.get? b=none)→wH h' e cls dx (some T) (x.elim .none fun f=>rawInt f)→Q () { s with heap:=h' }):wpAny M A (setFlight (.ref e) x) Q E s:=by
 obtain ⟨oe,vs,ho,hc,hdx,hd,h1,hv,hT⟩:=hx
 obtain ⟨nTe,oT,ts,hoT,hdT,h3,hn⟩:=hT T rfl
 unfold setFlight
 refine wpAny_bind (wpAny_field ho hd hv ?_)
 rw [if_pos (by rfl)]
 refine wpAny_setField hoT hdT h3 ?_
 obtain ⟨oc,od,odt,osl⟩:=oT
 obtain rfl:odt=.fields ts:=hdT
 have up:∀ b,T ≠ b→(s.heap.update T (Obj.mapFields fun y=>y.setIfInBounds 3 (x.elim .none fun f=>rawInt f))).get? b=s.heap.get? b:=fun b z=>Heap.get?_update_other _ _ z
 refine k _ up (fun b=>?_) ⟨oe,vs,(up e nTe).trans ho,hc,hdx,hd,h1,hv,fun T' eT=>?_⟩
 ·by_cases z:T=b
  ·rw [← z,Heap.get?_update_self _ hoT rfl,hoT]
   exact ⟨(fun q=>by cases q),(fun q=>by cases q)⟩
  ·rw [up b z]
 ·cases eT
  exact ⟨nTe,_,ts.setIfInBounds 3 (x.elim .none fun f=>rawInt f),Heap.get?_update_self _ hoT rfl,rfl,by rw [Array.size_setIfInBounds]; exact h3,by rw [Array.getElem?_setIfInBounds_self_of_lt h3]⟩
theorem tU {E₁ E₂:Value→Shared→Prop} {tb:Option Addr} (hfr:A.frames=some (env :: outer)) (hF:s.heap.FunFrames base (env :: outer)) (hL:env.frame=some L) (hx:XAt s.heap e cls dx tb)
  (k:∀ (h':Heap) (T:Addr),s.heap.get? T=none→(∀ b o,s.heap.get? b=some o→b ∉ frs (env :: outer)→b ≠ e→tb ≠ some b→h'.get? b=some o)→(∀ b o,s.heap.get? b=some o→b∈frs (env :: outer)→∃ sl,h'.get? b=some { o with slots:=sl }) →
   XAt h' e cls dx (some T)→Q () { s with heap:=h' }):wpAny M A (noteFrame (.ref e) env) (fun _ s₂=>wpAny M A (setFlight (.ref e) none) Q E₂ s₂) E₁ s:=by
 refine BF hL hfr hF hL hx (Bool.eq_false_iff.mpr fun z=>by have:=beq_iff_eq.mp z; cases this) fun h' T tn k1 k2 _ x'=>?_
 refine xI none x' fun h2 up _ x2=>k h2 T tn (fun b o hb nf nb nt=>?_) (fun b o hb hf=>?_) x2
 ·have tb:T ≠ b:=fun z=>by rw [z,hb] at tn; cases tn
  exact (up b tb).trans (k1 b o hb nf nb nt)
 ·have tb:T ≠ b:=fun z=>by rw [z,hb] at tn; cases tn
  obtain ⟨sl,q⟩:=k2 b o hb hf
  exact ⟨sl,(up b tb).trans q⟩
theorem zQ {tb:Option Addr} (hfr:A.frames=some (env :: outer)) (hF:s.heap.FunFrames base (env :: outer)) (hL:env.frame=some L) (hx:XAt s.heap e cls dx tb)
  (k:∀ (h':Heap) (T:Addr),s.heap.get? T=none→(∀ b o,s.heap.get? b=some o→b ∉ frs (env :: outer)→b ≠ e→tb ≠ some b→h'.get? b=some o)→(∀ b o,s.heap.get? b=some o→b∈frs (env :: outer)→∃ sl,h'.get? b=some { o with slots:=sl }) →
   XAt h' e cls dx (some T)→Q () { s with heap:=h' }):wpAny M A (leaving env (.ref e)) Q E s:=wpAny_bind (tU hfr hF hL hx k)
end
end L2
namespace L2
open PySem PySem.Spec PyProof.Rows
def CX1 (P:Program) (w:World):CXT:=fun outer H s E ev s'=>∃ e C dx H' tb,ev=.ref e∧E (.ref C) dx H'∧s'.os=s.os∧AllBare s'.gens∧Un (frs outer) [] H H' s.heap s'.heap∧HOk P w H' s'.heap ∧
 XAt s'.heap e (.ref C) dx (some tb)∧s.heap.get? e=none∧s.heap.get? tb=none∧H' e=none∧H' tb=none
theorem kY {P:Program} {w:World} {H:Hp} {h:Heap} {a:Addr} {o:HO} (x:bG P w H h a o):∃ ob,h.get? a=some ob:=by
 cases o with
 | lst xs=>obtain ⟨_,_,_,_,e⟩:=x; exact ⟨_,e⟩
 | tup xs=>obtain ⟨_,_,_,o,e,_⟩:=x; exact ⟨_,e⟩
 | dK kvs=>obtain ⟨_,_,_,_,o,_,_,e,_⟩:=x; exact ⟨_,e⟩
 | dT kvs=>obtain ⟨_,_,_,_,o,_,_,e,_⟩:=x; exact ⟨_,e⟩
 | set S n=>obtain ⟨o,_,_,_,e,_⟩:=x; exact ⟨_,e⟩
 | ins C dx fs=>obtain ⟨_,_,_,e,_⟩:=x; exact ⟨_,e⟩
 | own y=>exact x
 | xd fs=>obtain ⟨_,⟨_,_,_,e,_⟩,_⟩:=x; exact ⟨_,e⟩
 | rng lo hi=>obtain ⟨_,_,_,e⟩:=x; exact ⟨_,e⟩
 | frz ob u=>obtain ⟨e,_⟩:=x; exact ⟨_,e⟩
 | tbl ps=>exact ⟨_,x⟩
 | met f y=>exact ⟨_,x⟩
 | ext φ=>obtain ⟨_,e,_⟩:=x; exact e
theorem qy {P:Program} {w:World} {H:Hp} {h:Heap} {T:Addr} (hok:HOk P w H h) (tn:h.get? T=none):H T=none:=by
 cases z:H T with
 | none=>rfl
 | some o =>
  obtain ⟨ob,hob⟩:=kY (hok T o z)
  rw [hob] at tn
  cases tn
section
variable {P:Program} {w:World} {K:PySem.W.Frag} {mg:Str→Option Value} {base:Heap} {N:List Str} {qual:Str} {scope:Scope} {f:Addr} {cd:Value} {A:Around} {outer:List Env} {s0:Shared} {H0:Hp} {E:XK}
theorem qJ {fs ex:List Addr} {H H':Hp} {h h':Heap} (u:Un fs ex H H' h h') (hex:ex=[]) {b:Addr} (hb:h'.get? b=none):h.get? b=none:=by
 cases q:h.get? b with
 | none=>rfl
 | some o =>
  obtain ⟨o',e⟩:=u.there b o q (by rw [hex]; simp)
  rw [e] at hb
  cases hb
theorem wY {pins:List (Addr × Obj)} {σ:St} {H:Hp} {s:Shared} {e C T:Addr} {tb dx:Option Addr} {h':Heap} (I:Inv (eO (CX1 P w) P w K mg base N qual scope f cd A outer s0 H0 E) pins σ H s) (he:s0.heap.get? e=none) (old:∀ T,tb=some T→s0.heap.get? T=none∧H T=none) (hn:H e=none) (q:E (.ref C) dx H) (hT:s0.heap.get? T=none∧H T=none)
  (k1:∀ b o,s.heap.get? b=some o→b ∉ frs (envOfC qual scope s0.heap.objs.size f cd :: outer)→b ≠ e→tb ≠ some b→h'.get? b=some o) (k2:∀ b o,s.heap.get? b=some o→b∈frs (envOfC qual scope s0.heap.objs.size f cd :: outer)→∃ sl,h'.get? b=some { o with slots:=sl }) (x':XAt h' e (.ref C) dx (some T)) :
  CX1 P w outer H0 s0 E (.ref e) { s with heap:=h' }:=by
 have hfree:=I.stkFree
 have tracked:∀ b o,H b=some o→∀ u,s.heap.get? b=some u→h'.get? b=some u:=fun b o hb u hu=>k1 b u hu (fun z=>by rw [hfree b z] at hb; cases hb) (fun z=>by rw [z,hn] at hb; cases hb) (fun z=>by rw [(old b z).2] at hb; cases hb)
 have oldf:∀ b o,s0.heap.get? b=some o→b ∉ frs [envOfC qual scope s0.heap.objs.size f cd]:=fun b o hb z=>by
  have:b=s0.heap.objs.size:=by
   have hz:b∈[s0.heap.objs.size]:=z
   exact List.mem_singleton.mp hz
  rw [this] at hb
  exact absurd (Heap.lt_size hb) (Nat.lt_irrefl _)
 have fr:∀ b,b∈frs (envOfC qual scope s0.heap.objs.size f cd :: outer)→b∈frs [envOfC qual scope s0.heap.objs.size f cd]∨b∈frs outer:=fun b hb=>by
  have hb:b∈s0.heap.objs.size :: frs outer:=hb
  rcases List.mem_cons.mp hb with z | z
  ·exact .inl (by rw [z]; exact List.mem_cons_self)
  ·exact .inr z
 have base1:Un (frs outer) [] H0 H s0.heap s.heap:=I.base
 refine ⟨e,C,dx,H,T,rfl,q,I.os,I.bare,⟨fun b o hb h0 nf ne=>?_,fun b o hb h0 hf ne=>?_,base1.free,fun b o hb ne=>?_,base1.tups,base1.frzs,base1.tbls⟩,fun b o hb=>?_,x',he,hT.1,hn,hT.2⟩
 ·have hs:=base1.keep b o hb h0 nf ne
  refine k1 b o hs (fun z=>?_) (fun z=>by rw [z,he] at hb; cases hb) fun z=>by rw [(old b z).1] at hb; cases hb
  rcases fr b z with z | z
  ·exact oldf b o hb z
  ·exact nf z
 ·obtain ⟨sl,hs⟩:=base1.slot b o hb h0 hf ne
  have:b∈frs (envOfC qual scope s0.heap.objs.size f cd :: outer):=List.mem_cons_of_mem _ hf
  obtain ⟨sl',h2⟩:=k2 b _ hs this
  exact ⟨sl',h2⟩
 ·obtain ⟨o',hs⟩:=base1.there b o hb ne
  by_cases z:b∈frs (envOfC qual scope s0.heap.objs.size f cd :: outer)
  ·obtain ⟨sl,h2⟩:=k2 b o' hs z
   exact ⟨_,h2⟩
  ·exact ⟨o',k1 b o' hs z (fun z=>by rw [z,he] at hb; cases hb) fun z=>by rw [(old b z).1] at hb; cases hb⟩
 ·refine (I.hok b o hb).stay (fun b' u hb' hu=>?_) (fun _ q=>q) fun _ _ q=>q
  rcases hb' with z | z
  ·subst z; exact tracked b' o hb u hu
  ·exact tracked b' _ z u hu
theorem Cf {pins:List (Addr × Obj)} {σ:St} {H:Hp} {s:Shared} {e C:Addr} {tb dx:Option Addr} (I:Inv (eO (CX1 P w) P w K mg base N qual scope f cd A outer s0 H0 E) pins σ H s) (hx:XAt s.heap e (.ref C) dx tb) (he:s0.heap.get? e=none) (hT:∀ T,tb=some T→s0.heap.get? T=none∧H T=none) (hn:H e=none) (q:E (.ref C) dx H) :
  (eO (CX1 P w) P w K mg base N qual scope f cd A outer s0 H0 E).xe (.ref e) s :=
 zQ (base:=base) (outer:=outer) I.ok.frames I.stack rfl hx fun h' T tn k1 k2 x'=>wY I he hT hn q ⟨qJ (show Un (frs outer) [] H0 H s0.heap s.heap from I.base) rfl tn,qy I.hok tn⟩ k1 k2 x'
end
end L2
namespace L2
open PySem PySem.Spec PyProof.Rows
section
variable {P:Program} {w:World} {K:PySem.W.Frag} {mg:Str→Option Value} {base:Heap} {N:List Str} {qual:Str} {scope:Scope} {f:Addr} {cd:Value} {A:Around} {outer:List Env} {s0:Shared} {H0:Hp} {E:XK}
end
end L2
namespace L3
open PySem PySem.Spec PyProof.Rows L2
abbrev qI:=List D→Mp→DK→(Addr→Mp→Prop)→Prop
def Cz (K:PySem.W.Frag) (C:Addr) (dx:Option Addr):Prop:=∀ d,dx=some d→∃ f,PySem.W.findIn K (.ref C) "__init__"=some (some (.ref f))
def RTo (K:PySem.W.Frag) (R:Addr→Mp→Prop) (E:XK):Prop:=∀ C dx H M,HM K H M→Cz K C dx→R C M→E (.ref C) dx H
def Dw (K:PySem.W.Frag) (sp:qI):Sp:=fun vs H Q' E=>∃ ds M Q R,aM K H ds vs∧HM K H M∧sp ds M Q R∧Up K H Q' Q∧RTo K R E
abbrev AG (P:Program) (w:World) (K:PySem.W.Frag) (mg:Str→Option Value) (base:Heap) (k:Nat) (f:Addr) (fd:FuncData) (ps:List Str) (sp:qI):Prop:=gx P w K mg base (CX1 P w) k f fd ps (Dw K sp)
section
variable {X:Cx} {x:Str} {p pos np cpos:Pos} {e:Expr} {es:List Expr} {t:T3A} {k:Nat} {f C:Addr} {fd:FuncData} {ps:List Str} {sp:qI} {R:Addr→Mp→Prop} {E:XK}
end
section
variable {P:Program} {w:World} {K:PySem.W.Frag} {mg:Str→Option Value} {base:Heap} {N:List Str} {qual:Str} {scope:Scope} {f:Addr} {cd:Value} {A:Around} {outer:List Env} {s0:Shared} {H0:Hp} {E:XK} {x:Str} {np cpos pos:Pos} {e:Expr} {C:Addr} {R:Addr→Mp→Prop} {ta:T3A}
theorem Ct {x qual:Str} {st:Stmt} {f:Addr} {fd:FuncData} {N ps:List Str} {k:Nat} {sp:qI} (F:Fun K x qual st f fd) (S:aq N ps (al st)) (len:∀ ds M Q R,sp ds M Q R→ds.length=ps.length)
  (hbody:∀ (cdv:Value) (A:Around) (outer:List Env) (s:Shared) (H:Hp) (E:XK) (R:Addr→Mp→Prop),bJ k (A.deeper (envOfC qual (al st) s.heap.objs.size f cdv))→RTo K R E →
   ∃ t,Ss3 (eO (CX1 P w) P w K mg base N qual (al st) f cdv A outer s H E) (bI st) t∧∀ ds M Q,sp ds M Q R→t { nx:=fun _ M'=>∃ M'',Sub M'' M'∧Q .non M'',rt:=fun d M'=>∃ M'',Sub M'' M'∧Q d M'' } (gJ N ds) M):AG P w K mg base (k + 1) f fd ps sp:=by
 obtain ⟨oc,od,kV,doc,pm,an,cdv,ct,osl,rfl,lk,hcd⟩:=F.ex
 refine vQ lk hcd S (fun vs H Q E h=>?_) fun A outer s H vs Q' E hr h=>?_
 ·obtain ⟨ds,M,Q,R,hd,_,hs,_⟩:=h
  rw [← hd.length]
  exact len ds M Q R hs
 ·obtain ⟨ds,M,Q,R,hd,hm,hs,k,hR⟩:=h
  obtain ⟨t,ht,hb⟩:=hbody cdv A outer s H E R hr hR
  exact ⟨_,ht,gJ N ds,M,_,nY hd,hm,hb ds M Q hs,fun σ' H' δ' M' _ x2 x3 _ ⟨M'',y1,y2⟩=>k .non H' .non M'' .non (x2.sub y1) x3 y2,fun v H' d M' x1 x2 x3 ⟨M'',y1,y2⟩=>k v H' d M'' x1 (x2.sub y1) x3 y2,fun _ _ _ _ _ _ _ _ z=>z,fun _ _ _ _ _ _ _ _ z=>z⟩
end
end L3
namespace L2
open PySem PySem.Spec PyProof.Rows
def TKept (H H':Hp):Prop:=(∀ b xs,H b=some (.tup xs)→H' b=some (.tup xs))∧∀ b o u,H b=some (.frz o u)→H' b=some (.frz o u)
def XIn (X:Cx) (pins:List (Addr × Obj)) (σ:St) (J:Hp→Prop) (E:XK) (ev:Value) (s':Shared):Prop:=∃ H s,J H∧Inv X pins σ H s∧CX1 X.prog X.w X.stack H s E ev s'
def CS (X:Cx) (pins:List (Addr × Obj)) (σ:St) (J:Hp→Prop) (E:XK) (ev:Value) (s':Shared):Prop:=∃ a C dx H' tb H1 s1,ev=.ref a∧E (.ref C) dx H'∧Inv X pins σ H' s'∧XAt s'.heap a (.ref C) dx (some tb)∧H' a=none∧H' tb=none∧J H1∧TKept H1 H'∧Inv X pins σ H1 s1∧s1.heap.get? a=none
theorem BK {X:Cx} {M:Model} {E₁ E₂:Value→Shared→Prop} {pins:List (Addr × Obj)} {σ:St} {J:Hp→Prop} {E:XK} {ev:Value} {s':Shared} {outer:List Env} {L:Addr} (h:XIn X pins σ J E ev s') (hst:X.stack=X.env :: outer) (hL:X.env.frame=some L) :
  wpAny M X.A (noteFrame ev X.env) (fun _ s₂=>wpAny M X.A (setFlight ev none) (fun _ s₃=>CS X pins σ J E ev s₃) E₂ s₂) E₁ s':=by
 obtain ⟨H,s,jH,I,e,C,dx,H',tb,rfl,q,os,bare,un,hok,x,he,ht,ne,nt⟩:=h
 obtain ⟨hh,g,d,t,os'⟩:=s'
 obtain rfl:os'=s.os:=os
 have I':=I.call (h':=hh) (g':=g) (d':=d) (t':=t) (ch:=[]) un hok bare (fun b z=>absurd z (by simp))
 have hF:=I'.stack
 have hfree:=I'.stkFree
 have hfr:=I.ok.frames
 rw [hst] at hF hfr
 refine tU (base:=X.base) (outer:=outer) hfr hF hL x fun h' T tn k1 k2 x'=>?_
 have tracked:∀ b o,H' b=some o→∀ u,hh.get? b=some u→h'.get? b=some u:=fun b o hb u hu=>k1 b u hu (fun z=>by rw [hfree b (by rw [hst]; exact z)] at hb; cases hb) (fun z=>by rw [z,ne] at hb; cases hb) (fun z=>by cases z; rw [nt] at hb; cases hb)
 have un':Un (frs X.stack) [] H H' s.heap h':=by
  refine ⟨fun b o hb h0 nf nx=>?_,fun b o hb h0 hf nx=>?_,un.free,fun b o hb nx=>?_,un.tups,un.frzs,un.tbls⟩
  ·exact k1 b o (un.keep b o hb h0 nf nx) (fun z=>nf (by rw [hst]; exact z)) (fun z=>by rw [z,he] at hb; cases hb) fun z=>by cases z; rw [ht] at hb; cases hb
  ·obtain ⟨sl,hs⟩:=un.slot b o hb h0 hf nx
   obtain ⟨sl',h2⟩:=k2 b _ hs (by rw [← hst]; exact hf)
   exact ⟨sl',h2⟩
  ·obtain ⟨o',hs⟩:=un.there b o hb nx
   by_cases z:b∈frs (X.env :: outer)
   ·obtain ⟨sl,h2⟩:=k2 b o' hs z
    exact ⟨_,h2⟩
   ·exact ⟨o',k1 b o' hs z (fun z=>by rw [z,he] at hb; cases hb) fun z=>by cases z; rw [ht] at hb; cases hb⟩
 have hok':HOk X.prog X.w H' h':=fun b o hb=>(hok b o hb).stay (fun b' u hb' hu=>by
  rcases hb' with z | z
  ·subst z; exact tracked b' o hb u hu
  ·exact tracked b' _ z u hu) (fun _ q=>q) fun _ _ q=>q
 have I3:Inv X pins σ H' { heap:=h',gens:=g,drawn:=d,toks:=t,os:=s.os }:=Inv.call (s:=s) (ch:=[]) I un' hok' bare (fun b z=>absurd z (by simp))
 refine ⟨e,C,dx,H',T,H,s,rfl,q,I3,x',ne,?_,jH,⟨un.tups,un.frzs⟩,I,he⟩
 cases z:H' T with
 | none=>rfl
 | some o =>
  obtain ⟨ob,hob⟩:=kY (hok T o z)
  have tn:hh.get? T=none:=tn
  rw [hob] at tn
  cases tn
end L2
namespace L2
open PySem PySem.Spec PyProof.Rows
section
variable {X:Cx} {pins:List (Addr × Obj)} {σ σ':St} {H H1:Hp} {s s1:Shared} {ev:Value} {E':Value→Shared→Prop} {a:Addr}
theorem Inv.adopt {o:HO} (I:Inv X pins σ H s) (I1:Inv X pins σ' H1 s1) (n1:s1.heap.get? a=none) (hn:H a=none) (ok:bG X.prog X.w (upd H a o) s.heap a o):Inv X pins σ (upd H a o) s:=by
 have ne:∀ b ob,s1.heap.get? b=some ob→b ≠ a:=fun b ob e z=>by rw [z,n1] at e; cases e
 have nh:∀ b ob,H b=some ob→b ≠ a:=fun b ob e z=>by rw [z,hn] at e; cases e
 refine ⟨I.ok,I.os,I.bare,⟨I.base.keep,I.base.slot,fun b o' e h0 hb=>?_,I.base.there,fun b xs e=>?_,fun b o' u e=>?_,fun b ps e=>?_⟩,I.loc,I.cell,?_,fun x c e=>?_,fun p hp=>?_,fun b ob e=>?_,I.len⟩
 ·obtain ⟨o2,e2⟩:=I1.base.there b o' e hb
  rw [aK (ne b o2 e2)]
  exact I.base.free b o' e h0 hb
 ·have:=I.base.tups b xs e
  rw [aK (nh b _ this)]; exact this
 ·have:=I.base.frzs b o' u e
  rw [aK (nh b _ this)]; exact this
 ·obtain ⟨more,this⟩:=I.base.tbls b ps e
  exact ⟨more,by rw [aK (nh b _ this)]; exact this⟩
 ·obtain ⟨m,⟨o2,_,_,e2,_⟩,_⟩:=I1.loc
  rw [aK (ne _ o2 e2)]; exact I.free
 ·obtain ⟨v,o2,e2,_⟩:=I1.cell x c e
  rw [aK (ne _ o2 e2)]; exact I.freeC x c e
 ·obtain ⟨e1,e2,e3,e4,e5⟩:=I.pin p hp
  exact ⟨e1,by rw [aK (ne _ _ (I1.pin p hp).1)]; exact e2,e3,e4,e5⟩
 ·by_cases z:b=a
  ·subst z
   rw [aN] at e
   cases e
   exact ok
  ·rw [aK z] at e
   exact (I.hok b ob e).stay (fun _ _ _ q=>q) (fun b' q=>by rw [aK (nh b' _ q)]; exact q) fun b' xs q=>by rw [aK (nh b' _ q)]; exact q
theorem Inv.locs {h':Heap} {m':Str→Option Value} (I:Inv X pins σ H s) (hn:h'.Ns X.env.locals m') (hs:Heap.SameBut X.env.locals s.heap h') (hl:σ'.length=X.N.length)
  (hm:∀ m,s.heap.Ns X.env.locals m→(∀ (i:Nat) (x:Str) (v:V),X.N[i]?=some x→σ[i]?=some (some v)→Vis X.env.scope x→∃ u,bf v u∧B1 X.env s.heap m x u)→∀ (i:Nat) (x:Str) (v:V),X.N[i]?=some x→σ'[i]?=some (some v)→Vis X.env.scope x→∃ u,bf v u∧((X.env.kindOf x=some .local∧m' x=some u)∨((X.env.kindOf x=some .cell∨X.env.kindOf x=some .free)∧∃ c,X.env.cells.lookup x=some c∧s.heap.IsCell c (some u)))):Inv X pins σ' H { s with heap:=h' }:=by
 obtain ⟨m,hn0,hl0⟩:=id I.loc
 obtain ⟨oL,_,_,hoL,_⟩:=id hn0
 have cne:=I.cne
 refine ⟨I.ok,I.os,I.bare,⟨fun b o e n hb hx=>?_,fun b o e n hb hx=>?_,I.base.free,fun b o e hx=>?_,I.base.tups,I.base.frzs,I.base.tbls⟩,⟨_,hn,fun j y v' e1 e2 e3=>?_⟩,fun y c e=>?_,I.free,I.freeC,fun p hp=>?_,fun b ob e=>?_,hl⟩
 ·exact (hs.2 b (Nat.ne_of_lt (Nat.lt_of_lt_of_le (Heap.lt_size e) I.ok.above))).trans (I.base.keep b o e n hb hx)
 ·obtain ⟨sl,e1⟩:=I.base.slot b o e n hb hx
  exact ⟨sl,(hs.2 b (Nat.ne_of_lt (Nat.lt_of_lt_of_le (Heap.lt_size e) I.ok.above))).trans e1⟩
 ·obtain ⟨o',e1⟩:=I.base.there b o e hx
  exact ⟨o',(hs.2 b (Nat.ne_of_lt (Nat.lt_of_lt_of_le (Heap.lt_size e) I.ok.above))).trans e1⟩
 ·obtain ⟨u,r,q⟩:=hm m hn0 hl0 j y v' e1 e2 e3
  refine ⟨u,r,?_⟩
  rcases q with q | ⟨k,c,e,z⟩
  ·exact .inl q
  ·exact .inr ⟨k,c,e,z.sameBut hs (cne y c e)⟩
 ·obtain ⟨w',z⟩:=I.cell y c e
  exact ⟨w',z.sameBut hs (cne y c e)⟩
 ·obtain ⟨e,n,ne,nf,d⟩:=I.pin p hp
  exact ⟨(hs.2 p.1 ne).trans e,n,ne,nf,d⟩
 ·refine (I.hok b ob e).stay (fun c w' hc q=>(hs.2 c ?_).trans q) (fun _ q=>q) fun _ _ q=>q
  rintro rfl
  rcases hc with hc | hc
  ·rw [← hc,I.free] at e; cases e
  ·rw [I.free] at hc; cases hc
end
end L2
namespace L2
open PySem PySem.Spec PyProof.Rows
def Cx.marked (X:Cx) (ev:Value) (E:Value→Shared→Prop):Cx:={ X with A:=X.A.mark (some ev),calm:=false,xe:=E }
section
variable {X:Cx} {pins:List (Addr × Obj)} {σ:St} {H:Hp} {s:Shared} {ev:Value} {E':Value→Shared→Prop}
theorem Inv.mark (I:Inv X pins σ H s):Inv (X.marked ev E') pins σ H s :=
 ⟨⟨I.ok.mod,I.ok.kind,I.ok.glob,I.ok.blt,I.ok.above,I.ok.inj,I.ok.has,I.ok.cab,(fun z=>by cases z),I.ok.frames,I.ok.stk,I.ok.exf,I.ok.bs,I.ok.bsz,I.ok.noex,I.ok.exfs,I.ok.funs,I.ok.frf⟩,I.os,I.bare,I.base,I.loc,I.cell,I.free,I.freeC,I.pin,I.hok,I.len⟩
theorem Inv.unmark (ok:X.Ok) (I:Inv (X.marked ev E') pins σ H s):Inv X pins σ H s:=⟨ok,I.os,I.bare,I.base,I.loc,I.cell,I.free,I.freeC,I.pin,I.hok,I.len⟩
theorem SP.unmark (ok:X.Ok) {D:pq} {f:Flow} (h:SP (X.marked ev E') pins D f s):SP X pins D f s:=by
 cases f with
 | next=>obtain ⟨a,b,I,q⟩:=h; exact ⟨a,b,I.unmark ok,q⟩
 | brk=>obtain ⟨a,b,I,q⟩:=h; exact ⟨a,b,I.unmark ok,q⟩
 | cont=>obtain ⟨a,b,I,q⟩:=h; exact ⟨a,b,I.unmark ok,q⟩
 | ret v=>obtain ⟨a,b,c,I,q⟩:=h; exact ⟨a,b,c,I.unmark ok,q⟩
theorem rS {M:Model} {h:Heap} {a:Addr} {o:Obj} (ho:h.get? a=some o):PySem.W.Looks M h (typeOf (.ref a)) o.cls:=by
 intro A Q E s k q
 unfold typeOf
 exact wpAny_bind (wpAny_load (k a o ho) (wpAny_pure q))
theorem qi {M:Model} {A:Around} {E:Value→Shared→Prop} {a C T:Addr} {Q:Unit→Shared→Prop} {dx:Option Addr} (x:XAt s.heap a (.ref C) dx (some T)) (h:∀ h':Heap,(∀ b,h'.get? b=s.heap.get? b)→Q () { s with heap:=h' }):wpAny M A (setFlight (.ref a) none) Q E s:=by
 obtain ⟨oe,vs,ho,hc,_,hd,h1,hv,hT⟩:=x
 obtain ⟨nTe,oT,ts,hoT,hdT,h3,hn⟩:=hT T rfl
 unfold setFlight
 refine wpAny_bind (wpAny_field ho hd hv ?_)
 rw [if_pos (by rfl)]
 refine wpAny_setField hoT hdT h3 (h _ fun b=>?_)
 by_cases z:T=b
 ·subst z
  obtain ⟨oc,od,odt,osl⟩:=oT
  obtain rfl:odt=.fields ts:=hdT
  rw [Heap.get?_update_self _ hoT rfl,hoT]
  show some (Obj.mk oc od (.fields (ts.setIfInBounds 3 .none)) osl)=_
  have:ts.setIfInBounds 3 .none=ts:=by
   apply Array.ext
   ·simp
   ·intro i h1 h2
    rw [Array.getElem_setIfInBounds]
    split
    ·rename_i e
     subst e
     rw [Array.getElem?_eq_getElem h3] at hn
     exact (Option.some.inj hn).symm
    ·rfl
  rw [this]
 ·exact Heap.get?_update_other _ _ z
end
def PEX (X:Cx) (e:Expr) (t:St→Hp→VK→(Hp→Prop)→XK→Prop):Prop:=∀ (pins:List (Addr × Obj)) (s:Shared) (σ:St) (H:Hp) (Q:VK) (J:Hp→Prop) (E:XK),Inv X pins σ H s→t σ H Q J E→wpAny (model X.prog X.w) X.A (eval e X.env) (EP X pins σ Q) (XIn X pins σ J E) s
def PSX (X:Cx) (st:Stmt) (t:pq→St→Hp→(Hp→Prop)→XK→Prop):Prop:=∀ (pins:List (Addr × Obj)) (s:Shared) (σ:St) (H:Hp) (D:pq) (J:Hp→Prop) (E:XK),Inv X pins σ H s→t D σ H J E→wpAny (model X.prog X.w) X.A (exec st X.env) (SP X pins D) (XIn X pins σ J E) s
section
variable {X:Cx} {k:Nat} {f C:Addr} {fd:FuncData} {ps:List Str} {sp:Sp} {dvs:List V} {ds:List Value} {x m:Str} {p pos apos:Pos} {e o:Expr} {es:List Expr} {t:TA}
theorem vB (F:gx X.prog X.w X.K X.mg X.base (CX1 X.prog X.w) k f fd ps sp) (hr:bJ k X.A) (hg:Gl X x) (hm:X.mg x=some (.ref f)) (hk:PySem.W.keepIn X.K (.ref f)=true) (hb:dP X.K fd ps ds) (hd:aU dvs ds)
  (ha:PA (X.xeTo fun _ _=>False) (e :: es) t) (hdb:(x == ("__debug__":Str))=false:=by decide) (he:starEach (e :: es) X.env=(false,eval e X.env) :: starEach es X.env:=by rfl) (hpl:(backTo pos (starEach es X.env)).any (·.1)=false:=by rfl) :
  PEX X (.Call (.Name x p) (e :: es) [] pos) (fun σ H Q J E=>t σ H fun vs H1=>J H1∧sp (vs ++ dvs) H1 Q E):=by
 intro pins s σ H Q J E I h
 refine wpAny_Call_Name_kw (fX I hg hm ?_ hdb)
 refine PySem.W.callWith_K (h₀:=X.base) I.ok.mod.kin hk (wpAny_mono (ha pos pins s σ H _ I.xeTo h) (fun us s1 ⟨vs,H1,I1,r,jH,q⟩=>⟨I1.kIn,?_⟩) fun _ _ z=>z.elim) he hpl
 have I1:=I1.xeOf
 have r2:aU (vs ++ dvs) (us ++ ds):=r.append hd
 have hl:(us ++ ds).length=ps.length:=by rw [← r2.length]; exact F.len _ _ _ _ q
 refine wpAny_call (codeAny_mono (F.run X.A X.stack s1 H1 ⟨us,[]⟩ (us ++ ds) (vs ++ dvs) Q E hr I1.env0 (hb s1 us I1.kIn hl) r2 q) fun r s' hq=>?_)
 cases r with
 | error e=>exact ⟨H1,s1,jH,I1,hq⟩
 | ok fl =>
  cases fl with
  | ret u=>exact I1.after hq
  | next=>exact False.elim hq
  | brk=>exact False.elim hq
  | cont=>exact False.elim hq
end
theorem yJ {X:Cx} {st b₀:Stmt} {suite:List Stmt} {cn:Str} {cnp hpos pos:Pos} {Cc L:Addr} {outer:List Env} {t:pq→St→Hp→(Hp→Prop)→XK→Prop} {th:TS} (hb:PSX X st t) (hst:X.stack=X.env :: outer) (hL:X.env.frame=some L) (hg:Gl X cn) (hm:X.mg cn=some (.ref Cc)) (hs:∀ ev E',PSs (X.marked ev E') (b₀ :: suite) th)
  (hdb:(cn == ("__debug__":Str))=false:=by decide) :
  PS X (.Try [st] [.ExceptHandler (some (.Name cn cnp)) none (b₀ :: suite) hpos] [] [] pos) (fun D σ H=>∃ (J:Hp→Prop) (E:XK),t D σ H J E∧∀ C dx H1 H',J H1→TKept H1 H'→E (.ref C) dx H'→PySem.W.exmOne X.K (.ref C) (.ref Cc)=some true∧th D σ H'):=by
 intro pins s σ H D I ⟨J,E,h,hh⟩
 refine wpAny_Try_except (wpAny_mono (Q:=fun f s'=>SP X pins D f s') (wpAny_execs_cons (thn (hb pins s σ H D J E I h) fun f s1 q=>?_)) (fun f s1 q=>?_) fun ev s1 x=>?_)
 ·cases f with
  | next=>exact wpAny_execs_nil q
  | brk=>exact q
  | cont=>exact q
  | ret v=>exact q
 ·cases f with
  | next=>exact wpAny_execs_nil q
  | brk=>exact q
  | cont=>exact q
  | ret v=>exact q
 ·refine wpAny_mono (BK x hst hL) (fun _ s2 y=>thn y fun _ s3 z=>?_) fun _ _ z=>z
  obtain ⟨a,C,dx,H',tb,H1,s1,rfl,q,I3,x3,na,nt,jH,tk,I1,n1⟩:=z
  obtain ⟨hm1,h1⟩:=hh C dx H1 H' jH tk q
  refine wpAny_handleBy_cons (codeAny_handlers_test (fX (X:=X.marked (.ref a) fun _ _=>False) I3.mark hg hm ?_ hdb)) (by intro z; cases z)
  obtain ⟨oe,vs,ho,hc,_⟩:=id x3
  refine PySem.W.exm_one I3.kIn (rS ho) (by rw [hc]; exact hm1) _ _ _ _ (fun _ _ z=>z) ?_
  refine codeAny_handlers_suite (qi x3 fun h' hh'=>?_)
  have I4:Inv X pins σ H' { s3 with heap:=h' }:=I3.kept (t':=s3.toks) fun b u z=>by rw [hh' b]; exact z
  refine wpAny_mono (hs (.ref a) _ pins _ σ H' D I4.mark h1) (fun f s5 q5=>SP.unmark I.ok q5) fun _ _ z=>z
end L2
namespace L2
open PySem PySem.Spec PyProof.Rows
structure DN (K:PySem.W.Frag) (C:Addr):Prop where
 hd:(PySem.W.clsIn K C).isSome=true
 ga:PySem.W.findIn K (.ref C) "__getattribute__"=some (some (.builtin "BaseException.__getattribute__"))
 gt:PySem.W.findIn K (.ref C) "__getattr__"=some none
 ha:PySem.W.findIn K (.ref C) "__class__"=some (some (.builtin "object.__class__"))
 hn:PySem.W.specialIn K (.builtin "object.__class__") "__get__"=some (some (.builtin "getset_descriptor.__get__"))
 htk:PySem.W.takesIn K (.builtin "object.__class__")=some true
 hm:PySem.W.mroIn K C (.type "object")=some true
 hb:PySem.W.mroIn K C (.type "BaseException")=some true
section
variable {prog:Program} {w:World} {A:Around} {E:Value→Shared→Prop} {s:Shared} {K:PySem.W.Frag} {x C:Addr} {ox:Obj}
end
end L2
namespace L3
open PySem PySem.Spec PyProof.Rows L2
theorem _root_.L2.TKept.ext {K:PySem.W.Frag} {H H':Hp} (h:TKept H H'):bg K H H':=⟨fun a xs q=>by
 rcases q with (q | ⟨u,q⟩) | q
 ·exact .inl (.inl (h.1 a xs q))
 ·exact .inl (.inr ⟨u,h.2 a u _ q⟩)
 ·exact .inr q,fun a o xs q=>h.2 a o _ q⟩
abbrev T3X:=DSt→Mp→DK→(Addr→Mp→Prop)→Prop
def loX (K:PySem.W.Frag) (t:T3X):St→Hp→VK→(Hp→Prop)→XK→Prop:=fun σ H Q' J E=>∃ δ M Q R,St3 K H σ δ∧HM K H M∧t δ M Q R∧(∀ v H' d M',Has K H' d v→HM K H' M'→bg K H H'→Q d M'→Q' v H')∧(∀ H1,bg K H H1→J H1)∧RTo K R E
def E3X (X:Cx) (e:Expr) (t:T3X):Prop:=PEX X e (loX X.K t)
theorem PEX.mono {X:Cx} {e:Expr} {t t':St→Hp→VK→(Hp→Prop)→XK→Prop} (h:PEX X e t) (m:∀ σ H Q J E,t' σ H Q J E→t σ H Q J E):PEX X e t':=fun pins s σ H Q J E I q=>h pins s σ H Q J E I (m σ H Q J E q)
section
variable {X:Cx} {x:Str} {p pos np cpos:Pos} {e:Expr} {es:List Expr} {t:T3A} {k:Nat} {f C:Addr} {fd:FuncData} {ps:List Str} {sp:qI}
theorem wK (F:AG X.prog X.w X.K X.mg X.base k f fd ps sp) (hr:bJ k X.A) (hg:Gl X x) (hm:X.mg x=some (.ref f)) (hk:PySem.W.keepIn X.K (.ref f)=true) (hb:dP X.K fd ps []) (ha:A3 (X.xeTo fun _ _=>False) (e :: es) t)
  (hdb:(x == ("__debug__":Str))=false:=by decide) (he:starEach (e :: es) X.env=(false,eval e X.env) :: starEach es X.env:=by rfl) (hpl:(backTo pos (starEach es X.env)).any (·.1)=false:=by rfl) :
  E3X X (.Call (.Name x p) (e :: es) [] pos) (fun δ M Q R=>t δ M fun ds M1=>sp ds M1 Q R):=PEX.mono (vB F hr hg hm hk hb .nil ha hdb he hpl) fun σ H Q' J E ⟨δ,M,Q,R,hs,hm,ht,k,kJ,kR⟩ =>
 ⟨δ,M,_,hs,hm,ht,fun vs H1 ds M1 hd hm1 e1 q1=>⟨kJ H1 e1,ds,M1,Q,R,by rw [List.append_nil]; exact hd,hm1,q1,eZ e1 k,kR⟩⟩
end
section
variable {X:Cx} {b₀:Stmt} {suite:List Stmt} {cn n x:Str} {e:Expr} {cnp hpos pos apos xpos:Pos} {Cc L:Addr} {outer:List Env} {i ix:Nat} {te:T3X} {th:T3S}
end
end L3
namespace L2
open PySem PySem.Spec PyProof.Rows
def mI (es:Array DictEntry):Bool:=es.toList.all fun e=>match e.key with | .str _ _=>true | _=>false
theorem lY {es:Array DictEntry} (h:mI es=true):StrKeys es:=fun e he=>by
 have:=List.all_eq_true.mp h e (Array.mem_toList_iff.mpr he)
 cases z:e.key with
 | str n t=>exact ⟨n,t,rfl⟩
 | _=>rw [z] at this; cases this
abbrev bmV:List Value:=[.type "ValueError",.type "Exception",.type "BaseException",.type "object"]
theorem zI {K:PySem.W.Frag} {t:Value} {C:Addr} {cd:ClassData} {b:Bool} (q0:PySem.W.subIn K (.ref C) (.type "BaseException")=some true) (q1:PySem.W.clsIn K C=some cd) (q2:PySem.W.typeIn K (.ref C)=some (.type "type")) (s:PySem.W.subIn K t (.ref C)=some b):PySem.W.exmOne K t (.ref C)=some b:=by
 unfold PySem.W.exmOne
 rw [q0,if_pos (by rfl)]
 unfold PySem.W.kitCls
 simp only
 rw [q1,q2,if_pos (by rfl)]
 exact s
end L2
namespace L3
open PySem PySem.Spec PyProof.Rows L2
end L3
namespace L2
open PySem PySem.Spec PyProof.Rows
theorem mB (self:Value):∀ own:List Addr,refuseLoop self "__setattr__" (own.map Value.ref ++ bmV)=pure ()
 | []=>PySem.F.store_ValueError.passes self
 | c :: r=>by
  show refuseLoop self "__setattr__" (.ref c :: (r.map Value.ref ++ bmV))=pure ()
  rw [refuseLoop_ref]
  exact mB self r
section
variable {prog:Program} {w:World} {A:Around} {E:Value→Shared→Prop} {s:Shared} {K:PySem.W.Frag} {x C:Addr} {ox:Obj} {cd:ClassData} {own:List Addr} {name:Str} {v:Value}
theorem xZ {Q:Unit→Shared→Prop} (X:K.In s.heap) (I:PySem.W.InstAt s.heap x ox C none) (hs:PySem.W.findIn K (.ref C) "__setattr__"=some (some (.builtin "object.__setattr__"))) (hc:PySem.W.clsIn K C=some cd) (hm:cd.mro=own.map Value.ref ++ bmV) (ht:PySem.W.takerIn K C name=some none) (hd:cd.hasDict=true)
  (h:∀ h' d t,(∀ b o,b ≠ x→s.heap.get? b=some o→h'.get? b=some o)→h'.get? x=some { ox with dict:=some d }→Q () { s with heap:=h',toks:=t }):wpAny (model prog w) A (setAttr (.ref x) name v) Q E s:=by
 refine PySem.W.set_plain X I hs ?_
 have SF:=PySem.F.store_ValueError
 have ne:cd.mro.isEmpty=false:=by
  rw [hm]
  cases own <;> rfl
 have has:cd.mro.contains (.type "object")=true:=by
  rw [hm,List.contains_eq_any_beq,List.any_append]
  have:bmV.any (Value.type "object" == ·)=true:=by decide +kernel
  rw [this,Bool.or_true]
 have sub:PySem.W.Looks (model prog w) s.heap (isInstance (.ref x) (.type "object")) true:=I.type.andThen (PySem.W.looks_mroIn X (by unfold PySem.W.mroIn; rw [hc,Option.bind_some,if_neg (by rw [ne]; decide),has]))
 refine codeAny_call_builtin SF.slot.plain SF.entry (@PySem.W.check_slot (model prog w) _ _ { s with toks:=s.toks + 1 } "object.__setattr__" "object" "__setattr__" (.ref x) [.str name s.toks,v] [] _ SF.kind SF.split sub (SF.args (.ref x) (.str name s.toks) v) ?_)
 obtain ⟨attr,ha,hr⟩:=Option.bind_eq_some_iff.mp ht
 have hmro:PySem.W.Looks (model prog w) s.heap (mroOf (.ref C)) cd.mro:=(PySem.W.looks_clsIn X hc).andThen .now
 have L3':PySem.W.Looks (model prog w) s.heap (Builtin.ObjectAttr.storeTaker? attr) none:=by
  cases attr with
  | none=>exact .now
  | some a =>
   obtain ⟨b,hb,hr⟩:=Option.map_eq_some_iff.mp hr
   refine (PySem.W.looks_takesIn X hb).andThen ?_
   cases b
   ·exact .now
   ·cases hr
 rw [PySem.W.osa_eq,refuse_eq]
 refine wpAny_bind (wpAny_bind (I.type.here (s:={ s with toks:=s.toks + 1 }) (wpAny_bind (hmro.here (s:={ s with toks:=s.toks + 1 }) ?_))))
 rw [hm,mB]
 refine wpAny_pure (wpAny_bind (I.type.here (s:={ s with toks:=s.toks + 1 }) (wpAny_bind ((PySem.W.looks_findIn X ha).here (s:={ s with toks:=s.toks + 1 }) (wpAny_bind (L3'.here (s:={ s with toks:=s.toks + 1 }) ?_))))))
 obtain ⟨hx,hcl,hn,hdx⟩:=I
 obtain ⟨oc,odi,oda,osl⟩:=ox
 dsimp only at hcl hdx
 subst hcl
 cases odi with
 | some _=>exact hdx.elim
 | none =>
  refine wpAny_bind (wpAny_pure (wpAny_bind (wpAny_bind (wpAny_loadPart hx (wpAny_bind (PySem.W.Looks.here (s:={ s with toks:=s.toks + 1 }) (PySem.W.looks_clsIn X hc) ?_))))))
  rw [hd]
  rw [if_neg (by decide)]
  obtain ⟨hh,g,dr,tk,os⟩:=s
  dsimp only at hx h ⊢
  rw [if_neg (by simp [typeHasDict])]
  split
  ·cases hn
  ·have y1:(hh.push PySem.W.emptyDict).get? x=some ⟨.ref C,none,oda,osl⟩:=Heap.get?_push_of_some _ hx
   have nx:x ≠ hh.objs.size:=fun z=>Nat.lt_irrefl _ (z ▸ Heap.lt_size hx)
   refine wpAny_bind (wpAny_alloc' (wpAny_bind (wpAny_update' y1 (wpAny_pure ?_))))
   have e0:((hh.push PySem.W.emptyDict).update x fun o=>{ o with dict:=some hh.objs.size }).Ns hh.objs.size (fun _=>none):=⟨PySem.W.emptyDict,#[],_,(Heap.get?_update_ne _ _ _ _ nx.symm).trans (Heap.get?_push_size hh rfl),rfl,fun e he=>absurd he (by simp),fun _=>rfl⟩
   refine wpAny_bind (wpAny_pure (wpAny_bind (wpAny_nsSet1 (Heap.Ns1.of_empty e0) fun h' n1 sb=>?_)))
   obtain ⟨oD,esD,epD,g1,g2,g3⟩:=n1.count (Within.cons name v Within.nil)
   refine wpAny_bind (wpAny_lookBehind g1 (g2 ▸ pastItsLine_dict (Nat.le_trans g3 (by rw [sizeLine_eq,List.length_singleton]; decide))) (wpAny_pure (h h' hh.objs.size _ (fun b o hb z=>?_) ?_)))
   ·exact (sb.2 b fun y=>Nat.lt_irrefl _ (y ▸ Heap.lt_size z)).trans ((Heap.get?_update_ne _ _ _ _ hb).trans (Heap.get?_push_of_some _ z))
   ·refine (sb.2 x nx).trans (Heap.get?_update_self _ y1 ?_)
    have fr:=(Heap.get?_some_iff.mp hx).2
    cases oda with
    | _=>first | rfl | exact fr
end
end L2
namespace L2
open PySem PySem.Spec PyProof.Rows
section
variable {prog:Program} {w:World} {A:Around} {E:Value→Shared→Prop} {h:Heap} {g:Array GenState} {d:Drawn} {t:Nat} {os:OsState}
variable {nm q:Str} {C N:Addr} {bs bm bmB:List Value} {hdct:Bool} {sn:List Str} {sub:List Value} {ab:Bool} {col:Option Bool} {dd:Option Addr} {k0 k1 k2 k3 k5:Option Value} {B Bn newId nid initId inN:String} {bmN:List Value}
abbrev xU (C t:Addr):Obj:={ cls:=.ref C,data:=.fields #[.ref t,.none,.none,.none,.bool false,.none] }
theorem kP (Fn:ExcBaseFacts Bn newId inN bmN) (hBn:bmB.contains (.type Bn)=true) (F:ExcBaseFacts B nid initId bmB) (T:OwnTail h bmB bm) {mN:Str→Option Value} {us:List Value} {fI:Addr} {oI:Obj} {Q:PySem.Fin→Shared→Prop}
  (hC:h.get? C=some (excClassObj nm q C N bs bm hdct sn sub ab col dd k0 k1 k2 k3 k5 newId)) (hn:h.Ns N mN) (hi:mN "__init__"=some (.ref fI)) (hf:h.get? fI=some oI) (hfc:oI.cls=.type "function") (hlen:us.length≤sizeLine)
  (hq:∀ h' e,Heap.MadeExcOf h h' e (.ref C) us→wpAny (model prog w) A (call (.ref fI) (.ref e :: us)) (fun r s'=>r=.none∧Q (.done (.ret (.ref e))) s') E ⟨h',g,d,t,os⟩) :
  wpAny (model prog w) A (Builtin.«type.__call__» ⟨.ref C :: us,[]⟩) Q E ⟨h,g,d,t,os⟩:=by
 repeat (first | with_reducible refine wpAny_loadPart_at hC ?_ | with_reducible refine wpAny_madeBy_exc hC ?_ | wp_step)
 refine codeAny_call_builtin_code (Code.quiet_builtin _ Fn.quiet) (wpAny_check_new_subU Fn hBn T hC (codeAny_exc_new_subU Fn hBn F T hC ?_ hlen))
 have kp:∀ b o,h.get? b=some o→((h.push { cls:=.type "tuple",data:=.seq us.toArray }).push (xU C h.objs.size)).get? b=some o:=fun b o z=>Heap.get?_push_of_some _ (Heap.get?_push_of_some _ z)
 have gE:((h.push { cls:=.type "tuple",data:=.seq us.toArray }).push (xU C h.objs.size)).get? (h.objs.size + 1)=some (xU C h.objs.size):=by heap_get
 have hC2:=kp _ _ hC
 have hn2:((h.push { cls:=.type "tuple",data:=.seq us.toArray }).push (xU C h.objs.size)).Ns N mN:=let ⟨o,es,ep,e,r⟩:=hn; ⟨o,es,ep,kp _ _ e,r⟩
 have cC:(Value.ref C :: bm).contains (.ref C)=true:=by rw [List.contains_cons,beq_self_eq_true,Bool.true_or]
 have T2:=T.keeps kp
 show wpAny _ _ _ _ _ _
 unfold isInstance
 repeat (first | with_reducible refine wpAny_loadPart_at gE ?_ | (with_reducible refine wpAny_isSubtype_exc hC2 ?_; rw [cC]) | wp_step)
 show wpAny _ _ (typeLookup (.ref C) _) _ _ _
 refine wpAny_typeLookup_tail hC2 hn2 T2 F.mroIs F.init.lookup ?_
 rw [hi]
 refine wpAny_holding (wpAny_bind ?_)
 unfold bindSpecial
 refine wpAny_bind (wpAny_typeOf (T:="function") ⟨_,kp _ _ hf,hfc⟩ ?_)
 rw [if_pos (by decide)]
 refine wpAny_pure (wpAny_bind (wpAny_mono (hq _ (h.objs.size + 1) ⟨kp,Heap.get?_none_of_le (Nat.le_succ _),h.objs.size,gE,Heap.get?_none_of_le (Nat.le_refl _),Heap.get?_push_of_some _ (Heap.get?_push_at rfl rfl)⟩) (fun r s' hr=>?_) fun _ _ z=>z))
 obtain ⟨rfl,hQ⟩:=hr
 wp_walk
 exact hQ
theorem rZ (Fn:ExcBaseFacts Bn newId inN bmN) (hBn:bmB.contains (.type Bn)=true) (F:ExcBaseFacts B nid initId bmB) (T:OwnTail h bmB bm) {mN:Str→Option Value} {us:List Value} {fI:Addr} {oI:Obj} {Q:Value→Shared→Prop}
  (hC:h.get? C=some (excClassObj nm q C N bs bm hdct sn sub ab col dd k0 k1 k2 k3 k5 newId)) (hn:h.Ns N mN) (hi:mN "__init__"=some (.ref fI)) (hf:h.get? fI=some oI) (hfc:oI.cls=.type "function") (hlen:us.length≤sizeLine)
  (hq:∀ h' e,Heap.MadeExcOf h h' e (.ref C) us→wpAny (model prog w) (A.under (.builtin "type.__call__" ⟨.ref C :: us,[]⟩)) (call (.ref fI) (.ref e :: us)) (fun r s'=>r=.none∧Q (.ref e) s') E ⟨h',g,d,t,os⟩) :
  wpAny (model prog w) A (call (.ref C) us) Q E ⟨h,g,d,t,os⟩:=by
 have f1:=tc_lookup
 have f2:=tc_bind (.ref C)
 have hT:(⟨h,g,d,t,os⟩:Shared).TypeIs (.ref C) "type":=⟨_,hC,rfl⟩
 refine wpAny_call (codeAny_of_tree ?_)
 show wpAny _ _ (callAny (.ref C) _) _ _ _
 repeat (any_goals (first | assumption | with_reducible refine wpAny_loadPart_at hC ?_ | wp_step))
 exact ⟨rfl,codeAny_call_builtin_at (Code.quiet_builtin _ (by decide +kernel)) entry_typeCall (wpAny_check_type_call_sub hC (kP Fn hBn F T hC hn hi hf hfc hlen hq))⟩
end
end L2
namespace L2
open PySem PySem.Spec PyProof.Rows
section
variable {prog:Program} {w:World} {M:Model} {A:Around} {E:Value→Shared→Prop} {s:Shared} {env:Env}
variable {nm q:Str} {C N:Addr} {bs bm bmB:List Value} {hdct:Bool} {sn:List Str} {sub:List Value} {ab:Bool} {col:Option Bool} {dd:Option Addr} {k0 k1 k2 k3 k5:Option Value} {B Bn newId nid initId inN:String} {bmN:List Value}
def tK (h:Heap) (e C:Addr) (dx:Option Addr):Prop:=∃ t sl,h.get? e=some ⟨.ref C,dx,.fields #[.ref t,.none,.none,.none,.bool false,.none],sl⟩
theorem qL {x:Sem Value} {Q:Flow→Shared→Prop} (hbase:bm.contains (.type "BaseException")=true) (hh:A.handled=none)
  (h:wpAny M A x (fun v s₁=>∃ e dx,v=.ref e∧s₁.heap.get? C=some (excClassObj nm q C N bs bm hdct sn sub ab col dd k0 k1 k2 k3 k5 newId)∧tK s₁.heap e C dx∧E (.ref e) s₁) E s) :
  wpAny M A (raiseStmt env (some x) none) Q E s:=by
 have cB:(Value.ref C :: bm).contains (.type "BaseException")=true:=by rw [List.contains_cons,hbase,Bool.or_true]
 unfold raiseStmt
 refine wpAny_bind (wpAny_mono h (fun v s₁ ⟨e,dx,ev,hC,⟨t,sl,he⟩,hE⟩=>?_) fun _ _ z=>z)
 subst ev
 obtain ⟨hp,g,d,tk,os⟩:=s₁
 repeat (first | with_reducible refine wpAny_loadPart_at he ?_ | with_reducible refine wpAny_loadPart_at hC ?_ | (with_reducible refine wpAny_isSubtype_exc hC ?_; rw [cB]) | wp_step)
 exact wpAny_raiseNew_none hh hE
theorem qk (Fn:ExcBaseFacts Bn newId inN bmN) (hBn:bmB.contains (.type Bn)=true) (F:ExcBaseFacts B nid initId bmB) {mN:Str→Option Value} {fI:Addr} {x:Str} {np cpos pos:Pos} {args:List Expr} {Q:Flow→Shared→Prop}
  (hbase:bm.contains (.type "BaseException")=true) (hh:A.handled=none) (hplain:(backTo cpos (starEach args env)).any (·.1)=false) (hi:mN "__init__"=some (.ref fI))
  (h:wpAny (model prog w) A (eval (.Name x np) env) (fun f s₁=>f=.ref C∧wpAny (model prog w) A (evalArgs (.ref C) true (backTo cpos (starEach args env)) [])
   (fun a s₂=>a.kw=[]∧a.pos.length≤sizeLine∧s₂.heap.get? C=some (excClassObj nm q C N bs bm hdct sn sub ab col dd k0 k1 k2 k3 k5 newId)∧s₂.heap.Ns N mN∧OwnTail s₂.heap bmB bm∧(∃ oI,s₂.heap.get? fI=some oI∧oI.cls=.type "function") ∧
    ∀ h' e,Heap.MadeExcOf s₂.heap h' e (.ref C) a.pos→wpAny (model prog w) (A.under (.builtin "type.__call__" ⟨.ref C :: a.pos,[]⟩)) (call (.ref fI) (.ref e :: a.pos))
     (fun r s'=>r=.none∧∃ dx,s'.heap.get? C=some (excClassObj nm q C N bs bm hdct sn sub ab col dd k0 k1 k2 k3 k5 newId)∧tK s'.heap e C dx∧E (.ref e) s') E { s₂ with heap:=h' }) E s₁) E s) :
  wpAny (model prog w) A (exec (.Raise (some (.Call (.Name x np) args [] cpos)) none pos) env) Q E s:=by
 rw [arm_exec_Raise]
 refine wpAny_bind (wpAny_standAt (qL (C:=C) (nm:=nm) (q:=q) (N:=N) (bs:=bs) (bm:=bm) (hdct:=hdct) (sn:=sn) (sub:=sub) (ab:=ab) (col:=col) (dd:=dd) (k0:=k0) (k1:=k1) (k2:=k2) (k3:=k3) (k5:=k5) (newId:=newId) hbase hh ?_))
 refine wpAny_bind (wpAny_mono (wpAny_Call_ofName (wpAny_mono h (fun f s₁ ⟨ef,h₁⟩=>?_) fun _ _ z=>z)) (fun v s₃ h₃=>wpAny_bind (wpAny_standAt (wpAny_pure h₃))) fun _ _ z=>z)
 subst ef
 unfold callWith
 refine wpAny_bind (wpAny_holding (wpAny_mono h₁ (fun a s₂ h₂=>wpAny_bind (wpAny_standAt ?_)) fun _ _ z=>z))
 obtain ⟨apos,akw⟩:=a
 obtain ⟨hkw,hlen,hC,hn,T,⟨oI,hf,hfc⟩,h₂⟩:=h₂
 obtain rfl:akw=[]:=hkw
 obtain ⟨hp,g,d,tk,os⟩:=s₂
 simp only [hplain]
 refine wpAny_bind (wpAny_keeperOf_exc hC (wpAny_bind (rZ Fn hBn F T hC hn hi hf hfc hlen fun h' e hm=>wpAny_mono (h₂ h' e hm) (fun r s' ⟨z,dx,c1,c2,c3⟩=>⟨z,wpAny_bind (wpAny_holding (wpAny_point (wpAny_pure ⟨e,dx,rfl,c1,c2,c3⟩)))⟩) fun _ _ z=>z)))
end
end L2
namespace L2
open PySem PySem.Spec PyProof.Rows
def x0 (a C:Addr) (h:Heap):Prop:=tK h a C none
def x1 (a C:Addr) (h:Heap):Prop:=∃ d,tK h a C (some d)
structure iY (K:PySem.W.Frag) (C:Addr) (f:Str):Prop where
 sa:PySem.W.findIn K (.ref C) "__setattr__"=some (some (.builtin "object.__setattr__"))
 cd:∃ cd own,PySem.W.clsIn K C=some cd∧cd.mro=List.map Value.ref own ++ bmV∧cd.hasDict=true
 tk:PySem.W.takerIn K C f=some none
section
variable {X:Cx} {pins:List (Addr × Obj)} {σ σ':St} {H H1:Hp} {s s1:Shared} {a C:Addr} {f:Str}
theorem p7 {A:Around} {E:Value→Shared→Prop} {u:Value} {Q:Unit→Shared→Prop} (I:Inv X pins σ H s) (e:H a=some (.ext (x0 a C))) (st:iY X.K C f) (h:∀ s',Inv X pins σ (upd H a (.ext (x1 a C))) s'→Q () s'):wpAny (model X.prog X.w) A (setAttr (.ref a) f u) Q E s:=by
 obtain ⟨⟨t,sl,ho⟩,_,_⟩:=I.hok a _ e
 obtain ⟨cd,own,c1,c2,c3⟩:=st.cd
 refine xZ I.kIn ⟨ho,rfl,rfl,trivial⟩ st.sa c1 c2 st.tk c3 fun h' d tk k1 k2=>h _ ?_
 exact I.write (x:=a) (e:=a) (by rw [e]; exact True.intro) (.inl rfl) k1 ⟨_,k2⟩ ⟨⟨d,t,sl,k2⟩,⟨_,k2⟩,fun h1 h2 ⟨d',t',sl',z⟩ kk=>⟨d',t',sl',kk _ z⟩⟩
theorem Inv.drop {φ:Heap→Prop} (I:Inv X pins σ (upd H1 a (.ext φ)) s) (I1:Inv X pins σ' H1 s1) (hn:H1 a=none):Inv X pins σ H1 s:=by
 refine ⟨I.ok,I.os,I.bare,⟨I.base.keep,I.base.slot,I1.base.free,I.base.there,I1.base.tups,I1.base.frzs,I1.base.tbls⟩,I.loc,I.cell,I1.free,I1.freeC,fun p hp=>⟨(I.pin p hp).1,(I1.pin p hp).2.1,(I.pin p hp).2.2⟩,fun b ob e=>?_,I.len⟩
 have nb:b ≠ a:=fun z=>by rw [z,hn] at e; cases e
 refine (I.hok b ob (by rw [aK nb]; exact e)).stay (fun _ _ _ q=>q) (fun b' q=>?_) fun b' xs q=>?_
 ·by_cases z:b'=a
  ·rw [z,aN] at q; cases q
  ·rwa [aK z] at q
 ·by_cases z:b'=a
  ·rw [z,aN] at q; cases q
  ·rwa [aK z] at q
end
def vM (K:PySem.W.Frag) (ta tv:TE) (f:Str):TS:=fun D σ H=>tv σ H fun _ H1=>ta σ H1 fun x H2=>∃ a C,x=.ref a∧H2 a=some (.ext (x0 a C))∧iY K C f∧D.nx σ (upd H2 a (.ext (x1 a C)))
theorem yu {X:Cx} {o value:Expr} {f:Str} {pos pos':Pos} {ta tv:TE} (ha:PE X o ta) (hv:PE X value tv) (hs:swapsWith value (some (.Attribute o f pos')) pos.line X.env=pure false:=by rfl):PS X (.Assign [.Attribute o f pos'] value pos) (vM X.K ta tv f):=by
 intro pins s σ H D I h
 refine plainObj_wpAny_Assign_Attribute (thn (hv pins s σ H _ I h) fun u s1 ⟨y,H1,I1,ry,q⟩=>thn (ha pins s1 σ H1 _ I1 q) fun ov s2 ⟨x,H2,I2,rx,a,C,ex,ea,st,q2⟩=>?_) hs
 subst ex
 obtain rfl:ov=Value.ref a:=rx
 exact p7 I2 ea st fun s3 I3=>⟨σ,_,I3,q2⟩
def fG (K:PySem.W.Frag) (f:Str):Sp:=fun vs H Q _=>∃ e C y,vs=[.ref e,y]∧H e=some (.ext (x0 e C))∧iY K C f∧Q .non (upd H e (.ext (x1 e C)))
section
variable {P:Program} {w:World} {K:PySem.W.Frag} {mg:Str→Option Value} {base:Heap}
theorem wC {x qual y1 y2 fl:Str} {st:Stmt} {f:Addr} {fd:FuncData} (F:Fun K x qual st f fd) (S:aq [y1,y2] [y1,y2] (al st))
  (hb:∀ (cdv:Value) (A:Around) (outer:List Env) (s:Shared) (H:Hp) (E:XK),PSs (eO (CX1 P w) P w K mg base [y1,y2] qual (al st) f cdv A outer s H E) (bI st) (vM K (rG 0) (rG 1) fl)):gx P w K mg base (CX1 P w) 1 f fd [y1,y2] (fG K fl):=by
 obtain ⟨oc,od,kV,doc,pm,an,cdv,ct,osl,rfl,lk,hcd⟩:=F.ex
 refine vQ lk hcd S (fun vs H Q E h=>?_) fun A outer s H vs Q' E hr h=>⟨_,hb cdv A outer s H E,?_⟩
 ·obtain ⟨e,C,y,rfl,_⟩:=h
  rfl
 ·obtain ⟨e,C,y,rfl,h1,h2,q⟩:=h
  exact ⟨y,rfl,.ref e,rfl,e,C,rfl,h1,h2,q⟩
def uj (K:PySem.W.Frag) (C fI:Addr):Prop :=
 ∃ nm q N bs bm bmB hdct sn sub ab col dd k0 k1 k2 k3 k5,∃ B Bn newId nid initId inN:String,∃ bmN,∃ mN:Str→Option Value,ExcBaseFacts Bn newId inN bmN∧bmB.contains (Value.type Bn)=true∧ExcBaseFacts B nid initId bmB∧bm.contains (Value.type "BaseException")=true∧mN "__init__"=some (.ref fI) ∧
  ∀ h:Heap,K.In h→h.get? C=some (excClassObj nm q C N bs bm hdct sn sub ab col dd k0 k1 k2 k3 k5 newId)∧h.Ns N mN∧OwnTail h bmB bm∧∃ oI,h.get? fI=some oI∧oI.cls=.type "function"
variable {N:List Str} {qual:Str} {scope:Scope} {f:Addr} {cd:Value} {A:Around} {outer:List Env} {s0:Shared} {H0:Hp} {E:XK}
theorem u3 {X:Cx} (hX:X=eO (CX1 P w) P w K mg base N qual scope f cd A outer s0 H0 E) {C fI:Addr} {fdI:FuncData} {ps:List Str} {fl:Str} {k:Nat} {x:Str} {np cpos pos:Pos} {e:Expr} {ta:TA} (hC:uj X.K C fI) (F:gx X.prog X.w X.K X.mg X.base (CX1 X.prog X.w) k fI fdI ps (fG X.K fl)) (hr:bJ (k + 1) X.A) (hb:dP X.K fdI ps []) (st:iY X.K C fl)
  (hg:Gl X x) (hm:X.mg x=some (.ref C)) (ha:PA X [e] ta) (hs:starEach [e] X.env=[(false,eval e X.env)]:=by rfl) (hdb:(x == ("__debug__":Str))=false:=by decide) :
  PS X (.Raise (some (.Call (.Name x np) [e] [] cpos)) none pos) (fun _ σ H=>ta σ H fun vs H1=>(∃ y,vs=[y])∧∀ d,E (.ref C) (some d) H1):=by
 intro pins s σ H D I h
 obtain ⟨nm,q,N',bs,bm,bmB,hdct,sn,sub,ab,col,dd,k0,k1,k2,k3,k5,B,Bn,newId,nid,initId,inN,bmN,mN,f1,f2,f3,f4,f5,hin⟩:=hC
 have hcalm:X.A.handled=none:=I.ok.hd (by rw [hX]; rfl)
 refine qk (nm:=nm) (q:=q) (N:=N') (bs:=bs) (hdct:=hdct) (sn:=sn) (sub:=sub) (ab:=ab) (col:=col) (dd:=dd) (k0:=k0) (k1:=k1) (k2:=k2) (k3:=k3) (k5:=k5) f1 f2 f3 f4 hcalm (by rw [hs]; rfl) f5 (fX I hg hm ⟨rfl,?_⟩ hdb)
 rw [hs]
 refine evalArgs_kwB rfl ?_
 have ha':=ha cpos pins s σ H _ I h
 rw [hs] at ha'
 refine thn ha' fun us s1 ⟨vs,H1,I1,r1,⟨y,ey⟩,q1⟩=>?_
 subst ey
 obtain ⟨u,rfl,ru⟩:=iA r1
 refine wpAny_evalAll_nil ?_
 obtain ⟨c1,c2,c3,c4⟩:=hin s1.heap I1.kIn
 refine ⟨rfl,by show 1≤sizeLine; rw [sizeLine_eq]; decide,c1,c2,c3,c4,fun h' e' md=>?_⟩
 obtain ⟨mk,mn,t,mt,_⟩:=md
 have hn:H1 e'=none:=qy I1.hok mn
 have I2:Inv X pins σ H1 { s1 with heap:=h' }:=I1.kept (t':=s1.toks) mk
 have I3:Inv X pins σ (upd H1 e' (.ext (x0 e' C))) { s1 with heap:=h' }:=I2.adopt I1 mn hn ⟨⟨t,_,mt⟩,⟨_,mt⟩,fun h1 h2 ⟨t',sl',z⟩ kk=>⟨t',sl',kk _ z⟩⟩
 have r2:aU [V.ref e',y] [Value.ref e',u]:=.cons rfl (.cons ru .nil)
 have hsp:fG X.K fl [V.ref e',y] (upd H1 e' (.ext (x0 e' C))) (fun v H2=>v=.non∧H2=upd H1 e' (.ext (x1 e' C))) (fun _ _ _=>False):=⟨e',C,y,rfl,aN,st,rfl,zG⟩
 have hl:([Value.ref e',u]:List Value).length=ps.length:=by rw [← r2.length]; exact F.len _ _ _ _ hsp
 refine wpAny_call (codeAny_mono (F.run _ X.stack _ _ ⟨[Value.ref e',u],[]⟩ [Value.ref e',u] _ _ _ (hr.make C [u] []) (I3.env0.make C [u] []) (hb _ [Value.ref e',u] I3.kIn hl) r2 hsp) fun r s' hq'=>?_)
 cases r with
 | error ev=>obtain ⟨_,_,_,_,_,_,z,_⟩:=hq'; exact z.elim
 | ok fw =>
  cases fw with
  | ret uv =>
   obtain ⟨v,H',I4,rv,ev,eH⟩:=I3.after hq'
   subst ev eH
   obtain ⟨⟨d,t',sl',md⟩,_,_⟩:=I4.hok e' _ aN
   have I5:=I4.drop I1 hn
   refine ⟨rv,some d,(hin s'.heap I4.kIn).1,⟨t',sl',md⟩,?_⟩
   subst hX
   have base1:Un (frs outer) [] H0 H1 s0.heap s1.heap:=I1.base
   exact Cf I5 (tb:=none) ⟨_,_,md,rfl,rfl,rfl,(by show 1 < 6; decide),rfl,fun T z=>by cases z⟩ (qJ base1 rfl mn) (fun T z=>by cases z) hn (q1 d)
  | next=>exact False.elim hq'
  | brk=>exact False.elim hq'
  | cont=>exact False.elim hq'
end
end L2
namespace L3
open PySem PySem.Spec PyProof.Rows L2
section
variable {P:Program} {w:World} {K:PySem.W.Frag} {mg:Str→Option Value} {base:Heap} {N:List Str} {qual:Str} {scope:Scope} {f:Addr} {cd:Value} {A:Around} {outer:List Env} {s0:Shared} {H0:Hp} {E:XK} {x:Str} {np cpos pos:Pos} {e:Expr} {C fI:Addr} {fdI:FuncData} {ps:List Str} {fl:Str} {k:Nat} {R:Addr→Mp→Prop} {ta:T3A}
def zW (C:Addr) (R:Addr→Mp→Prop) (ta:T3A):T3S:=fun _ δ M=>ta δ M fun ds M1=>ds.length=1∧R C M1
theorem uS (hC:uj K C fI) (F:gx P w K mg base (CX1 P w) k fI fdI ps (fG K fl)) (hr:bJ (k + 1) (eO (CX1 P w) P w K mg base N qual scope f cd A outer s0 H0 E).A) (hb:dP K fdI ps []) (st:iY K C fl) (hi:PySem.W.findIn K (.ref C) "__init__"=some (some (.ref fI))) (hg:Gl (eO (CX1 P w) P w K mg base N qual scope f cd A outer s0 H0 E) x) (hm:mg x=some (.ref C)) (hR:RTo K R E) (ha:A3 (eO (CX1 P w) P w K mg base N qual scope f cd A outer s0 H0 E) [e] ta)
  (hs:starEach [e] (eO (CX1 P w) P w K mg base N qual scope f cd A outer s0 H0 E).env=[(false,eval e (eO (CX1 P w) P w K mg base N qual scope f cd A outer s0 H0 E).env)]:=by rfl) (hdb:(x == ("__debug__":Str))=false:=by decide) :
  S3 (eO (CX1 P w) P w K mg base N qual scope f cd A outer s0 H0 E) (.Raise (some (.Call (.Name x np) [e] [] cpos)) none pos) (zW C R ta) :=
 PS.mono (u3 rfl hC F hr hb st hg hm ha hs hdb) fun D' σ H ⟨δ,M,D,hs,hm,ht,_⟩=>⟨δ,M,_,hs,hm,ht,fun vs H1 ds M1 hd hm1 e1 q1=>⟨by
  obtain ⟨d,rfl⟩:∃ d,ds=[d]:=match ds,q1.1 with | [d],_=>⟨d,rfl⟩
  obtain ⟨v,rfl,_⟩:=bN hd
  exact ⟨v,rfl⟩,fun d=>hR C (some d) H1 M1 hm1 (fun _ _=>⟨fI,hi⟩) q1.2⟩⟩
end
section
variable {X:Cx} {b₀:Stmt} {suite:List Stmt} {cn:Str} {e:Expr} {cnp hpos pos epos:Pos} {Cc L:Addr} {outer:List Env} {te:T3X} {th:T3S}
theorem xm {t:St→Hp→VK→(Hp→Prop)→XK→Prop} (he:PEX X e t) (hs:swapsWith e none epos.line X.env=pure false:=by rfl):PSX X (.Expr e epos) (fun D σ H J E=>t σ H (fun _ H'=>D.nx σ H') J E):=by
 intro pins s σ H D J E I h
 exact wpAny_Expr_any (thn (he pins s σ H _ J E I h) fun v s1 ⟨y,H1,I1,r1,q1⟩=>⟨σ,H1,I1,q1⟩) I.quiet hs
def Ch (K:PySem.W.Frag) (Cc:Addr) (te:T3X) (th:T3S):T3S:=fun D δ M=>∃ R,te δ M (fun _ M1=>D.nx δ M1) R∧∀ C M',R C M'→PySem.W.exmOne K (.ref C) (.ref Cc)=some true∧th D δ M'
theorem yf (he:E3X X e te) (hst:X.stack=X.env :: outer) (hL:X.env.frame=some L) (hg:Gl X cn) (hm:X.mg cn=some (.ref Cc))
  (hs:∀ ev E',Ss3 (X.marked ev E') (b₀ :: suite) th) (hdb:(cn == ("__debug__":Str))=false:=by decide) (hsw:swapsWith e none epos.line X.env=pure false:=by rfl) :
  S3 X (.Try [.Expr e epos] [.ExceptHandler (some (.Name cn cnp)) none (b₀ :: suite) hpos] [] [] pos) (Ch X.K Cc te th) :=
 PS.monoL (yJ (th:=loS X.K th) (xm he hsw) hst hL hg hm hs hdb) fun D' σ H hl ⟨δ,M,D,hs,hm,⟨R,ht,hh⟩,k1,k2,k3,k4⟩=>by
  refine ⟨fun H1=>bg X.K H H1,fun cv d H'=>∃ C M',cv=.ref C∧HM X.K H' M'∧Cz X.K C d∧R C M',⟨δ,M,_,R,hs,hm,ht,fun v H1 d M1 hd hm1 e1 q1=>?_,fun _ z=>z,fun C dx H' M' h1 h0 h2=>⟨C,M',rfl,h1,h0,h2⟩⟩,fun C dx H1 H' jH tk ⟨C',M',ec,hm',hdx,r⟩=>?_⟩
  ·exact k1 _ H1 _ M1 (hs.mono e1) hm1 e1 rfl q1
  ·cases ec
   obtain ⟨r1,r2⟩:=hh C M' r
   have e1:bg X.K H H':=jH.trans (L2.TKept.ext tk)
   refine ⟨r1,δ,M',D,hs.mono e1,hm',r2,fun σ2 H2 δ2 M2 y1 y2 y3 y4 y5=>?_,fun v H2 d M2 y1 y2 y3 y5=>?_,fun σ2 H2 δ2 M2 y1 y2 y3 y4 y5=>?_,fun σ2 H2 δ2 M2 y1 y2 y3 y4 y5=>?_⟩
   ·exact k1 _ H2 _ M2 y1 y2 (e1.trans y3) y4 y5
   ·exact k2 _ H2 _ M2 y1 y2 (e1.trans y3) y5
   ·exact k3 _ H2 _ M2 y1 y2 (e1.trans y3) y4 y5
   ·exact k4 _ H2 _ M2 y1 y2 (e1.trans y3) y4 y5
def Db:T3:=fun _ _ _=>False
theorem v0 {e:Expr}:E3 X e Db:=fun _ _ _ _ _ _ ⟨_,_,_,_,_,z,_⟩=>z.elim
end
end L3
namespace L2
open PySem PySem.Spec PyProof.Rows
theorem v8 {K:PySem.W.Frag} {C C2 N fI:Addr} {nm q:Str} {bs sub:List Value} {hdct ab:Bool} {sn:List Str} {col:Option Bool} {dd od1 od2 dd2:Option Addr} {k0 k1 k2 k3 k5:Option Value} {oc1 oc2 c0:Value} {es1 es2:Array DictEntry} {ep1 ep2:Nat} {sl1 sl2 sl3:Array (Option Value)} {cd2:ClassData} {oI:Obj}
  (l1:K.lookup C=some (excClassObj nm q C N bs (.ref C2 :: bmV) hdct sn sub ab col dd k0 k1 k2 k3 k5 "ValueError.__new__")) (n1:K.lookup N=some ⟨oc1,od1,.dict es1 ep1,sl1⟩) (s1:mI es1=true) (i1:nsFind es1 "__init__"=some (.ref fI))
  (l2:K.lookup C2=some ⟨c0,dd2,.cls cd2,sl3⟩) (n2:K.lookup cd2.ns=some ⟨oc2,od2,.dict es2 ep2,sl2⟩) (s2:mI es2=true) (i2:nsFind es2 "__init__"=none) (l3:K.lookup fI=some oI) (hf:PySem.W.isFn K (.ref fI)=true):uj K C fI:=by
 have hc:oI.cls=.type "function":=by
  have hf:=beq_iff_eq.mp hf
  unfold PySem.W.typeIn at hf
  simp only at hf
  rw [l3] at hf
  exact Option.some.inj hf
 refine ⟨nm,q,N,bs,.ref C2 :: bmV,bmV,hdct,sn,sub,ab,col,dd,k0,k1,k2,k3,k5,"ValueError","ValueError","ValueError.__new__","ValueError.__new__","ValueError.__init__","ValueError.__init__",bmV,fun n=>nsFind es1 n,F.excBase_ValueError,by decide +kernel,F.excBase_ValueError,?_,i1,fun h X=>⟨X C _ l1,⟨_,es1,ep1,X N _ n1,rfl,lY s1,fun _=>rfl⟩,.own (X C2 _ l2) ⟨_,es2,ep2,X _ _ n2,rfl,lY s2,fun _=>rfl⟩ i2 .base,oI,X fI _ l3,hc⟩⟩
 rw [List.contains_cons]
 have:bmV.contains (.type "BaseException")=true:=by decide +kernel
 rw [this,Bool.or_true]
theorem uz {K:PySem.W.Frag} {C C2 N:Addr} {nm q f:Str} {bs sub:List Value} {ab:Bool} {sn:List Str} {col:Option Bool} {dd:Option Addr} {k0 k1 k2 k3 k5:Option Value} (l1:K.lookup C=some (excClassObj nm q C N bs (.ref C2 :: bmV) true sn sub ab col dd k0 k1 k2 k3 k5 "ValueError.__new__")) (sa:PySem.W.findIn K (.ref C) "__setattr__"=some (some (.builtin "object.__setattr__"))) (tk:PySem.W.findIn K (.ref C) f=some none):iY K C f:=by
 refine ⟨sa,⟨_,[C,C2],by unfold PySem.W.clsIn; rw [l1],rfl,rfl⟩,?_⟩
 unfold PySem.W.takerIn
 rw [tk]
 rfl
end L2
namespace L3
open PySem PySem.Spec PyProof.Rows L2
section
variable {X:Cx} {pos apos:Pos} {o e:Expr} {es:List Expr} {ta:T3} {t:T3A}
end
end L3
namespace L3
open PySem PySem.Spec PyProof.Rows L2
section
variable {X:Cx}
theorem qr {K:PySem.W.Frag} {H:Hp}:∀ {ns:List Int} {xs:List V} {us:List Value},aM K H (ns.map D.int) xs→aU xs us→IntsAre us ns
 | [],xs,us,h,r=>by
  have:=h.nil_inv
  subst this
  cases r
  exact .nil
 | n :: ns,xs,us,h,r=>by
  obtain ⟨y,ys,rfl,h1,h2⟩:=h.inv
  cases h1.int_inv
  cases r with
  | cons r1 r2 =>
   obtain ⟨t,rfl⟩:=r1
   exact .cons n t (qr h2 r2)
def Ak (ds:List D) (M:Mp) (Q:DK):Prop:=match ds with
 | [.ref a]=>∃ ns:List Int,lstM M a=some (ns.map D.int)∧0 < ns.length∧∀ m∈ns,(∀ n∈ns,n≤m)→Q (.int m) M
 | _=>False
theorem yU (hc:X.calm=true):C3 X (.builtin "max") Ak:=by
 intro pins s σ H vs us Q' I rv h
 obtain ⟨ds,M,Q,hd,hm,q,k⟩:=h
 unfold Ak at q
 split at q
 ·rename_i a
  obtain ⟨v,rfl,hv⟩:=bN hd
  obtain ⟨ns,e0,hn,q⟩:=q
  cases hv.ref_inv
  obtain ⟨u,rfl,ru⟩:=iA rv
  cases ru
  obtain ⟨xs,h1,h2,_⟩:=aR hm e0
  obtain ⟨its,r,pl,hz⟩:=I.list h1
  have ia:=qr h2 r
  obtain ⟨ys,ey⟩:=ia.allInts.items
  have en:numsOf (intItems ys).toList=ns:=by rw [← ey]; exact ia.numsOf
  have hsz:0 < ys.size:=by
   have:=congrArg Array.size ey
   rw [List.size_toArray,ia.length] at this
   have e2:(intItems ys).size=ys.size:=by simp [intItems]
   omega
  rw [nums_intItems] at en
  refine max_intList (I.ok.hd hc) (ey ▸ pl.isList) hsz fun v h' tk hv hk=>?_
  obtain ⟨t,rfl⟩:=intItems_at hv
  obtain ⟨g1,g2⟩:=argBest_gt (numAt ys) (ys.size - 1)
  refine ⟨.int _,H,I.kept (h':=h') (t':=tk) hk,⟨t,rfl⟩,k _ _ _ _ .int hm .refl (q _ ?_ fun n hn=>?_)⟩
  ·rw [← en,numAt_eq]
   exact getD_mem (by rw [List.length_map,Array.length_toList]; omega)
  ·rw [← en] at hn
   obtain ⟨j,hj,rfl⟩:=mem_getD hn
   rw [List.length_map,Array.length_toList] at hj
   rw [← numAt_eq]
   exact g2 j (by omega)
 ·exact q.elim
end
end L3
namespace L3
open PySem PySem.Spec PyProof.Rows L2
structure FA where
 f:Addr
 d:FuncData
 p:List Str
structure DG (K:PySem.W.Frag) (st:Stmt) (py qual:Str) (ps:List Str) (x:FA):Prop where
 pe:x.p=ps
 fn:Fun K py qual st x.f x.d
 b:dP K x.d x.p []
 ty:PySem.W.isFn K (.ref x.f)=true
structure TG (K:PySem.W.Frag) (mg:Str→Option Value) (st:Stmt) (py:Str) (ps:List Str) (x:FA):Prop extends DG K st py py ps x where
 mg:mg py=some (.ref x.f)
structure MG (K:PySem.W.Frag) (C:Addr) (st:Stmt) (py qual:Str) (ps:List Str) (x:FA):Prop extends DG K st py qual ps x where
 at_:PySem.W.findIn K (.ref C) py=some (some (.ref x.f))
structure CG (K:PySem.W.Frag) (mg:Str→Option Value) (nm:Str) (C:Addr):Prop extends Cls K C where
 mg:mg nm=some (.ref C)
theorem DG.kp {K:PySem.W.Frag} {st:Stmt} {py qual:Str} {ps:List Str} {x:FA} (h:DG K st py qual ps x):PySem.W.keepIn K (.ref x.f)=true:=h.fn.kp
theorem MG.meth {K:PySem.W.Frag} {C:Addr} {st:Stmt} {py qual:Str} {ps:List Str} {x:FA} (h:MG K C st py qual ps x):AZ K C py x.f:=⟨h.at_,h.ty,h.toDG.kp⟩
def sR (K:PySem.W.Frag) (C:Addr) (fs:List Str):Prop:=∀ f,fs.contains f=true→fC K C f
theorem je {K:PySem.W.Frag} {C:Addr}:sR K C []:=fun f h=>by simp at h
theorem aQ {K:PySem.W.Frag} {C:Addr} {g:Str} {fs:List Str} (h:PySem.W.findIn K (.ref C) g=some none) (r:sR K C fs):sR K C (g :: fs):=fun f q=>by
 rw [List.contains_cons,Bool.or_eq_true] at q
 rcases q with q | q
 ·rw [eq_of_beq q]; exact h
 ·exact r f q
abbrev Fq (P:Program) (w:World) (K:PySem.W.Frag) (mg:Str→Option Value) (base:Heap) (k:Nat) (x:FA) (sp:Sp3):Prop:=Fn3 P w K mg base k x.f x.d x.p sp
abbrev Fqx (P:Program) (w:World) (K:PySem.W.Frag) (mg:Str→Option Value) (base:Heap) (k:Nat) (x:FA) (sp:qI):Prop:=AG P w K mg base k x.f x.d x.p sp
def CH (N P:List Str) (sc:Scope):Bool:=sc.kind == .function && (!sc.isCoroutine && (!sc.isGenerator && (decide N.Nodup && (decide (N.take P.length=P) && ((P.all fun x=>sc.names.lookup x == some .local || sc.names.lookup x == some .cell) && sc.names.all fun y=>!(y.2 == .free))))))
theorem scS {N P:List Str} {sc:Scope} (h:CH N P sc=true):aq N P sc:=by
 unfold CH at h
 simp only [Bool.and_eq_true,Bool.not_eq_true',beq_iff_eq,decide_eq_true_eq] at h
 obtain ⟨h1,h2,h3,h4,h5,h6,h7⟩:=h
 refine ⟨h1,h2,h3,h4,h5,fun x hx=>?_,fun y hy e=>?_⟩
 ·have:=List.all_eq_true.mp h6 x hx
  simpa using this
 ·have:=List.all_eq_true.mp h7 y hy
  rw [e] at this
  simp at this
section
variable {P:Program} {w:World} {K:PySem.W.Frag} {mg:Str→Option Value} {base:Heap}
theorem aX {x qual:Str} {st:Stmt} {fa:FA} {N ps:List Str} {k:Nat} {sp:Sp3} (F:DG K st x qual ps fa) (S:aq N ps (al st)) (len:∀ ds M Q,sp ds M Q→ds.length=ps.length)
  (hbody:∀ (cdv:Value) (A:Around) (outer:List Env) (s:Shared) (H:Hp) (E:XK),bJ k (A.deeper (envOfC qual (al st) s.heap.objs.size fa.f cdv)) →
   ∃ t,Ss3 (eO CX0 P w K mg base N qual (al st) fa.f cdv A outer s H E).nox (bI st) t∧∀ ds M Q,sp ds M Q→t { nx:=fun _ M'=>∃ M'',Sub M'' M'∧Q .non M'',rt:=fun d M'=>∃ M'',Sub M'' M'∧Q d M'' } (gJ N ds) M):Fq P w K mg base (k + 1) fa sp:=by
 unfold Fq
 rw [F.pe]
 exact B5 F.fn S len hbody
theorem Co {x qual:Str} {st:Stmt} {fa:FA} {N ps:List Str} {k:Nat} {sp:qI} (F:DG K st x qual ps fa) (S:aq N ps (al st)) (len:∀ ds M Q R,sp ds M Q R→ds.length=ps.length)
  (hbody:∀ (cdv:Value) (A:Around) (outer:List Env) (s:Shared) (H:Hp) (E:XK) (R:Addr→Mp→Prop),bJ k (A.deeper (envOfC qual (al st) s.heap.objs.size fa.f cdv))→RTo K R E →
   ∃ t,Ss3 (eO (CX1 P w) P w K mg base N qual (al st) fa.f cdv A outer s H E) (bI st) t∧∀ ds M Q,sp ds M Q R→t { nx:=fun _ M'=>∃ M'',Sub M'' M'∧Q .non M'',rt:=fun d M'=>∃ M'',Sub M'' M'∧Q d M'' } (gJ N ds) M):Fqx P w K mg base (k + 1) fa sp:=by
 unfold Fqx
 rw [F.pe]
 exact Ct F.fn S len hbody
end
section
variable {X:Cx} {k n:Nat} {f C:Addr} {fa:FA} {st:Stmt} {qual:Str} {ps:List Str} {sp:Sp3} {x m:Str} {p pos apos:Pos} {e o:Expr} {es:List Expr} {ta:T3} {t:T3A}
theorem ax (F:Fq X.prog X.w X.K X.mg X.base k fa sp) (hr:bJ n X.A) (T:TG X.K X.mg st x ps fa) (ha:A3 X (e :: es) t) (hn:k≤n:=by first | decide | omega) (hg:Gl X x:=by rfl)
  (hdb:(x == ("__debug__":Str))=false:=by decide) (he:starEach (e :: es) X.env=(false,eval e X.env) :: starEach es X.env:=by rfl) (hpl:(backTo pos (starEach es X.env)).any (·.1)=false:=by rfl) :
  E3 X (.Call (.Name x p) (e :: es) [] pos) (gl sp t):=zS F (hr.mono hn) hg T.mg T.toDG.kp T.b ha hdb he hpl
theorem pD (F:Fq X.prog X.w X.K X.mg X.base k fa sp) (hr:bJ n X.A) (c:CG X.K X.mg x C) (i:Mk X.K C fa.f) (T:DG X.K st m qual ps fa) (ha:A3 X (e :: es) t) (hn:k + 1≤n:=by first | decide | omega) (hg:Gl X x:=by rfl)
  (hdb:(x == ("__debug__":Str))=false:=by decide) (he:starEach (e :: es) X.env=(false,eval e X.env) :: starEach es X.env:=by rfl) (hpl:(backTo pos (starEach es X.env)).any (·.1)=false:=by rfl) :
  E3 X (.Call (.Name x p) (e :: es) [] pos) (zZ C sp t):=yZ c.toCls i F (hr.mono hn) hg c.mg T.b ha hdb he hpl
theorem aJ {pl:Sem Bool} (he:E3 X o ta) (c:Cls X.K C) (T:MG X.K C st m qual ps fa) (F:Fq X.prog X.w X.K X.mg X.base k fa sp) (hr:bJ n X.A) (ha:A3 X (e :: es) t) (hn:k≤n:=by first | decide | omega)
  (hst:starEach (e :: es) X.env=(false,eval e X.env) :: starEach es X.env:=by rfl) (hpl:(backTo pos (starEach es X.env)).any (·.1)=false:=by rfl)
  (ht:eval (.Call (.Attribute o m apos) (e :: es) [] pos) X.env=(do
   let ov ← eval o X.env
   standAt apos.atName
   let (f,first) ← holding [ov] (getMethod ov m pl)
   callWith pos f first (backTo pos (starEach (e :: es) X.env)) (backToKw pos (keywordEach [] X.env))):=by rfl) :
  E3 X (.Call (.Attribute o m apos) (e :: es) [] pos) (qp m (fun D s=>D=C∧s=sp) ta t) :=
 yK (R:=fun D s=>D=C∧s=sp) he (fun D s ⟨e1,e2⟩=>by subst e1 e2; exact ⟨c,_,_,_,T.meth,F,T.b⟩) (hr.mono hn) ha hst hpl ht
theorem lb {pl:Sem Bool} (he:E3 X o ta) (c:Cls X.K C) (T:MG X.K C st m qual ps fa) (F:Fq X.prog X.w X.K X.mg X.base k fa sp) (hr:bJ n X.A) (hn:k≤n:=by first | decide | omega)
  (ht:eval (.Call (.Attribute o m apos) [] [] pos) X.env=(do
   let ov ← eval o X.env
   standAt apos.atName
   let (f,first) ← holding [ov] (getMethod ov m pl)
   callWith pos f first (backTo pos (starEach [] X.env)) (backToKw pos (keywordEach [] X.env))):=by rfl) :
  E3 X (.Call (.Attribute o m apos) [] [] pos) (qp m (fun D s=>D=C∧s=sp) ta cO) :=
 xz (R:=fun D s=>D=C∧s=sp) he (fun D s ⟨e1,e2⟩=>by subst e1 e2; exact ⟨c,_,_,_,T.meth,F,T.b⟩) (hr.mono hn) ht
theorem AT {pl:Sem Bool} (cm:yx X.K C m fa.f) (F:Fq X.prog X.w X.K X.mg X.base k fa sp) (hr:bJ n X.A) (c:CG X.K X.mg x C) (T:DG X.K st m qual ps fa) (ha:A3 X (e :: es) t) (hn:k≤n:=by first | decide | omega) (hg:Gl X x:=by rfl)
  (hdb:(x == ("__debug__":Str))=false:=by decide) (hst:starEach (e :: es) X.env=(false,eval e X.env) :: starEach es X.env:=by rfl) (hpl:(backTo pos (starEach es X.env)).any (·.1)=false:=by rfl)
  (ht:eval (.Call (.Attribute (.Name x p) m apos) (e :: es) [] pos) X.env=(do
   let ov ← eval (.Name x p) X.env
   standAt apos.atName
   let (f,first) ← holding [ov] (getMethod ov m pl)
   callWith pos f first (backTo pos (starEach (e :: es) X.env)) (backToKw pos (keywordEach [] X.env))):=by rfl) :
  E3 X (.Call (.Attribute (.Name x p) m apos) (e :: es) [] pos) (gl sp t):=zj cm F (hr.mono hn) hg c.mg T.kp T.b ha hdb hst hpl ht
end
section
variable {K:PySem.W.Frag} {h:Heap} {mg:Str→Option Value} {py qual:Str} {st:Stmt} {ps:List Str} {f C:Addr} {od an:Option Addr} {sl:Array (Option Value)} {kv dc pm cd ct:Value}
theorem tz {fd:FuncData} {oc:Value} (l:K.lookup f=some ⟨oc,od,.func fd,sl⟩):PySem.W.keepIn K (.ref f)=true:=by
 unfold PySem.W.keepIn
 simp only
 rw [l]
theorem yr {fd:FuncData} (l:K.lookup f=some ⟨.type "function",od,.func fd,sl⟩):PySem.W.isFn K (.ref f)=true:=by
 unfold PySem.W.isFn PySem.W.typeIn
 simp only
 rw [l]
 rfl
abbrev bindsB (py qual:Str) (st:Stmt) (ps:List Str):Prop:=∀ (kV doc pm:Value) (an:Option Addr) (cdv ct:Value) (us:List Value),us.length=ps.length→bindArgs (PySem.W.fnOf py qual (dh st) (bI st) (al st) .none kV doc pm an cdv ct) ⟨us,[]⟩=pure (ps.zip us)
theorem Ap (l:K.lookup f=some ⟨.type "function",od,.func (PySem.W.fnOf py qual (dh st) (bI st) (al st) .none kv dc pm an cd ct),sl⟩) (k:PySem.W.codeIn K cd qual=true) (hb:bindsB py qual st ps) :
  DG K st py qual ps ⟨f,PySem.W.fnOf py qual (dh st) (bI st) (al st) .none kv dc pm an cd ct,ps⟩:=⟨rfl,xR l k (tz l),(xR l k (tz l)).binds hb,yr l⟩
theorem bc (X:K.In h) (G:h.Ns mainGlobals mg) (a:PySem.W.nsIn K mainGlobals py=some (some (.ref f))) (l:K.lookup f=some ⟨.type "function",od,.func (PySem.W.fnOf py py (dh st) (bI st) (al st) .none kv dc pm an cd ct),sl⟩) (k:PySem.W.codeIn K cd py=true) (hb:bindsB py py st ps) :
  TG K mg st py ps ⟨f,PySem.W.fnOf py py (dh st) (bI st) (al st) .none kv dc pm an cd ct,ps⟩:=⟨Ap l k hb,PySem.W.mg_of X G a⟩
theorem bj (a:PySem.W.findIn K (.ref C) py=some (some (.ref f))) (l:K.lookup f=some ⟨.type "function",od,.func (PySem.W.fnOf py qual (dh st) (bI st) (al st) .none kv dc pm an cd ct),sl⟩) (k:PySem.W.codeIn K cd qual=true) (hb:bindsB py qual st ps) :
  MG K C st py qual ps ⟨f,PySem.W.fnOf py qual (dh st) (bI st) (al st) .none kv dc pm an cd ct,ps⟩:=⟨Ap l k hb,a⟩
theorem qF (X:K.In h) (G:h.Ns mainGlobals mg) (a:PySem.W.nsIn K mainGlobals py=some (some (.ref C))) (h1:PySem.W.plainGet K C Str.empty=true) (h2:PySem.W.hasDictIn K C=true) (h3:PySem.W.plainOver K C=true) (h4:PySem.W.findIn K (.ref C) "__setattr__"=some (some (.builtin "object.__setattr__"))):CG K mg py C:=⟨⟨h1,h2,h3,h4⟩,PySem.W.mg_of X G a⟩
theorem wO {P:Program} {w:World} {base:Heap} {x qual y1 y2 fl:Str} {st:Stmt} {fa:FA} (F:DG K st x qual [y1,y2] fa) (S:aq [y1,y2] [y1,y2] (al st))
  (hb:∀ (cdv:Value) (A:Around) (outer:List Env) (s:Shared) (H:Hp) (E:XK),PSs (eO (CX1 P w) P w K mg base [y1,y2] qual (al st) fa.f cdv A outer s H E) (bI st) (vM K (rG 0) (rG 1) fl)):gx P w K mg base (CX1 P w) 1 fa.f fa.d fa.p (fG K fl):=by
 rw [F.pe]
 exact wC F.fn S hb
end
end L3
namespace Z
open PySem PySem.Spec PyProof.Rows L2 L3
def top (i:Nat):Stmt:=PySem.Challenge.pw_callboard_k15_breaks.main.body.getD i (.Pass ⟨0,0,0,0⟩)
abbrev nI:Stmt:=top 5
abbrev nX:Stmt:=top 16
abbrev gj:Stmt:=top 18
abbrev lW:Stmt:=top 20
abbrev jF:Stmt:=top 21
abbrev ij:Stmt:=top 22
abbrev gC:Stmt:=top 24
abbrev nS:Stmt:=top 25
abbrev nP:Stmt:=top 27
abbrev il:Stmt:=top 28
abbrev eM:Stmt:=top 29
abbrev tu:Stmt:=top 31
abbrev eX:Stmt:=top 33
abbrev gc:Stmt:=top 34
abbrev ub:Stmt:=top 35
abbrev eh:Stmt:=top 36
abbrev nO:Stmt:=top 38
abbrev i':Stmt:=top 39
abbrev gh:Stmt:=top 40
abbrev iq:Stmt:=top 42
abbrev uf:Stmt:=top 43
abbrev kq:Stmt:=top 44
abbrev ot:Stmt:=top 45
abbrev mF:Stmt:=top 49
abbrev Aa:Stmt:=top 50
abbrev z9:Stmt:=top 51
abbrev wB:Stmt:=top 66
abbrev nH:Stmt:=top 67
abbrev jC:Stmt:=top 68
abbrev j7:Stmt:=top 69
abbrev gU:Stmt:=top 70
abbrev gD:Stmt:=top 71
abbrev gR:Stmt:=top 74
abbrev jp:Stmt:=top 75
abbrev qV:Stmt:=top 78
abbrev mG:Stmt:=top 79
abbrev ml:Stmt:=top 80
abbrev mr:Stmt:=top 81
abbrev ju:Stmt:=top 82
abbrev jB:Stmt:=top 83
abbrev mj:Stmt:=top 84
abbrev gI:Stmt:=top 85
abbrev kx:Stmt:=top 86
abbrev p0:Stmt:=top 87
abbrev iz:Stmt:=top 88
abbrev gq:Stmt:=top 89
abbrev mC:Stmt:=top 90
abbrev j5:Stmt:=top 91
abbrev Ai:Stmt:=top 92
abbrev im:Stmt:=aW (top 3) 0
abbrev jj:Stmt:=aW (top 23) 0
abbrev kt:Stmt:=aW (top 76) 0
abbrev gg:Stmt:=aW (top 23) 3
abbrev iw:Stmt:=aW (top 15) 0
abbrev ii:Stmt:=aW (top 15) 3
abbrev jZ:Stmt:=aW (top 6) 0
abbrev eI:Stmt:=aW (top 76) 2
abbrev fh:Stmt:=aW (top 15) 2
abbrev iy:Stmt:=aW (top 23) 12
abbrev fH:Stmt:=aW (top 23) 7
abbrev kc:Stmt:=aW (top 76) 4
abbrev jE:Stmt:=aW (top 76) 1
abbrev gp:Stmt:=aW (top 23) 2
abbrev km:Stmt:=aW (top 19) 0
abbrev eP:Stmt:=aW (top 19) 2
abbrev eU:Stmt:=aW (top 19) 5
abbrev eA:Stmt:=aW (top 19) 4
abbrev gf:Stmt:=aW (top 23) 10
abbrev iu:Stmt:=aW (top 23) 11
abbrev eW:Stmt:=aW (top 19) 8
abbrev fK:Stmt:=aW (top 76) 5
abbrev ir:Stmt:=aW (top 23) 4
abbrev ge:Stmt:=aW (top 23) 5
abbrev jw:Stmt:=aW (top 23) 1
abbrev jl:Stmt:=aW (top 76) 3
abbrev dz:Stmt:=aW (top 19) 7
abbrev jz:Stmt:=aW (top 19) 6
abbrev jk:Stmt:=aW (top 19) 3
abbrev mv:Stmt:=aW (top 19) 1
abbrev ik:Stmt:=aW (top 76) 6
theorem sv:aq ["board","caller","target"] ["board","caller","target"] (al nI):=scS (by decide +kernel)
theorem lB:aq ["told","word"] ["told"] (al nX):=scS (by decide +kernel)
theorem jR:aq ["answers"] ["answers"] (al gj):=scS (by decide +kernel)
theorem qP:aq ["call","word"] ["call","word"] (al lW):=scS (by decide +kernel)
theorem ni:aq ["call","phone"] ["call","phone"] (al jF):=scS (by decide +kernel)
theorem gK:aq ["call","event","word"] ["call","event"] (al ij):=scS (by decide +kernel)
theorem fY:aq ["call","lists"] ["call"] (al gC):=scS (by decide +kernel)
theorem mz:aq ["board","calls"] ["board"] (al nS):=scS (by decide +kernel)
theorem lF:aq ["board","caller","target","wishes"] ["board","caller","target"] (al nP):=scS (by decide +kernel)
theorem cy:aq ["board","caller","target","free","members","place","in_turn"] ["board","caller","target"] (al il):=scS (by decide +kernel)
theorem dY:aq ["board","caller","target","phones"] ["board","caller","target"] (al eM):=scS (by decide +kernel)
theorem gP:aq ["board","caller","target","way","come_to","steps","fits","wanted"] ["board","caller","target","way"] (al tu):=scS (by decide +kernel)
theorem iV:aq ["board","phone"] ["board","phone"] (al eX):=scS (by decide +kernel)
theorem fL:aq ["board","phone","target","word"] ["board","phone","target"] (al gc):=scS (by decide +kernel)
theorem wo:aq ["word","phone","calls"] ["word","phone","calls"] (al ub):=scS (by decide +kernel)
theorem cH:aq ["board","word","phone","numbers","calls","due"] ["board","word","phone","numbers"] (al eh):=scS (by decide +kernel)
theorem lv:aq ["board","deed","word"] ["board","deed"] (al nO):=scS (by decide +kernel)
theorem cK:aq ["board","number","steps","last","target","fits"] ["board","number","steps"] (al i'):=scS (by decide +kernel)
theorem dA:aq ["board","number","target","phones","members","place"] ["board","number","target","phones"] (al gh):=scS (by decide +kernel)
theorem gB:aq ["board","number","end","word"] ["board","number","end"] (al iq):=scS (by decide +kernel)
theorem fE:aq ["board","number","call","told","end","steps","last"] ["board","number"] (al uf):=scS (by decide +kernel)
theorem jr:aq ["board","phone","target","number"] ["board","phone","target"] (al kq):=scS (by decide +kernel)
theorem lz:aq ["board","phone","number","call"] ["board","phone","number"] (al ot):=scS (by decide +kernel)
theorem cw:aq ["board","deed","word","phone","number","call","kept","others"] ["board","deed"] (al mF):=scS (by decide +kernel)
theorem xh:aq ["board","deed","word"] ["board","deed"] (al Aa):=scS (by decide +kernel)
theorem sG:aq ["board","deed","word","begun"] ["board","deed"] (al z9):=scS (by decide +kernel)
theorem xW:aq ["holds","words"] ["holds","words"] (al wB):=scS (by decide +kernel)
theorem sQ:aq ["text"] ["text"] (al nH):=scS (by decide +kernel)
theorem mX:aq ["things"] ["things"] (al jC):=scS (by decide +kernel)
theorem pp:aq ["chosen","known","most"] ["chosen","known","most"] (al j7):=scS (by decide +kernel)
theorem cS:aq ["phones","name","lines","rank"] ["phones"] (al gU):=scS (by decide +kernel)
theorem cQ:aq ["groups","phone_names","name","manner","members"] ["groups","phone_names"] (al gD):=scS (by decide +kernel)
theorem dS:aq ["wishes","phone_names","names","on","wish"] ["wishes","phone_names","names"] (al gR):=scS (by decide +kernel)
theorem fm:aq ["phones","groups","wishes","phone_names","names"] ["phones","groups","wishes"] (al jp):=scS (by decide +kernel)
theorem uB:aq ["_law_script","_law_k"] ["_law_script","_law_k"] (al qV):=scS (by decide +kernel)
theorem qw:aq ["_law_cell","_law_factor","_law_many"] ["_law_cell","_law_factor","_law_many"] (al mG):=scS (by decide +kernel)
theorem cW:aq ["_law_seed","_law_which","_law_letters","_law_size","_law_place","_law_rest","_law_sign"] ["_law_seed","_law_which"] (al ml):=scS (by decide +kernel)
theorem gA:aq ["_law_row","_law_cell","_law_most","_law_first","_law_size"] ["_law_row","_law_cell","_law_most"] (al mr):=scS (by decide +kernel)
theorem dL:aq ["_law_seed","_law_most","_law_phones_here","_law_k","_law_lines"] ["_law_seed","_law_most"] (al ju):=scS (by decide +kernel)
theorem dG:aq ["_law_seed","_law_own","_law_groups_here","_law_g","_law_manner"] ["_law_seed","_law_own"] (al jB):=scS (by decide +kernel)
theorem gH:aq ["_law_board","_law_deed","_law_fine"] ["_law_board","_law_deed"] (al mj):=scS (by decide +kernel)
theorem gb:aq ["_law_board","_law_a","_law_b","_law_k"] ["_law_board","_law_a","_law_b"] (al gI):=scS (by decide +kernel)
theorem d6:aq ["_law_board","_law_cell","_law_own","_law_a","_law_k","_law_m"] ["_law_board","_law_cell","_law_own"] (al kx):=scS (by decide +kernel)
theorem uI:aq ["_law_call","_law_phone"] ["_law_call","_law_phone"] (al p0):=scS (by decide +kernel)
theorem bq:aq ["_law_board","_law_made","_law_caller","_law_target","_law_members","_law_name","_law_manner","_law_some_here","_law_lines","_law_rank"] ["_law_board","_law_made","_law_caller","_law_target"] (al iz):=scS (by decide +kernel)
theorem bF:aq ["_law_board","_law_made","_law_a","_law_caller","_law_target","_law_ranks","_law_name","_law_lines","_law_rank","_law_call"] ["_law_board","_law_made","_law_a","_law_caller","_law_target"] (al gq):=scS (by decide +kernel)
theorem qA:aq ["_law_found","_law_due"] ["_law_found","_law_due"] (al mC):=scS (by decide +kernel)
theorem cF:aq ["_law_board","_law_made","_law_own","_law_names","_law_a","_law_wish","_law_caller","_law_target","_law_due"] ["_law_board","_law_made","_law_own","_law_names"] (al j5):=scS (by decide +kernel)
theorem fA:aq ["_law_script","_law_seed","_law_phones_here","_law_own","_law_made","_law_names","_law_board","_law_k","_law_cell","_law_before"] ["_law_script"] (al Ai):=scS (by decide +kernel)
theorem lH:aq ["self","word"] ["self","word"] (al im):=scS (by decide +kernel)
theorem mQ:aq ["self","plan","hour"] ["self","plan","hour"] (al jj):=scS (by decide +kernel)
theorem pz:aq ["self","phones","groups","wishes"] ["self","phones","groups","wishes"] (al kt):=scS (by decide +kernel)
theorem jP:aq ["self","phone"] ["self","phone"] (al gg):=scS (by decide +kernel)
theorem lA:aq ["self","told"] ["self","told"] (al iw):=scS (by decide +kernel)
theorem eK:aq ["self","board","caller","target","talk","members"] ["self","board","caller","target"] (al ii):=scS (by decide +kernel)
theorem pS:aq ["self","told"] ["self","told"] (al jZ):=scS (by decide +kernel)
theorem hZ:aq ["self"] ["self"] (al eI):=scS (by decide +kernel)
theorem eL:aq ["self","plan","members","rank"] ["self","plan","members"] (al fh):=scS (by decide +kernel)
theorem gN:aq ["self","event","word"] ["self","event"] (al iy):=scS (by decide +kernel)
theorem jI:aq ["self","caller","target"] ["self","caller","target"] (al fH):=scS (by decide +kernel)
theorem o0:aq ["self","phone"] ["self","phone"] (al kc):=scS (by decide +kernel)
theorem m8:aq ["self"] ["self"] (al jE):=scS (by decide +kernel)
theorem jK:aq ["self","phone"] ["self","phone"] (al gp):=scS (by decide +kernel)
theorem pH:aq ["self","caller"] ["self","caller"] (al km):=scS (by decide +kernel)
theorem iT:aq ["self","phone"] ["self","phone"] (al eP):=scS (by decide +kernel)
theorem iI:aq ["self","phone"] ["self","phone"] (al eU):=scS (by decide +kernel)
theorem ic:aq ["self","phone"] ["self","phone"] (al eA):=scS (by decide +kernel)
theorem jO:aq ["self","leg"] ["self","leg"] (al gf):=scS (by decide +kernel)
theorem gQ:aq ["self","merged","kept","members","call"] ["self","merged","kept","members"] (al iu):=scS (by decide +kernel)
theorem iW:aq ["self","phone"] ["self","phone"] (al eW):=scS (by decide +kernel)
theorem jm:aq ["self","name"] ["self","name"] (al fK):=scS (by decide +kernel)
theorem lj:aq ["self","phone"] ["self","phone"] (al ir):=scS (by decide +kernel)
theorem jN:aq ["self","phone"] ["self","phone"] (al ge):=scS (by decide +kernel)
theorem no:aq ["self","phone"] ["self","phone"] (al jw):=scS (by decide +kernel)
theorem nz:aq ["self","phone"] ["self","phone"] (al jl):=scS (by decide +kernel)
theorem fQ:aq ["self","phone"] ["self","phone"] (al dz):=scS (by decide +kernel)
theorem nv:aq ["self","phone"] ["self","phone"] (al jz):=scS (by decide +kernel)
theorem mS:aq ["self","phone"] ["self","phone"] (al jk):=scS (by decide +kernel)
theorem qE:aq ["self","phone"] ["self","phone"] (al mv):=scS (by decide +kernel)
theorem mw:aq ["self","name"] ["self","name"] (al ik):=scS (by decide +kernel)
structure Ad where
 (is_busy wish_of place_of_true end_call drop_phone change_call call_picture picture fitting rung_phones end_without_wish route word_for_idling word_for_call suits word_for_numbers refusal take_steps start_ringing come_to_end go_on make_call hang_up event_of act do_ need is_name all_unlike is_choice check_phones check_groups check_wishes check_plan law_at law_draw law_word law_some law_phones law_groups law_done law_answered law_talks law_in law_is_busy law_may_break law_flag law_right law NoDeed_init Board_init Plan_init Board_talk_of Breaks_init Breaks_fits Wish_init Plan_phone_names Breaks_outranks Board_apply Board_ringable Plan_rank Plan_names Board_is_free Call_init Call_talks_with Call_waits_with Call_is_tried_by Board_add_leg Board_merge Call_other_than Plan_phones_of Board_bound Board_calling Board_used Plan_lines Call_can_be_left_by Call_pairs Call_binds Call_has Plan_manner:FA)
 (c_Wish c_Breaks c_Call c_Board c_Plan c_CallError c_NoDeed:Addr)
structure Gl (K:PySem.W.Frag) (mg:Str→Option Value) (a:Ad):Prop where
 c_Wish:CG K mg "Wish" a.c_Wish
 c_Breaks:CG K mg "Breaks" a.c_Breaks
 c_Call:CG K mg "Call" a.c_Call
 c_Board:CG K mg "Board" a.c_Board
 c_Plan:CG K mg "Plan" a.c_Plan
 mg_CallError:mg "CallError"=some (.ref a.c_CallError)
 mg_NoDeed:mg "NoDeed"=some (.ref a.c_NoDeed)
 is_busy:TG K mg nI "is_busy" ["board","caller","target"] a.is_busy
 wish_of:TG K mg nX "wish_of" ["told"] a.wish_of
 place_of_true:TG K mg gj "place_of_true" ["answers"] a.place_of_true
 end_call:TG K mg lW "end_call" ["call","word"] a.end_call
 drop_phone:TG K mg jF "drop_phone" ["call","phone"] a.drop_phone
 change_call:TG K mg ij "change_call" ["call","event"] a.change_call
 call_picture:TG K mg gC "call_picture" ["call"] a.call_picture
 picture:TG K mg nS "picture" ["board"] a.picture
 fitting:TG K mg nP "fitting" ["board","caller","target"] a.fitting
 rung_phones:TG K mg il "rung_phones" ["board","caller","target"] a.rung_phones
 end_without_wish:TG K mg eM "end_without_wish" ["board","caller","target"] a.end_without_wish
 route:TG K mg tu "route" ["board","caller","target","way"] a.route
 word_for_idling:TG K mg eX "word_for_idling" ["board","phone"] a.word_for_idling
 word_for_call:TG K mg gc "word_for_call" ["board","phone","target"] a.word_for_call
 suits:TG K mg ub "suits" ["word","phone","calls"] a.suits
 word_for_numbers:TG K mg eh "word_for_numbers" ["board","word","phone","numbers"] a.word_for_numbers
 refusal:TG K mg nO "refusal" ["board","deed"] a.refusal
 take_steps:TG K mg i' "take_steps" ["board","number","steps"] a.take_steps
 start_ringing:TG K mg gh "start_ringing" ["board","number","target","phones"] a.start_ringing
 come_to_end:TG K mg iq "come_to_end" ["board","number","end"] a.come_to_end
 go_on:TG K mg uf "go_on" ["board","number"] a.go_on
 make_call:TG K mg kq "make_call" ["board","phone","target"] a.make_call
 hang_up:TG K mg ot "hang_up" ["board","phone","number"] a.hang_up
 event_of:TG K mg mF "event_of" ["board","deed"] a.event_of
 act:TG K mg Aa "act" ["board","deed"] a.act
 do_:TG K mg z9 "do" ["board","deed"] a.do_
 need:TG K mg wB "need" ["holds","words"] a.need
 is_name:TG K mg nH "is_name" ["text"] a.is_name
 all_unlike:TG K mg jC "all_unlike" ["things"] a.all_unlike
 is_choice:TG K mg j7 "is_choice" ["chosen","known","most"] a.is_choice
 check_phones:TG K mg gU "check_phones" ["phones"] a.check_phones
 check_groups:TG K mg gD "check_groups" ["groups","phone_names"] a.check_groups
 check_wishes:TG K mg gR "check_wishes" ["wishes","phone_names","names"] a.check_wishes
 check_plan:TG K mg jp "check_plan" ["phones","groups","wishes"] a.check_plan
 law_at:TG K mg qV "_law_at" ["_law_script","_law_k"] a.law_at
 law_draw:TG K mg mG "_law_draw" ["_law_cell","_law_factor","_law_many"] a.law_draw
 law_word:TG K mg ml "_law_word" ["_law_seed","_law_which"] a.law_word
 law_some:TG K mg mr "_law_some" ["_law_row","_law_cell","_law_most"] a.law_some
 law_phones:TG K mg ju "_law_phones" ["_law_seed","_law_most"] a.law_phones
 law_groups:TG K mg jB "_law_groups" ["_law_seed","_law_own"] a.law_groups
 law_done:TG K mg mj "_law_done" ["_law_board","_law_deed"] a.law_done
 law_answered:TG K mg gI "_law_answered" ["_law_board","_law_a","_law_b"] a.law_answered
 law_talks:TG K mg kx "_law_talks" ["_law_board","_law_cell","_law_own"] a.law_talks
 law_in:TG K mg p0 "_law_in" ["_law_call","_law_phone"] a.law_in
 law_is_busy:TG K mg iz "_law_is_busy" ["_law_board","_law_made","_law_caller","_law_target"] a.law_is_busy
 law_may_break:TG K mg gq "_law_may_break" ["_law_board","_law_made","_law_a","_law_caller","_law_target"] a.law_may_break
 law_flag:TG K mg mC "_law_flag" ["_law_found","_law_due"] a.law_flag
 law_right:TG K mg j5 "_law_right" ["_law_board","_law_made","_law_own","_law_names"] a.law_right
 law:TG K mg Ai "law" ["_law_script"] a.law
 NoDeed_init:MG K a.c_NoDeed im "__init__" "NoDeed.__init__" ["self","word"] a.NoDeed_init
 Board_init:MG K a.c_Board jj "__init__" "Board.__init__" ["self","plan","hour"] a.Board_init
 Plan_init:MG K a.c_Plan kt "__init__" "Plan.__init__" ["self","phones","groups","wishes"] a.Plan_init
 Board_talk_of:MG K a.c_Board gg "talk_of" "Board.talk_of" ["self","phone"] a.Board_talk_of
 Breaks_init:MG K a.c_Breaks iw "__init__" "Breaks.__init__" ["self","told"] a.Breaks_init
 Breaks_fits:MG K a.c_Breaks ii "fits" "Breaks.fits" ["self","board","caller","target"] a.Breaks_fits
 Wish_init:MG K a.c_Wish jZ "__init__" "Wish.__init__" ["self","told"] a.Wish_init
 Plan_phone_names:MG K a.c_Plan eI "phone_names" "Plan.phone_names" ["self"] a.Plan_phone_names
 Breaks_outranks:MG K a.c_Breaks fh "outranks" "Breaks.outranks" ["self","plan","members"] a.Breaks_outranks
 Board_apply:MG K a.c_Board iy "apply" "Board.apply" ["self","event"] a.Board_apply
 Board_ringable:MG K a.c_Board fH "ringable" "Board.ringable" ["self","caller","target"] a.Board_ringable
 Plan_rank:MG K a.c_Plan kc "rank" "Plan.rank" ["self","phone"] a.Plan_rank
 Plan_names:MG K a.c_Plan jE "names" "Plan.names" ["self"] a.Plan_names
 Board_is_free:MG K a.c_Board gp "is_free" "Board.is_free" ["self","phone"] a.Board_is_free
 Call_init:MG K a.c_Call km "__init__" "Call.__init__" ["self","caller"] a.Call_init
 Call_talks_with:MG K a.c_Call eP "talks_with" "Call.talks_with" ["self","phone"] a.Call_talks_with
 Call_waits_with:MG K a.c_Call eU "waits_with" "Call.waits_with" ["self","phone"] a.Call_waits_with
 Call_is_tried_by:MG K a.c_Call eA "is_tried_by" "Call.is_tried_by" ["self","phone"] a.Call_is_tried_by
 Board_add_leg:MG K a.c_Board gf "add_leg" "Board.add_leg" ["self","leg"] a.Board_add_leg
 Board_merge:MG K a.c_Board iu "merge" "Board.merge" ["self","merged","kept","members"] a.Board_merge
 Call_other_than:MG K a.c_Call eW "other_than" "Call.other_than" ["self","phone"] a.Call_other_than
 Plan_phones_of:MG K a.c_Plan fK "phones_of" "Plan.phones_of" ["self","name"] a.Plan_phones_of
 Board_bound:MG K a.c_Board ir "bound" "Board.bound" ["self","phone"] a.Board_bound
 Board_calling:MG K a.c_Board ge "calling" "Board.calling" ["self","phone"] a.Board_calling
 Board_used:MG K a.c_Board jw "used" "Board.used" ["self","phone"] a.Board_used
 Plan_lines:MG K a.c_Plan jl "lines" "Plan.lines" ["self","phone"] a.Plan_lines
 Call_can_be_left_by:MG K a.c_Call dz "can_be_left_by" "Call.can_be_left_by" ["self","phone"] a.Call_can_be_left_by
 Call_pairs:MG K a.c_Call jz "pairs" "Call.pairs" ["self","phone"] a.Call_pairs
 Call_binds:MG K a.c_Call jk "binds" "Call.binds" ["self","phone"] a.Call_binds
 Call_has:MG K a.c_Call mv "has" "Call.has" ["self","phone"] a.Call_has
 Plan_manner:MG K a.c_Plan ik "manner" "Plan.manner" ["self","name"] a.Plan_manner
 xn_NoDeed:uj K a.c_NoDeed a.NoDeed_init.f
 xs_NoDeed:iY K a.c_NoDeed "word"
 ex_NoDeed_NoDeed:PySem.W.exmOne K (.ref a.c_NoDeed) (.ref a.c_NoDeed)=some true
 i_Board:Mk K a.c_Board a.Board_init.f
 i_Plan:Mk K a.c_Plan a.Plan_init.f
 i_Breaks:Mk K a.c_Breaks a.Breaks_init.f
 i_Call:Mk K a.c_Call a.Call_init.f
 cm_Wish_init:yx K a.c_Wish "__init__" a.Wish_init.f
 n_Board:sR K a.c_Board ["plan","hour","turn","calls","legs","nexts","on","log"]
 n_Plan:sR K a.c_Plan ["phones","groups","wishes","on","phone_rows","group_rows"]
 n_Breaks:sR K a.c_Breaks ["form","phone"]
 n_Call:sR K a.c_Call ["state","caller","way","at","members","holder","since","word"]
 ki_bool_bool:PySem.W.kitOne K (.type "bool") (.type "bool")=some true
 no_enumerate:mg "enumerate"=none
 no_len:mg "len"=none
 no_list:mg "list"=none
 no_range:mg "range"=none
 no_dict:mg "dict"=none
 no_tuple:mg "tuple"=none
 no_sorted:mg "sorted"=none
 no_min:mg "min"=none
 no_max:mg "max"=none
 no_isinstance:mg "isinstance"=none
 no_bool:mg "bool"=none
 no_set:mg "set"=none
 no_all:mg "all"=none
 k_MOST_PHONES:KD K mg "MOST_PHONES" (.int 8)
 k_MOST_LINES:KD K mg "MOST_LINES" (.int 3)
 k_MOST_RANK:KD K mg "MOST_RANK" (.int 9)
 k_MOST_GROUPS:KD K mg "MOST_GROUPS" (.int 3)
 k_MANNERS:KD K mg "MANNERS" (.tup ((["all","turns"]:List Str).map D.str))
 k_MOST_MEMBERS:KD K mg "MOST_MEMBERS" (.int 4)
 k_MOST_WISHES:KD K mg "MOST_WISHES" (.int 16)
 k_MOST_SIGNS:KD K mg "MOST_SIGNS" (.int 6)
 k_LETTERS:KD K mg "LETTERS" (.str "abcdefghijklmnopqrstuvwxyz")
end Z
namespace Z
open PySem PySem.Spec PyProof.Rows L2 L3
def cD (c f m:Int):Int:=(c % 2147483647 + 5) * f % 2147483629 / 89 % m
theorem cg {c f m:Int} (h:0 < m):0≤cD c f m:=Int.emod_nonneg _ (by omega)
theorem bS {c f m:Int} (h:0 < m):cD c f m < m:=Int.emod_lt_of_pos _ h
def yY:Sp3:=fun ds M Q=>∃ c f m,ds=[.int c,.int f,.int m]∧0 < m∧Q (.int (cD c f m)) M
def df:Str:="abcdefghijklmnopqrstuvwxyz"
def cT (i:Int):Str:=⟨#[97 + i.toNat]⟩
def size (s:Int):Int:=1 + s % 6
def du (s:Int):Int:=s / 6 % size s
def gS (s v:Int):Str:=iK (cT (s / 36 % 26)) (du s) ++ cT ((s / 936 + v) % 26) ++ iK (cT (s / 36 % 26)) (size s - 1 - du s)
def zo:Sp3:=fun ds M Q=>∃ s v,ds=[.int s,.int v]∧Q (.str (gS s v)) M
def cell (ns:List Int) (i:Int):Int:=if 0≤i∧i < ns.length then ns.getD i.toNat 0 else 0
def Cq:Sp3:=fun ds M Q=>∃ ns i,ds=[.rl (ns.map D.int),.int i]∧Q (.int (cell ns i)) M
theorem q9 (c:Int):0 < size c:=by
 unfold size
 have:=Int.emod_nonneg c (show (6:Int) ≠ 0 by decide)
 omega
theorem ug (c:Int):size c≤6:=by
 unfold size
 have:=Int.emod_lt_of_pos c (show (0:Int) < 6 by decide)
 omega
theorem rz (i n:Int):(iK (cT i) n).length=n.toNat:=by
 show ((List.replicate n.toNat (cT i).cps).foldl (· ++ ·) #[]:Array Nat).size=n.toNat
 rw [tR]
 show n.toNat * 1=n.toNat
 omega
theorem j8:df.length≤sizeLine:=by decide +kernel
section
variable {P:Program} {w:World} {K:PySem.W.Frag} {mg:Str→Option Value} {base:Heap} {a:Ad}
theorem kU (G:Gl K mg a):Fq P w K mg base 1 a.law_draw yY:=by
 refine aX G.law_draw.toDG qw (fun ds M Q h=>?_) (fun cdv A outer s H E hr=>⟨_,(ai (aw (aS (aS (aS (aS (aS (aS (aa 0 (pv 0)) ak) ak) (aa 1 (pv 1))) ak) ak) (aa 2 (pv 2))))),?_⟩)
 ·obtain ⟨c,f,m,rfl,_⟩:=h
  rfl
 ·rintro ds M Q ⟨c,f,m,rfl,hm,q⟩
  refine ⟨by decide,.inl ?_,by decide,⟨by decide,by decide⟩,hm,M,.refl,q⟩
  have h1:0≤c % 2147483647:=Int.emod_nonneg _ (by decide)
  have h2:c % 2147483647 < 2147483647:=Int.emod_lt_of_pos _ (by decide)
  exact ⟨by omega,by omega⟩
theorem nG {i:Int} (h0:0≤i) (h1:i < 26):atI df.cps.toList i=some (97 + i.toNat):=by
 obtain ⟨n,rfl⟩:=Int.eq_ofNat_of_zero_le h0
 have hn:n < 26:=by omega
 have key:∀ n:_root_.Fin 26,atI df.cps.toList ((n.val:Nat):Int)=some (97 + n.val):=by decide +kernel
 exact key ⟨n,hn⟩
theorem tq (G:Gl K mg a):Fq P w K mg base 1 a.law_word zo:=by
 refine aX G.law_word.toDG cW (fun ds M Q h=>?_) (fun cdv A outer s H E hr=>⟨_,(ah (aE (i:=2) cW.nd rfl (Or.inl rfl) ao)
 (ah (aE (i:=3) cW.nd rfl (Or.inl rfl) (aS ak (aS (aa 0 (pv 0)) ak)))
 (ah (aE (i:=4) cW.nd rfl (Or.inl rfl) (aS (aS (aa 0 (pv 0)) ak) (aa 3 (pv 3))))
 (ah (aE (i:=5) cW.nd rfl (Or.inl rfl) (aA (aa 2 (pv 2)) (aS (aS (aa 0 (pv 0)) ak) ak)))
 (ah (aE (i:=6) cW.nd rfl (Or.inl rfl) (aA (aa 2 (pv 2)) (aS (aS (aS (aa 0 (pv 0)) ak) (aa 1 (pv 1))) ak)))
 (ai (aw (aS (aS (aS (aa 5 (pv 5)) (aa 4 (pv 4))) (aa 6 (pv 6))) (aS (aa 5 (pv 5)) (aS (aS (aa 3 (pv 3)) ak) (aa 4 (pv 4)))))))))))),?_⟩)
 ·obtain ⟨c,v,rfl,_⟩:=h
  rfl
 ·rintro ds M Q ⟨c,v,rfl,q⟩
  have hs:=q9 c
  have hs6:=ug c
  have hp0:0≤du c:=Int.emod_nonneg _ (by omega)
  have hp1:du c < size c:=Int.emod_lt_of_pos _ hs
  have l1:=rz (c / 36 % 26) (du c)
  have l2:=rz (c / 36 % 26) (size c - 1 - du c)
  have hz:sizeLine=16777216:=sizeLine_eq
  refine ⟨by decide,⟨by decide,by decide⟩,hs,⟨by decide,by decide⟩,by decide,j8,af (nG (Int.emod_nonneg _ (by decide)) (Int.emod_lt_of_pos _ (by decide))) ?_⟩
  refine ⟨⟨by decide,by decide⟩,by decide,j8,af (nG (Int.emod_nonneg _ (by decide)) (Int.emod_lt_of_pos _ (by decide))) ?_⟩
  refine ⟨⟨?_,?_,?_⟩,?_,⟨?_,?_,?_⟩,?_,M,.refl,q⟩
  ·show du c < 4096
   omega
  ·show -4096 < du c
   omega
  ·show (1:Nat) < 4096
   decide
  ·show (iK (cT (c / 36 % 26)) (du c)).length + 1≤sizeLine
   omega
  ·show size c - 1 - du c < 4096
   omega
  ·show -4096 < size c - 1 - du c
   omega
  ·show (1:Nat) < 4096
   decide
  ·show (iK (cT (c / 36 % 26)) (du c) ++ cT ((c / 936 + v) % 26)).length + (iK (cT (c / 36 % 26)) (size c - 1 - du c)).length≤sizeLine
   rw [PySem.size_cat]
   have:(cT ((c / 936 + v) % 26)).length=1:=rfl
   omega
theorem Cy (G:Gl K mg a):Fq P w K mg base 1 a.law_at Cq:=by
 refine aX G.law_at.toDG uB (fun ds M Q h=>?_) (fun cdv A outer s H E hr=>⟨_,(ah (aF (xn (hu9 hr) ak (aa 1 (pv 1)) (aH bn rfl G.no_len bi (ae (aa 0 (pv 0)) ag)))
 (ai (aw (aA (aa 0 (pv 0)) (aa 1 (pv 1)))))
 ay)
 (ai (aw ak))),?_⟩)
 ·obtain ⟨ns,i,rfl,_⟩:=h
  rfl
 ·rintro ds M Q ⟨ns,i,rfl,q⟩
  refine bo (fun h0=>?_) (fun h0=>?_)
  ·have h0:0≤i:=of_decide_eq_true h0
   refine bo (fun h1=>?_) (fun h1=>?_)
   ·have h1:i < ((ns.map D.int).length:Int):=of_decide_eq_true h1
    rw [List.length_map] at h1
    have hi:i.toNat < ns.length:=by omega
    have e:atI (ns.map D.int) i=some (D.int (ns.getD i.toNat 0)):=by
     obtain ⟨n,rfl⟩:=Int.eq_ofNat_of_zero_le h0
     have hn:n < ns.length:=by omega
     refine hU ?_
     rw [List.getElem?_map,List.getElem?_eq_getElem hn]
     simp [hn]
    refine af e ⟨M,.refl,?_⟩
    have:cell ns i=ns.getD i.toNat 0:=by unfold cell; rw [if_pos ⟨h0,h1⟩]
    rw [← this]
    exact q
   ·have h1:¬ i < ((ns.map D.int).length:Int):=fun z=>h1 (decide_eq_true z)
    rw [List.length_map] at h1
    refine ⟨M,.refl,?_⟩
    have:cell ns i=0:=by unfold cell; rw [if_neg (fun z=>h1 z.2)]
    rw [← this]
    exact q
  ·have h0:¬ 0≤i:=fun z=>h0 (decide_eq_true z)
   refine ⟨M,.refl,?_⟩
   have:cell ns i=0:=by unfold cell; rw [if_neg (fun z=>h0 z.1)]
   rw [← this]
   exact q
end
abbrev names (ns:List Str):D:=.tup (ns.map D.str)
abbrev at0 (ns:List Str) (i:Int):Str:=ns.getD i.toNat Str.empty
def fg (row:List Str) (c m:Int):Nat:=(1 + cD c 40692 (if (row.length:Int) < m then (row.length:Int) else m)).toNat
def Ce (row:List Str) (c:Int) (j:Nat):Str:=at0 row ((cD c 69621 row.length + (0 + (j:Nat))) % row.length)
def dZ (row:List Str) (c m:Int):List Str:=(List.range (fg row c m)).map (Ce row c)
def zv:Sp3:=fun ds M Q=>∃ r c m row,ds=[.ref r,.int c,.int m]∧lstM M r=some (row.map D.str)∧row ≠ []∧0 < m∧row.length≤64∧Q (names (dZ row c m)) M
theorem za {row:List Str} (h:row ≠ []) (x:Int):atI (row.map D.str) (x % row.length)=some (D.str (at0 row (x % row.length))):=by
 have hl:0 < row.length:=List.length_pos_iff.mpr h
 have h0:0≤x % row.length:=Int.emod_nonneg _ (by omega)
 have h1:x % row.length < row.length:=Int.emod_lt_of_pos _ (by omega)
 obtain ⟨n,hn⟩:=Int.eq_ofNat_of_zero_le h0
 rw [hn] at h1 ⊢
 have hn':n < row.length:=by omega
 refine hU ?_
 rw [List.getElem?_map,List.getElem?_eq_getElem hn']
 simp [at0,hn']
section
variable {P:Program} {w:World} {K:PySem.W.Frag} {mg:Str→Option Value} {base:Heap} {a:Ad}
theorem kY (G:Gl K mg a):Fq P w K mg base 2 a.law_some zv:=by
 have C_law_draw:=kU (P:=P) (w:=w) (base:=base) G
 refine aX G.law_some.toDG gA (fun ds M Q h=>?_) (fun cdv A outer s H E hr=>⟨_,(ah (aE (i:=3) gA.nd rfl (Or.inr rfl) (ax C_law_draw hr G.law_draw (ae (aa 1 (pv 1)) (ae ak (ae (aH bn rfl G.no_len bi (ae (aa 0 (pv 0)) ag)) ag)))))
 (ah (aE (i:=4) gA.nd rfl (Or.inl rfl) (aS ak (ax C_law_draw hr G.law_draw (ae (aa 1 (pv 1)) (ae ak (ae (aH (BG rfl) rfl G.no_min Au (ae (aa 2 (pv 2)) (ae (aH bn rfl G.no_len bi (ae (aa 0 (pv 0)) ag)) ag))) ag))))))
 (ai (aw (aP bU rfl G.no_tuple bT (ae (be rfl (bH (ix:=[none,some 0,some 3]) (N':=["_law_j","_law_row","_law_first"]) (by kernel_rfl)) (jS rfl G.no_range (ae (aa 4 (pv 4)) ag)) (fun C s0 H0 ex=>(aB (i:=0) (show List.Nodup (["_law_j","_law_row","_law_first"]:List Str) by decide +kernel) rfl (Or.inl rfl))) (fun C s0 H0 ex=>bK) (fun C s0 H0 ex=>(aA (aa 1 (pv 1)) (aS (aS (aa 2 (pv 2)) (aa 0 (pv 0))) (aH bn rfl G.no_len bi (ae (aa 1 (pv 1)) ag)))))) ag)))))),?_⟩)
 ·obtain ⟨r,c,m,row,rfl,_⟩:=h
  rfl
 ·rintro ds M Q ⟨r,c,m,row,rfl,hl,hne,hm,h64,q⟩
  have hlen:0 < row.length:=List.length_pos_iff.mpr hne
  have hz:sizeLine=16777216:=sizeLine_eq
  have el:((row.map D.str).length:Int)=row.length:=by rw [List.length_map]
  refine af hl ⟨c,69621,_,rfl,by rw [el]; omega,?_⟩
  refine af hl ⟨c,40692,_,rfl,by rw [el]; split <;> omega,?_⟩
  rw [el]
  have d0:=cg (c:=c) (f:=40692) (m:=if (row.length:Int) < m then (row.length:Int) else m) (by split <;> omega)
  have d1:=bS (c:=c) (f:=40692) (m:=if (row.length:Int) < m then (row.length:Int) else m) (by split <;> omega)
  have d2:cD c 40692 (if (row.length:Int) < m then (row.length:Int) else m) < row.length + 1:=by
   refine Int.lt_of_lt_of_le d1 ?_
   split <;> omega
  refine ⟨rfl,⟨?_,?_⟩,br (f:=fun d=>match d with | .int j=>D.str (at0 row ((cD c 69621 row.length + j) % row.length)) | _=>.non) trivial _ [] _ ?_ (fun d hd k hk=>?_) fun p hp=>?_⟩
  ·show -(2 ^ 62)≤1 + cD c 40692 (if (row.length:Int) < m then (row.length:Int) else m)
   omega
  ·show 1 + cD c 40692 (if (row.length:Int) < m then (row.length:Int) else m) < 2 ^ 62
   omega
  ·rw [List.length_map,List.length_range]
   show 0 + fg row c m≤sizeLine
   unfold fg
   omega
  ·obtain ⟨j,_,rfl⟩:=List.mem_map.mp hd
   refine af hl ⟨by rw [el]; omega,af hl ?_⟩
   rw [el]
   exact af (za hne _) hk
  ·refine af (x:=(dZ row c m).map D.str) ?_ ⟨M,.new hp,q⟩
   unfold lstM
   rw [aL]
   show some ([] ++ ((List.range (fg row c m)).map fun i=>D.int (0 + (i:Nat))).map _)=_
   rw [List.nil_append,List.map_map]
   unfold dZ
   rw [List.map_map]
   rfl
theorem vY {row:List Str} {x:Int} (h0:0≤x) (h1:x < row.length):atI (row.map D.str) x=some (D.str (at0 row x)):=by
 obtain ⟨n,rfl⟩:=Int.eq_ofNat_of_zero_le h0
 have hn':n < row.length:=by omega
 refine hU ?_
 rw [List.getElem?_map,List.getElem?_eq_getElem hn']
 simp [at0,hn']
end
end Z
namespace Z
open PySem PySem.Spec PyProof.Rows L2 L3
def dn (x:Str):Bool:=decide ((1:Int)≤x.length) && (decide ((x.length:Int)≤6) && x.cps.toList.all fun c=>nB ⟨#[c]⟩ df)
def sf:Sp3:=fun ds M Q=>∃ x:Str,ds=[.str x]∧x.length≤1000∧Q (.bl (dn x)) M
def yp:Sp3:=fun ds M Q=>∃ w,ds=[.bl true,w]∧Q .non M
def jc (ss:List Str):Bool:=((cE ss).length:Int) == (ss.length:Int)
def A0 (M:Mp) (x:D) (ss:List Str):Prop:=x=.tup (ss.map D.str)∨∃ a,x=.ref a∧lstM M a=some (ss.map D.str)
def uA:Sp3:=fun ds M Q=>∃ x ss,ds=[x]∧A0 M x ss∧ss.length < 4000∧Q (.bl (jc ss)) M
theorem mD {α:Type} (f:α→Bool) (l:List α):(l.map f).all id=l.all f:=by rw [List.all_map]; rfl
theorem dj (x:Str) (ss:List Str):inD (.str x) (ss.map D.str)=ss.any (· == x):=by
 unfold inD
 rw [List.any_map]
 rfl
theorem bt:∀ ss:List Str,(ss.map D.str).all d3=true
 | []=>rfl
 | _ :: r=>by
  rw [List.map_cons,List.all_cons,bt r]
  rfl
def dF (cs ks:List Str) (m:Int):Bool:=decide ((1:Int)≤cs.length) && (decide ((cs.length:Int)≤m) && (jc cs && cs.all fun c=>ks.any (· == c)))
def uE:Sp3:=fun ds M Q=>∃ cs ks k m,ds=[.tup (cs.map D.str),.ref k,.int m]∧lstM M k=some (ks.map D.str)∧cs.length < 4000∧Q (.bl (dF cs ks m)) M
section
variable {P:Program} {w:World} {K:PySem.W.Frag} {mg:Str→Option Value} {base:Heap} {a:Ad}
theorem lV (G:Gl K mg a):Fq P w K mg base 1 a.is_name sf:=by
 refine aX G.is_name.toDG sQ (fun ds M Q h=>?_) (fun cdv A outer s H E hr=>⟨_,(ai (aw (dB (fJ (hu9 hr) ak (aH bn rfl G.no_len bi (ae (aa 0 (pv 0)) ag)) (c9 rfl G.k_MOST_SIGNS)) (cV (aH (pU rfl) rfl G.no_all pG (ae (be rfl (bH (ix:=[none]) (N':=["sign"]) (by kernel_rfl)) (aV (aa 0 (pv 0))) (fun C s0 H0 ex=>(aB (i:=0) (show List.Nodup (["sign"]:List Str) by decide +kernel) rfl (Or.inl rfl))) (fun C s0 H0 ex=>bK) (fun C s0 H0 ex=>(ba (hu9 hr) (aa 0 (pv 0)) (c9 rfl G.k_LETTERS)))) ag)))))),?_⟩)
 ·obtain ⟨x,rfl,_⟩:=h
  rfl
 ·rintro ds M Q ⟨x,rfl,hl,q⟩
  have hz:sizeLine=16777216:=sizeLine_eq
  refine ⟨by omega,bo (fun h1=>?_) (fun h1=>?_)⟩
  ·refine bo (fun h2=>?_) (fun h2=>?_)
   ·refine br (f:=fun d=>match d with | .str z=>D.bl (nB z df) | _=>.non) trivial _ [] _ ?_ (fun d hd k hk=>?_) fun p hp=>?_
    ·rw [List.length_map]
     have:x.cps.toList.length=x.length:=by simp [Str.length]
     simp only [List.length_nil]
     omega
    ·obtain ⟨c,_,rfl⟩:=List.mem_map.mp hd
     exact hk
    ·refine af av ?_
     have e:([] ++ (x.cps.toList.map fun c=>D.str ⟨#[c]⟩).map fun d=>match d with | .str z=>D.bl (nB z df) | _=>.non)=x.cps.toList.map fun c=>D.bl (nB ⟨#[c]⟩ df):=by
      rw [List.nil_append,List.map_map]
      rfl
     rw [e]
     refine af (jn (fun c=>nB ⟨#[c]⟩ df) x.cps.toList) ⟨M,.new hp,?_⟩
     rw [mD]
     have:dn x=x.cps.toList.all fun c=>nB ⟨#[c]⟩ df:=by
      unfold dn
      rw [h1,h2]
      rfl
     rw [← this]
     exact q
   ·refine ⟨M,.refl,?_⟩
    have:dn x=false:=by
     unfold dn
     have h2:decide ((x.length:Int)≤6)=false:=by simpa using h2
     rw [h2]
     simp
    rw [← this]
    exact q
  ·refine ⟨M,.refl,?_⟩
   have:dn x=false:=by
    unfold dn
    have h1:decide ((1:Int)≤x.length)=false:=by simpa using h1
    rw [h1]
    rfl
   rw [← this]
   exact q
theorem kT (G:Gl K mg a):Fq P w K mg base 1 a.need yp:=by
 refine aX G.need.toDG xW (fun ds M Q h=>?_) (fun cdv A outer s H E hr=>⟨_,(ai (aF (fW (e9 (aa 0 (pv 0))))
 (ai bz)
 ay)),?_⟩)
 ·obtain ⟨x,rfl,_⟩:=h
  rfl
 ·rintro ds M Q ⟨x,rfl,q⟩
  exact ⟨M,.refl,q⟩
theorem oq (G:Gl K mg a):Fq P w K mg base 1 a.all_unlike uA:=by
 refine aX G.all_unlike.toDG mX (fun ds M Q h=>?_) (fun cdv A outer s H E hr=>⟨_,(ai (aw (ba (hu9 hr) (ux rfl (aa 0 (pv 0)) rfl G.no_len rfl G.no_set bi BJ) (aH bn rfl G.no_len bi (ae (aa 0 (pv 0)) ag))))),?_⟩)
 ·obtain ⟨x,ss,rfl,_⟩:=h
  rfl
 ·rintro ds M Q ⟨x,ss,rfl,hx,hl,q⟩
  have key:((ss.map D.str).length:Int)=ss.length:=by rw [List.length_map]
  rcases hx with rfl | ⟨b,rfl,hb⟩
  ·refine af (L3.lq ss) ⟨hl,M,.refl,?_⟩
   rw [key]
   exact q
  ·refine af hb (af (L3.lq ss) ⟨hl,af hb ⟨M,.refl,?_⟩⟩)
   rw [key]
   exact q
theorem u5 (G:Gl K mg a):Fq P w K mg base 2 a.is_choice uE:=by
 have C_all_unlike:=oq (P:=P) (w:=w) (base:=base) G
 refine aX G.is_choice.toDG pp (fun ds M Q h=>?_) (fun cdv A outer s H E hr=>⟨_,(ai (aw (dB (fJ (hu9 hr) ak (aH bn rfl G.no_len bi (ae (aa 0 (pv 0)) ag)) (aa 2 (pv 2))) (dB (ax C_all_unlike hr G.all_unlike (ae (aa 0 (pv 0)) ag)) (cV (aH (pU rfl) rfl G.no_all pG (ae (be rfl (bH (ix:=[none,some 1]) (N':=["name","known"]) (by kernel_rfl)) (aV (aa 0 (pv 0))) (fun C s0 H0 ex=>(aB (i:=0) (show List.Nodup (["name","known"]:List Str) by decide +kernel) rfl (Or.inl rfl))) (fun C s0 H0 ex=>bK) (fun C s0 H0 ex=>(ba (hu9 hr) (aa 0 (pv 0)) (aa 1 (pv 1))))) ag))))))),?_⟩)
 ·obtain ⟨cs,ks,k,m,rfl,_⟩:=h
  rfl
 ·rintro ds M Q ⟨cs,ks,k,m,rfl,hk,hl,q⟩
  have hz:sizeLine=16777216:=sizeLine_eq
  have key:((cs.map D.str).length:Int)=cs.length:=by rw [List.length_map]
  have end_:∀ b:Bool,dF cs ks m=b→∃ M'',L3.Sub M'' M∧Q (.bl b) M'':=fun b e=>⟨M,.refl,e ▸ q⟩
  refine bo (fun h1=>?_) (fun h1=>?_)
  ·have h1:decide ((1:Int)≤cs.length)=true:=by rw [← key]; exact h1
   refine bo (fun h2=>?_) (fun h2=>?_)
   ·have h2:decide ((cs.length:Int)≤m)=true:=by rw [← key]; exact h2
    refine ⟨_,cs,rfl,.inl rfl,hl,bo (fun h3=>?_) (fun h3=>?_)⟩
    ·refine br (f:=fun d=>match d with | .str z=>D.bl (ks.any (· == z)) | _=>.non) trivial _ [] _ ?_ (fun d hd k0 hk0=>?_) fun p hp=>?_
     ·rw [List.length_map]
      simp only [List.length_nil]
      omega
     ·obtain ⟨c,_,rfl⟩:=List.mem_map.mp hd
      refine af hk ⟨rfl,bt ks,?_⟩
      show k0 (.bl (inD (.str c) (ks.map D.str))) M
      rw [dj]
      exact hk0
     ·refine af av ?_
      have e:([] ++ (cs.map D.str).map fun d=>match d with | .str z=>D.bl (ks.any (· == z)) | _=>.non)=cs.map fun c=>D.bl (ks.any (· == c)):=by
       rw [List.nil_append,List.map_map]
       rfl
      rw [e]
      refine af (jn (fun c=>ks.any (· == c)) cs) ⟨M,.new hp,?_⟩
      rw [mD]
      have:dF cs ks m=cs.all fun c=>ks.any (· == c):=by
       unfold dF
       rw [h1,h2,h3]
       rfl
      rw [← this]
      exact q
    ·refine end_ _ ?_
     unfold dF
     have h3:jc cs=false:=by simpa using h3
     rw [h3]
     simp
   ·refine end_ _ ?_
    unfold dF
    have h2:decide ((cs.length:Int)≤m)=false:=by
     rw [← key]
     simpa using h2
    rw [h2]
    simp
  ·refine end_ _ ?_
   unfold dF
   have h1:decide ((1:Int)≤cs.length)=false:=by
    rw [← key]
    simpa using h1
   rw [h1]
   rfl
end
end Z
namespace Z
open PySem PySem.Spec PyProof.Rows L2 L3
abbrev bZ:=Str × Int × Int
abbrev cU:=Str × Str × List Str
def bb (p:bZ):D:=.tup [.str p.1,.int p.2.1,.int p.2.2]
def bp (g:cU):D:=.tup [.str g.1,.str g.2.1,.tup (g.2.2.map D.str)]
structure pL (p:bZ):Prop where
 len:p.1.length≤1000
 nm:dn p.1=true
 l1:1≤p.2.1
 l2:p.2.1≤3
 r1:0≤p.2.2
 r2:p.2.2≤9
structure oE (pn:List Str) (g:cU):Prop where
 len:g.1.length≤1000
 nm:dn g.1=true
 man:g.2.1="all"∨g.2.1="turns"
 few:g.2.2.length < 4000
 mem:dF g.2.2 pn 4=true
def Df (ss:List Str) (x:Str):Prop:=ss.any (· == x)=true
def kS:Sp3:=fun ds M Q=>∃ r,∃ ps:List bZ,ds=[.ref r]∧lstM M r=some (ps.map bb)∧1≤ps.length∧ps.length≤8∧(∀ p∈ps,pL p)∧Q .non M
def kB:Sp3:=fun ds M Q=>∃ r,∃ gs:List cU,∃ pl,∃ pn:List Str,ds=[.ref r,.ref pl]∧lstM M r=some (gs.map bp)∧lstM M pl=some (pn.map D.str)∧gs.length≤3∧(∀ g∈gs,oE pn g)∧Q .non M
def kM:Sp3:=fun ds M Q=>∃ r x y,ds=[.ref r,x,y]∧lstM M r=some []∧Q .non M
section
variable {P:Program} {w:World} {K:PySem.W.Frag} {mg:Str→Option Value} {base:Heap} {a:Ad}
theorem kF (G:Gl K mg a):Fq P w K mg base 2 a.check_phones kS:=by
 have C_need:=kT (P:=P) (w:=w) (base:=base) G
 have C_is_name:=lV (P:=P) (w:=w) (base:=base) G
 refine aX G.check_phones.toDG cS (fun ds M Q h=>?_) (fun cdv A outer s H E hr=>⟨_,(ah (aC (ax C_need hr G.need (ae (fJ (hu9 hr) ak (aH bn rfl G.no_len bi (ae (aa 0 (pv 0)) ag)) (c9 rfl G.k_MOST_PHONES)) (ae ao ag))))
 (ai (cZ PassesOwn.never rfl (aV (aa 0 (pv 0))) (d9 (n:=3) rfl (aT (aB (i:=1) cS.nd rfl (Or.inl rfl)) (aT (aB (i:=2) cS.nd rfl (Or.inl rfl)) (aT (aB (i:=3) cS.nd rfl (Or.inl rfl)) dm))))
 (ah (aC (ax C_need hr G.need (ae (ax C_is_name hr G.is_name (ae (aa 1 (pv 1)) ag)) (ae ao ag))))
 (ah (aC (ax C_need hr G.need (ae (fJ (hu9 hr) ak (aa 2 (pv 2)) (c9 rfl G.k_MOST_LINES)) (ae ao ag))))
 (ai (aC (ax C_need hr G.need (ae (fJ (hu9 hr) ak (aa 3 (pv 3)) (c9 rfl G.k_MOST_RANK)) (ae ao ag)))))))))),?_⟩)
 ·obtain ⟨r,ps,rfl,_⟩:=h
  rfl
 ·rintro ds M Q ⟨r,ps,rfl,hr1,h1,h8,hok,q⟩
  have el:((ps.map bb).length:Int)=ps.length:=by rw [List.length_map]
  refine af hr1 (rK (c:=decide ((1:Int)≤(ps.map bb).length)) (decide_eq_true (by omega)) ⟨_,by rw [decide_eq_true (show ((ps.map bb).length:Int)≤8 by omega)],af hr1 ?_⟩)
  refine oA (fun δ M'=>M=M'∧∃ x y z,δ=[some (.ref r),x,y,z]) (fun δ M' j=>by rw [← j.1]; exact hr1) _ _ _ ⟨rfl,none,none,none,rfl⟩ ?_ ?_
  ·rintro d hd δ M' ⟨rfl,x,y,z,rfl⟩ nx hnx
   obtain ⟨p,hp,rfl⟩:=List.mem_map.mp hd
   have o:=hok p hp
   refine ⟨rfl,⟨p.1,rfl,o.len,_,by rw [o.nm],?_⟩⟩
   refine rK (c:=decide ((1:Int)≤p.2.1)) (decide_eq_true o.l1) ⟨_,by rw [decide_eq_true (show p.2.1≤3 from o.l2)],?_⟩
   refine rK (c:=decide ((0:Int)≤p.2.2)) (decide_eq_true o.r1) ⟨_,by rw [decide_eq_true (show p.2.2≤9 from o.r2)],?_⟩
   exact hnx _ _ ⟨rfl,_,_,_,rfl⟩
  ·rintro δ M' ⟨rfl,x,y,z,rfl⟩
   exact ⟨M,.refl,q⟩
theorem kH (G:Gl K mg a):Fq P w K mg base 3 a.check_groups kB:=by
 have C_need:=kT (P:=P) (w:=w) (base:=base) G
 have C_is_name:=lV (P:=P) (w:=w) (base:=base) G
 have C_is_choice:=u5 (P:=P) (w:=w) (base:=base) G
 refine aX G.check_groups.toDG cQ (fun ds M Q h=>?_) (fun cdv A outer s H E hr=>⟨_,(ah (aC (ax C_need hr G.need (ae (ba (hu9 hr) (aH bn rfl G.no_len bi (ae (aa 0 (pv 0)) ag)) (c9 rfl G.k_MOST_GROUPS)) (ae ao ag))))
 (ai (cZ PassesOwn.never rfl (aV (aa 0 (pv 0))) (d9 (n:=3) rfl (aT (aB (i:=2) cQ.nd rfl (Or.inl rfl)) (aT (aB (i:=3) cQ.nd rfl (Or.inl rfl)) (aT (aB (i:=4) cQ.nd rfl (Or.inl rfl)) dm))))
 (ah (aC (ax C_need hr G.need (ae (ax C_is_name hr G.is_name (ae (aa 2 (pv 2)) ag)) (ae ao ag))))
 (ah (aC (ax C_need hr G.need (ae (ba (hu9 hr) (aa 3 (pv 3)) (c9 rfl G.k_MANNERS)) (ae ao ag))))
 (ai (aC (ax C_need hr G.need (ae (ax C_is_choice hr G.is_choice (ae (aa 4 (pv 4)) (ae (aa 1 (pv 1)) (ae (c9 rfl G.k_MOST_MEMBERS) ag)))) (ae ao ag)))))))))),?_⟩)
 ·obtain ⟨r,gs,pl,pn,rfl,_⟩:=h
  rfl
 ·rintro ds M Q ⟨r,gs,pl,pn,rfl,hr1,hp,h3,hok,q⟩
  have el:((gs.map bp).length:Int)=gs.length:=by rw [List.length_map]
  refine af hr1 ⟨_,by rw [decide_eq_true (show ((gs.map bp).length:Int)≤3 by omega)],af hr1 ?_⟩
  refine oA (fun δ M'=>M=M'∧∃ x y z,δ=[some (.ref r),some (.ref pl),x,y,z]) (fun δ M' j=>by rw [← j.1]; exact hr1) _ _ _ ⟨rfl,none,none,none,rfl⟩ ?_ ?_
  ·rintro d hd δ M' ⟨rfl,x,y,z,rfl⟩ nx hnx
   obtain ⟨g,hg,rfl⟩:=List.mem_map.mp hd
   have o:=hok g hg
   refine ⟨rfl,⟨g.1,rfl,o.len,_,by rw [o.nm],?_⟩⟩
   have hm:inD (.str g.2.1) [.str "all",.str "turns"]=true:=by
    rcases o.man with e | e <;> (rw [e]; rfl)
   refine ⟨rfl,rfl,.str "a group's manner is all or turns",congrArg (fun b=>[D.bl b,D.str "a group's manner is all or turns"]) hm,?_⟩
   refine ⟨g.2.2,pn,pl,4,rfl,hp,o.few,_,by rw [o.mem],?_⟩
   exact hnx _ _ ⟨rfl,_,_,_,rfl⟩
  ·rintro δ M' ⟨rfl,x,y,z,rfl⟩
   exact ⟨M,.refl,q⟩
theorem kI (G:Gl K mg a):Fq P w K mg base 5 a.check_wishes kM:=by
 have C_need:=kT (P:=P) (w:=w) (base:=base) G
 refine aX G.check_wishes.toDG dS (fun ds M Q h=>?_) (fun cdv A outer s H E hr=>⟨_,(ah (aC (ax C_need hr G.need (ae (ba (hu9 hr) (aH bn rfl G.no_len bi (ae (aa 0 (pv 0)) ag)) (c9 rfl G.k_MOST_WISHES)) (ae ao ag))))
 (ai (cZ PassesOwn.never rfl (aV (aa 0 (pv 0))) (d9 (n:=2) rfl (aT (aB (i:=3) dS.nd rfl (Or.inl rfl)) (aT (aB (i:=4) dS.nd rfl (Or.inl rfl)) dm)))
 (ai bz)))),?_⟩)
 ·obtain ⟨r,x,y,rfl,_⟩:=h
  rfl
 ·rintro ds M Q ⟨r,x,y,rfl,hr1,q⟩
  exact af hr1 ⟨_,rfl,af hr1 ⟨M,.refl,q⟩⟩
end
end Z
namespace Z
open PySem PySem.Spec PyProof.Rows L2 L3
structure aD where
 phones:List bZ
 groups:List cU
def aD.pn (l:aD):List Str:=l.phones.map (·.1)
def aD.gn (l:aD):List Str:=l.groups.map (·.1)
def aD.nm (l:aD):List Str:=l.pn ++ l.gn
structure mL (l:aD):Prop where
 p1:1≤l.phones.length
 p8:l.phones.length≤8
 po:∀ p∈l.phones,pL p
 g3:l.groups.length≤3
 go:∀ g∈l.groups,oE l.pn g
 nd:l.nm.Nodup
theorem ow {ss:List Str} (h:ss.Nodup):jc ss=true:=by
 unfold jc
 rw [sT ss h]
 simp
def nj:Sp3:=fun ds M Q=>∃ r1 r2 r3,∃ l:aD,ds=[.ref r1,.ref r2,.ref r3]∧lstM M r1=some (l.phones.map bb)∧lstM M r2=some (l.groups.map bp)∧lstM M r3=some []∧mL l∧Q .non M
def nA:D→D
 | .tup (x :: _)=>x
 | _=>.non
theorem iM (ps:List bZ):(ps.map bb).map nA=(ps.map (·.1)).map D.str:=by
 rw [List.map_map,List.map_map]
 rfl
theorem iQ (ps:List cU):(ps.map bp).map nA=(ps.map (·.1)).map D.str:=by
 rw [List.map_map,List.map_map]
 rfl
section
variable {P:Program} {w:World} {K:PySem.W.Frag} {mg:Str→Option Value} {base:Heap} {a:Ad}
theorem mV (G:Gl K mg a):Fq P w K mg base 6 a.check_plan nj:=by
 have C_need:=kT (P:=P) (w:=w) (base:=base) G
 have C_all_unlike:=oq (P:=P) (w:=w) (base:=base) G
 have C_check_phones:=kF (P:=P) (w:=w) (base:=base) G
 have C_check_groups:=kH (P:=P) (w:=w) (base:=base) G
 have C_check_wishes:=kI (P:=P) (w:=w) (base:=base) G
 refine aX G.check_plan.toDG fm (fun ds M Q h=>?_) (fun cdv A outer s H E hr=>⟨_,(ah (aC (ax C_check_phones hr G.check_phones (ae (aa 0 (pv 0)) ag)))
 (ah (fT (i:=3) fm.nd rfl (Or.inl rfl) rfl (bH (ix:=[none]) (N':=["phone"]) (by kernel_rfl)) (aV (aa 0 (pv 0))) (fun C s0 H0 ex=>(aB (i:=0) (show List.Nodup (["phone"]:List Str) by decide +kernel) rfl (Or.inl rfl))) (fun C s0 H0 ex=>bK) (fun C s0 H0 ex=>(aA (aa 0 (pv 0)) ak)))
 (ah (aC (ax C_check_groups hr G.check_groups (ae (aa 1 (pv 1)) (ae (aa 3 (pv 3)) ag))))
 (ah (aE (i:=4) fm.nd rfl (Or.inl rfl) (aS (aa 3 (pv 3)) (be rfl (bH (ix:=[none]) (N':=["group"]) (by kernel_rfl)) (aV (aa 1 (pv 1))) (fun C s0 H0 ex=>(aB (i:=0) (show List.Nodup (["group"]:List Str) by decide +kernel) rfl (Or.inl rfl))) (fun C s0 H0 ex=>bK) (fun C s0 H0 ex=>(aA (aa 0 (pv 0)) ak)))))
 (ah (aC (ax C_need hr G.need (ae (ax C_all_unlike hr G.all_unlike (ae (aa 4 (pv 4)) ag)) (ae ao ag))))
 (ai (aC (ax C_check_wishes hr G.check_wishes (ae (aa 2 (pv 2)) (ae (aa 3 (pv 3)) (ae (aa 4 (pv 4)) ag))))))))))),?_⟩)
 ·obtain ⟨r1,r2,r3,l,rfl,_⟩:=h
  rfl
 ·rintro ds M Q ⟨r1,r2,r3,l,rfl,h1,h2,h3,ok,q⟩
  have hz:sizeLine=16777216:=sizeLine_eq
  have l1:=ok.p8
  have l2:=ok.g3
  refine ⟨r1,l.phones,rfl,h1,ok.p1,ok.p8,ok.po,af h1 ?_⟩
  refine br (f:=nA) h1 _ [] _ (by rw [List.length_map]; simp only [List.length_nil]; omega) (fun d hd k hk=>?_) fun p hp=>?_
  ·obtain ⟨x,_,rfl⟩:=List.mem_map.mp hd
   exact hk
  rw [List.nil_append,iM]
  have s1:=L3.Sub.new (c:=.lst ((l.phones.map (·.1)).map D.str)) hp
  have lp:lstM (am M p (.lst ((l.phones.map (·.1)).map D.str))) p=some (l.pn.map D.str):=av
  generalize am M p (.lst ((l.phones.map (·.1)).map D.str))=M1 at s1 lp ⊢
  refine ⟨r2,l.groups,p,l.pn,rfl,s1.lst h2,lp,ok.g3,ok.go,?_⟩
  refine af (s1.lst h2) (br (f:=nA) (s1.lst h2) _ [] _ (by rw [List.length_map]; simp only [List.length_nil]; omega) (fun d hd k hk=>?_) fun p2 hp2=>?_)
  ·obtain ⟨x,_,rfl⟩:=List.mem_map.mp hd
   exact hk
  rw [List.nil_append,iQ]
  have s2:=L3.Sub.new (c:=.lst ((l.groups.map (·.1)).map D.str)) hp2
  refine af (s2.lst lp) (af av ⟨?_,fun p3 hp3=>?_⟩)
  ·rw [List.length_map,List.length_map,List.length_map]
   show (l.phones.map (·.1)).length + _≤_
   rw [List.length_map]
   omega
  have en:l.pn.map D.str ++ (l.groups.map (·.1)).map D.str=l.nm.map D.str:=by
   unfold aD.nm
   rw [List.map_append]
   rfl
  rw [en]
  have s3:=s2.trans (L3.Sub.new (c:=.lst (l.nm.map D.str)) hp3)
  have l3:lstM (am (am M1 p2 (.lst ((l.groups.map (·.1)).map D.str))) p3 (.lst (l.nm.map D.str))) p3=some (l.nm.map D.str):=av
  generalize am (am M1 p2 (.lst ((l.groups.map (·.1)).map D.str))) p3 (.lst (l.nm.map D.str))=M3 at s3 l3 ⊢
  have ln:l.nm.length < 4000:=by
   unfold aD.nm aD.pn aD.gn
   rw [List.length_append,List.length_map,List.length_map]
   omega
  refine ⟨_,l.nm,rfl,.inr ⟨p3,rfl,l3⟩,ln,_,by rw [ow ok.nd],?_⟩
  exact ⟨r3,_,_,rfl,s3.lst (s1.lst h3),M,s1.trans s3,q⟩
end
end Z
namespace Z
open PySem PySem.Spec PyProof.Rows L2 L3
def Am (ph gr ws on pr gd:Addr):List (Str × D):=[("phones",.ref ph),("groups",.ref gr),("wishes",.ref ws),("on",.ref on),("phone_rows",.ref pr),("group_rows",.ref gd)]
def Be (l:aD):List (Key × D):=l.phones.map fun p=>(Sum.inr p.1,bb p)
def rT (l:aD):List (Key × D):=l.groups.map fun g=>(Sum.inr g.1,bp g)
def bW (a:Ad) (M:Mp) (p:Addr) (l:aD):Prop:=∃ ph gr ws on pr gd,M p=some (.ins a.c_Plan (Am ph gr ws on pr gd))∧lstM M ph=some (l.phones.map bb)∧lstM M gr=some (l.groups.map bp) ∧
 lstM M ws=some []∧lstM M on=some []∧dkM M pr=some (Be l)∧dkM M gd=some (rT l)
theorem bW.sub {a:Ad} {M M':Mp} {p:Addr} {l:aD} (h:bW a M p l) (s:L3.Sub M M'):bW a M' p l:=by
 obtain ⟨ph,gr,ws,on,pr,gd,h1,h2,h3,h4,h5,h6,h7⟩:=h
 exact ⟨ph,gr,ws,on,pr,gd,s _ _ h1,s.lst h2,s.lst h3,s.lst h4,s.lst h5,s.dk h6,s.dk h7⟩
def yy (a:Ad):Sp3:=fun ds M Q=>∃ p r1 r2 r3,∃ l:aD,ds=[.ref p,.ref r1,.ref r2,.ref r3]∧M p=some (.ins a.c_Plan [])∧lstM M r1=some (l.phones.map bb)∧lstM M r2=some (l.groups.map bp)∧lstM M r3=some []∧mL l ∧
 ∀ M',ck p M M'→bW a M' p l→(∀ M'',(∀ b c,(b=p∨M b=none)→M' b=some c→M'' b=some c)→bW a M'' p l)→Q .non M'
theorem bE {M N:Mp} {p x:Addr} {c:fB} (k:ck p M N) (hp:N p=some c) (h:N x=none):M x=none:=by
 cases e:M x with
 | none=>rfl
 | some d =>
  have n:x ≠ p:=fun z=>by rw [z,hp] at h; cases h
  rw [k x d n e] at h
  cases h
theorem jy {M:Mp} {a:Addr} {es:List (Key × D)} (h:dkM M a=some es):M a=some (.dk es):=by
 unfold dkM at h
 split at h
 ·rename_i e; rw [e]; cases h; rfl
 ·cases h
theorem fS {α:Type} (f:α→Str) (g:α→D):∀ l:List α,fV (l.map fun x=>D.tup [.str (f x),g x])=some (l.map fun x=>(Sum.inr (f x),g x))
 | []=>rfl
 | x :: r=>by
  show (fV (r.map fun x=>D.tup [.str (f x),g x])).map ((Sum.inr (f x),g x) :: ·)=_
  rw [fS f g r]
  rfl
theorem vf {ss:List Str} (h:ss.Nodup):(ss.map fun x=>(Sum.inr x:Key)).Nodup:=by
 induction ss with
 | nil=>exact List.nodup_nil
 | cons x r ih =>
  obtain ⟨h1,h2⟩:=List.nodup_cons.mp h
  rw [List.map_cons]
  refine List.nodup_cons.mpr ⟨fun z=>h1 ?_,ih h2⟩
  obtain ⟨y,hy,e⟩:=List.mem_map.mp z
  cases e
  exact hy
theorem iO {α:Type} {f:α→Str} {g:α→D} {l:List α} (h:(l.map f).Nodup):((l.map fun x=>((Sum.inr (f x):Key),g x)).map (·.1)).Nodup:=by
 rw [List.map_map]
 have:=vf h
 rw [List.map_map] at this
 exact this
def kZ (d:D):D:=.tup [nA d,d]
theorem qj (ps:List bZ):(ps.map bb).map kZ=ps.map fun p=>D.tup [.str p.1,bb p]:=by
 rw [List.map_map]
 rfl
theorem qM (ps:List cU):(ps.map bp).map kZ=ps.map fun p=>D.tup [.str p.1,bp p]:=by
 rw [List.map_map]
 rfl
section
variable {P:Program} {w:World} {K:PySem.W.Frag} {mg:Str→Option Value} {base:Heap} {a:Ad}
theorem yS (G:Gl K mg a):Fq P w K mg base 7 a.Plan_init (yy a):=by
 have C_check_plan:=mV (P:=P) (w:=w) (base:=base) G
 refine aX G.Plan_init.toDG pz (fun ds M Q h=>?_) (fun cdv A outer s H E hr=>⟨_,(ah (aC (ax C_check_plan hr G.check_plan (ae (aa 1 (pv 1)) (ae (aa 2 (pv 2)) (ae (aa 3 (pv 3)) ag)))))
 (ah (aO (aa 0 (pv 0)) (aP dH rfl G.no_list dN (ae (aa 1 (pv 1)) ag)))
 (ah (aO (aa 0 (pv 0)) (aP dH rfl G.no_list dN (ae (aa 2 (pv 2)) ag)))
 (ah (aO (aa 0 (pv 0)) (be rfl (bH (ix:=[none,none]) (N':=["on","wish"]) (by kernel_rfl)) (aV (aa 3 (pv 3))) (fun C s0 H0 ex=>(d9 (n:=2) rfl (aT (aB (i:=0) (show List.Nodup (["on","wish"]:List Str) by decide +kernel) rfl (Or.inl rfl)) (aT (aB (i:=1) (show List.Nodup (["on","wish"]:List Str) by decide +kernel) rfl (Or.inl rfl)) dm)))) (fun C s0 H0 ex=>bK) (fun C s0 H0 ex=>v0)))
 (ah (aO (aa 0 (pv 0)) (be rfl (bH (ix:=[none,none]) (N':=["on","wish"]) (by kernel_rfl)) (aV (aa 3 (pv 3))) (fun C s0 H0 ex=>(d9 (n:=2) rfl (aT (aB (i:=0) (show List.Nodup (["on","wish"]:List Str) by decide +kernel) rfl (Or.inl rfl)) (aT (aB (i:=1) (show List.Nodup (["on","wish"]:List Str) by decide +kernel) rfl (Or.inl rfl)) dm)))) (fun C s0 H0 ex=>bK) (fun C s0 H0 ex=>(aa 0 (pv 0)))))
 (ah (aO (aa 0 (pv 0)) (aP (pi rfl) rfl G.no_dict pj (ae (be rfl (bH (ix:=[none]) (N':=["phone"]) (by kernel_rfl)) (aV (aa 1 (pv 1))) (fun C s0 H0 ex=>(aB (i:=0) (show List.Nodup (["phone"]:List Str) by decide +kernel) rfl (Or.inl rfl))) (fun C s0 H0 ex=>bK) (fun C s0 H0 ex=>(aI (ae (aA (aa 0 (pv 0)) ak) (ae (aa 0 (pv 0)) ag))))) ag)))
 (ai (aO (aa 0 (pv 0)) (aP (pi rfl) rfl G.no_dict pj (ae (be rfl (bH (ix:=[none]) (N':=["group"]) (by kernel_rfl)) (aV (aa 2 (pv 2))) (fun C s0 H0 ex=>(aB (i:=0) (show List.Nodup (["group"]:List Str) by decide +kernel) rfl (Or.inl rfl))) (fun C s0 H0 ex=>bK) (fun C s0 H0 ex=>(aI (ae (aA (aa 0 (pv 0)) ak) (ae (aa 0 (pv 0)) ag))))) ag)))))))))),?_⟩)
 ·obtain ⟨p,r1,r2,r3,l,rfl,_⟩:=h
  rfl
 ·rintro ds M Q ⟨p,r1,r2,r3,l,rfl,hp,h1,h2,h3,ok,q⟩
  have hz:sizeLine=16777216:=sizeLine_eq
  have l1:=ok.p8
  have l2:=ok.g3
  refine ⟨r1,r2,r3,l,rfl,h1,h2,h3,ok,?_⟩
  refine af h1 fun ph hph=>?_
  obtain ⟨n1,e1,k1,c1,p1⟩:=cf (fs':=[("phones",.ref ph)]) (c:=.lst (l.phones.map bb)) hp hph
  refine aj e1 ⟨(G.n_Plan "phones" rfl),by show 0 < 1000; decide,?_⟩
  show dw _ _ _ _ (am (am M ph (.lst (l.phones.map bb))) p (.ins a.c_Plan [("phones",.ref ph)]))
  generalize am (am M ph (.lst (l.phones.map bb))) p (.ins a.c_Plan [("phones",.ref ph)])=N1 at k1 c1 p1 ⊢
  have h1':=k1.lst (aG h1 hp) h1
  have h2':=k1.lst (aG h2 hp) h2
  have h3':=k1.lst (aG h3 hp) h3
  have f1:lstM N1 ph=some (l.phones.map bb):=cx c1
  refine af h2' fun gr hgr=>?_
  obtain ⟨n2,e2,k2,c2,p2⟩:=cf (fs':=[("phones",.ref ph),("groups",.ref gr)]) (c:=.lst (l.groups.map bp)) p1 hgr
  refine aj e2 ⟨(G.n_Plan "groups" rfl),by show 1 < 1000; decide,?_⟩
  show dw _ _ _ _ (am (am N1 gr (.lst (l.groups.map bp))) p (.ins a.c_Plan [("phones",.ref ph),("groups",.ref gr)]))
  generalize am (am N1 gr (.lst (l.groups.map bp))) p (.ins a.c_Plan [("phones",.ref ph),("groups",.ref gr)])=N2 at k2 c2 p2 ⊢
  have g1:=k2.lst (aG h1' p1) h1'
  have g2:=k2.lst (aG h2' p1) h2'
  have g3:=k2.lst (aG h3' p1) h3'
  have f2:=k2.lst (aG f1 p1) f1
  have f3:lstM N2 gr=some (l.groups.map bp):=cx c2
  have kk2:=k1.trans k2
  have m2:M gr=none:=bE k1 p1 hgr
  clear h1' h2' h3' f1 c1 c2 k1 k2 e1 e2
  refine af g3 ⟨Nat.zero_le _,fun ws hws=>?_⟩
  obtain ⟨n3,e3,k3,c3,p3⟩:=cf (fs':=[("phones",.ref ph),("groups",.ref gr),("wishes",.ref ws)]) (c:=.lst []) p2 hws
  refine aj e3 ⟨(G.n_Plan "wishes" rfl),by show 2 < 1000; decide,?_⟩
  show dw _ _ _ _ (am (am N2 ws (.lst [])) p (.ins a.c_Plan [("phones",.ref ph),("groups",.ref gr),("wishes",.ref ws)]))
  generalize am (am N2 ws (.lst [])) p (.ins a.c_Plan [("phones",.ref ph),("groups",.ref gr),("wishes",.ref ws)])=N3 at k3 c3 p3 ⊢
  have sx:L3.Sub N2 N2:=.refl
  have px:=sx _ _ p2
  have i1:=k3.lst (aG (sx.lst g1) px) (sx.lst g1)
  have i2:=k3.lst (aG (sx.lst g2) px) (sx.lst g2)
  have i3:=k3.lst (aG (sx.lst g3) px) (sx.lst g3)
  have f4:=k3.lst (aG (sx.lst f2) px) (sx.lst f2)
  have f5:=k3.lst (aG (sx.lst f3) px) (sx.lst f3)
  have f6:lstM N3 ws=some []:=cx c3
  have kk3:=(kk2.trans sx.keep).trans k3
  have m3:M ws=none:=bE (kk2.trans sx.keep) px hws
  clear g1 g2 g3 f2 f3 c3 k3 e3 px kk2
  refine af i3 ⟨Nat.zero_le _,fun on hon=>?_⟩
  obtain ⟨n4,e4,k4,c4,p4⟩:=cf (fs':=[("phones",.ref ph),("groups",.ref gr),("wishes",.ref ws),("on",.ref on)]) (c:=.lst []) p3 hon
  refine aj e4 ⟨(G.n_Plan "on" rfl),by show 3 < 1000; decide,?_⟩
  show dw _ _ _ _ (am (am N3 on (.lst [])) p (.ins a.c_Plan [("phones",.ref ph),("groups",.ref gr),("wishes",.ref ws),("on",.ref on)]))
  generalize am (am N3 on (.lst [])) p (.ins a.c_Plan [("phones",.ref ph),("groups",.ref gr),("wishes",.ref ws),("on",.ref on)])=N4 at k4 c4 p4 ⊢
  have j1:=k4.lst (aG i1 p3) i1
  have j2:=k4.lst (aG i2 p3) i2
  have f7:=k4.lst (aG f4 p3) f4
  have f8:=k4.lst (aG f5 p3) f5
  have f9:=k4.lst (aG f6 p3) f6
  have fa:lstM N4 on=some []:=cx c4
  have kk4:=kk3.trans k4
  have m4:M on=none:=bE kk3 p3 hon
  clear i1 i2 i3 f4 f5 f6 c4 k4 e4 kk3
  refine af j1 (br (f:=kZ) j1 _ [] _ (by rw [List.length_map]; simp only [List.length_nil]; omega) (fun d hd k hk=>?_) fun q1 hq1=>?_)
  ·obtain ⟨v,_,rfl⟩:=List.mem_map.mp hd
   exact ⟨few rfl,hk⟩
  rw [List.nil_append,qj]
  have sq1:=L3.Sub.new (c:=.lst (l.phones.map fun p=>D.tup [.str p.1,bb p])) hq1
  refine af av (af (fS (fun p:bZ=>p.1) bb l.phones) ⟨iO (List.Nodup.sublist (List.sublist_append_left _ _) ok.nd),fun pr hpr=>?_⟩)
  obtain ⟨n5,e5,k5,c5,p5⟩:=cf (fs':=[("phones",.ref ph),("groups",.ref gr),("wishes",.ref ws),("on",.ref on),("phone_rows",.ref pr)]) (c:=.dk (l.phones.map fun x=>(Sum.inr x.1,bb x))) (sq1 _ _ p4) hpr
  refine aj e5 ⟨(G.n_Plan "phone_rows" rfl),by show 4 < 1000; decide,?_⟩
  have k5:=sq1.keep.trans k5
  have eput:gv "phone_rows" (.ref pr) [("phones",.ref ph),("groups",.ref gr),("wishes",.ref ws),("on",.ref on)]=([("phones",.ref ph),("groups",.ref gr),("wishes",.ref ws),("on",.ref on),("phone_rows",.ref pr)]:List (Str × D)):=rfl
  rw [eput]
  generalize am (am (am N4 q1 (.lst (l.phones.map fun p=>D.tup [.str p.1,bb p]))) pr (.dk (l.phones.map fun x=>(Sum.inr x.1,bb x)))) p (.ins a.c_Plan [("phones",.ref ph),("groups",.ref gr),("wishes",.ref ws),("on",.ref on),("phone_rows",.ref pr)])=N5 at k5 c5 p5 ⊢
  have mm:=k5.lst (aG j2 p4) j2
  have fb:=k5.lst (aG f7 p4) f7
  have fc:=k5.lst (aG f8 p4) f8
  have fd:=k5.lst (aG f9 p4) f9
  have fe:=k5.lst (aG fa p4) fa
  have ff:dkM N5 pr=some (Be l):=j9 c5
  have kk5:=kk4.trans k5
  have m5:M pr=none:=bE (kk4.trans sq1.keep) (sq1 _ _ p4) hpr
  clear j1 j2 f7 f8 f9 fa c5 k5 e5 kk4
  refine af mm (br (f:=kZ) mm _ [] _ (by rw [List.length_map]; simp only [List.length_nil]; omega) (fun d hd k hk=>?_) fun q2 hq2=>?_)
  ·obtain ⟨v,_,rfl⟩:=List.mem_map.mp hd
   exact ⟨few rfl,hk⟩
  rw [List.nil_append,qM]
  have sq2:=L3.Sub.new (c:=.lst (l.groups.map fun g=>D.tup [.str g.1,bp g])) hq2
  refine af av (af (fS (fun p:cU=>p.1) bp l.groups) ⟨iO (List.Nodup.sublist (List.sublist_append_right _ _) ok.nd),fun gd hgd=>?_⟩)
  obtain ⟨n6,e6,k6,c6,p6⟩:=cf (fs':=Am ph gr ws on pr gd) (c:=.dk (rT l)) (sq2 _ _ p5) hgd
  have k6:=sq2.keep.trans k6
  refine aj e6 ⟨(G.n_Plan "group_rows" rfl),by show 5 < 1000; decide,_,.refl,?_⟩
  have m6:M gd=none:=bE (kk5.trans sq2.keep) (sq2 _ _ p5) hgd
  have y1:=k6.lst (aG fb p5) fb
  have y2:=k6.lst (aG fc p5) fc
  have y3:=k6.lst (aG fd p5) fd
  have y4:=k6.lst (aG fe p5) fe
  have y5:=k6.dk (oz ff p5) ff
  refine q _ (kk5.trans k6) ⟨ph,gr,ws,on,pr,gd,p6,y1,y2,y3,y4,y5,j9 c6⟩ fun M'' hs=>?_
  exact ⟨ph,gr,ws,on,pr,gd,hs _ _ (.inl rfl) p6,cx (hs _ _ (.inr hph) (aY y1)),cx (hs _ _ (.inr m2) (aY y2)),cx (hs _ _ (.inr m3) (aY y3)),cx (hs _ _ (.inr m4) (aY y4)),j9 (hs _ _ (.inr m5) (jy y5)),j9 (hs _ _ (.inr m6) c6)⟩
end
end Z
namespace Z
open PySem PySem.Spec PyProof.Rows L2 L3
theorem hW {α:Type} (f:α→Str) (g:α→D) (k:Str):∀ l:List α,dR (l.map fun x=>((Sum.inr (f x):Key),g x)) (Sum.inr k)=(l.find? fun x=>decide (f x=k)).map g
 | []=>rfl
 | x :: r=>by
  have ih:=hW f g k r
  unfold dR at ih ⊢
  rw [List.map_cons,List.find?_cons,List.find?_cons]
  by_cases h:f x=k
  ·have h':decide ((Sum.inr (f x):Key)=Sum.inr k)=true:=decide_eq_true (by rw [h])
   simp [h]
  ·have h':¬ (Sum.inr (f x):Key)=Sum.inr k:=fun z=>h (Sum.inr.inj z)
   simp only [h,h',decide_false]
   exact ih
def aD.phone (l:aD) (x:Str):Option bZ:=l.phones.find? fun p=>decide (p.1=x)
def aD.group (l:aD) (x:Str):Option cU:=l.groups.find? fun g=>decide (g.1=x)
def aD.phonesOf (l:aD) (x:Str):List Str:=(l.group x).elim [x] fun g=>g.2.2
def aD.manner (l:aD) (x:Str):Str:=(l.group x).elim "one" fun g=>g.2.1
theorem qz (l:aD) (x:Str):dR (Be l) (Sum.inr x)=(l.phone x).map bb:=hW (fun p:bZ=>p.1) bb x l.phones
theorem fN (l:aD) (x:Str):dR (rT l) (Sum.inr x)=(l.group x).map bp:=hW (fun p:cU=>p.1) bp x l.groups
def iU (a:Ad):Sp3:=fun ds M Q=>∃ p,∃ l:aD,ds=[.ref p]∧bW a M p l∧l.phones.length≤100∧∀ q,M q=none→Q (.ref q) (am M q (.lst (l.pn.map D.str)))
def pM (a:Ad):Sp3:=fun ds M Q=>∃ p,∃ l:aD,ds=[.ref p]∧bW a M p l∧l.phones.length≤100∧l.groups.length≤100∧∀ q,M q=none→Q (.ref q) (am M q (.lst (l.nm.map D.str)))
def oJ (a:Ad):Sp3:=fun ds M Q=>∃ p x v,∃ l:aD,ds=[.ref p,.str x]∧bW a M p l∧l.phone x=some v∧Q (.int v.2.1) M
def ra (a:Ad):Sp3:=fun ds M Q=>∃ p x v,∃ l:aD,ds=[.ref p,.str x]∧bW a M p l∧l.phone x=some v∧Q (.int v.2.2) M
def jX (a:Ad):Sp3:=fun ds M Q=>∃ p x,∃ l:aD,ds=[.ref p,.str x]∧bW a M p l∧∀ q,M q=none→Q (.ref q) (am M q (.lst ((l.phonesOf x).map D.str)))
def ng (a:Ad):Sp3:=fun ds M Q=>∃ p x,∃ l:aD,ds=[.ref p,.str x]∧bW a M p l∧Q (.str (l.manner x)) M
section
variable {P:Program} {w:World} {K:PySem.W.Frag} {mg:Str→Option Value} {base:Heap} {a:Ad}
theorem cI (G:Gl K mg a):Fq P w K mg base 1 a.Plan_phone_names (iU a):=by
 refine aX G.Plan_phone_names.toDG hZ (fun ds M Q h=>?_) (fun cdv A outer s H E hr=>⟨_,(ai (aw (be rfl (bH (ix:=[none]) (N':=["phone"]) (by kernel_rfl)) (aV (ap (aa 0 (pv 0)))) (fun C s0 H0 ex=>(aB (i:=0) (show List.Nodup (["phone"]:List Str) by decide +kernel) rfl (Or.inl rfl))) (fun C s0 H0 ex=>bK) (fun C s0 H0 ex=>(aA (aa 0 (pv 0)) ak))))),?_⟩)
 ·obtain ⟨p,l,rfl,_⟩:=h
  rfl
 ·rintro ds M Q ⟨p,l,rfl,hp,hl,q⟩
  have hz:sizeLine=16777216:=sizeLine_eq
  obtain ⟨ph,gr,ws,on,pr,gd,h1,h2,h3,h4,h5,h6,h7⟩:=hp
  refine aj h1 (af rfl (af h2 ?_))
  refine br (f:=nA) h2 _ [] _ (by rw [List.length_map]; simp only [List.length_nil]; omega) (fun d hd k hk=>?_) fun q1 hq1=>?_
  ·obtain ⟨x,_,rfl⟩:=List.mem_map.mp hd
   exact hk
  rw [List.nil_append,iM]
  exact ⟨_,.refl,q q1 hq1⟩
theorem mZ (G:Gl K mg a):Fq P w K mg base 2 a.Plan_names (pM a):=by
 have C_Plan_phone_names:=cI (P:=P) (w:=w) (base:=base) G
 refine aX G.Plan_names.toDG m8 (fun ds M Q h=>?_) (fun cdv A outer s H E hr=>⟨_,(ai (aw (aS (lb (aa 0 (pv 0)) G.c_Plan.toCls G.Plan_phone_names C_Plan_phone_names hr) (be rfl (bH (ix:=[none]) (N':=["group"]) (by kernel_rfl)) (aV (ap (aa 0 (pv 0)))) (fun C s0 H0 ex=>(aB (i:=0) (show List.Nodup (["group"]:List Str) by decide +kernel) rfl (Or.inl rfl))) (fun C s0 H0 ex=>bK) (fun C s0 H0 ex=>(aA (aa 0 (pv 0)) ak)))))),?_⟩)
 ·obtain ⟨p,l,rfl,_⟩:=h
  rfl
 ·rintro ds M Q ⟨p,l,rfl,hp,hl,hl2,q⟩
  have hz:sizeLine=16777216:=sizeLine_eq
  have hpl:=hp
  obtain ⟨ph,gr,ws,on,pr,gd,h1,h2,h3,h4,h5,h6,h7⟩:=hp
  refine aj h1 ⟨rfl,_,⟨rfl,rfl⟩,p,l,rfl,hpl,hl,fun q1 hq1=>?_⟩
  have s1:=L3.Sub.new (c:=.lst (l.pn.map D.str)) hq1
  have e1:lstM (am M q1 (.lst (l.pn.map D.str))) q1=some (l.pn.map D.str):=av
  generalize am M q1 (.lst (l.pn.map D.str))=M1 at s1 e1 ⊢
  have h3':=s1.lst h3
  refine aj (s1 _ _ h1) (af rfl (af h3' ?_))
  refine br (f:=nA) h3' _ [] _ (by rw [List.length_map]; simp only [List.length_nil]; omega) (fun d hd k hk=>?_) fun q2 hq2=>?_
  ·obtain ⟨x,_,rfl⟩:=List.mem_map.mp hd
   exact hk
  rw [List.nil_append,iQ]
  have s2:=L3.Sub.new (c:=.lst ((l.groups.map (·.1)).map D.str)) hq2
  refine af (s2.lst e1) (af av ⟨?_,fun q3 hq3=>?_⟩)
  ·rw [List.length_map,List.length_map,List.length_map]
   show (l.phones.map (·.1)).length + _≤_
   rw [List.length_map]
   omega
  have en:l.pn.map D.str ++ (l.groups.map (·.1)).map D.str=l.nm.map D.str:=by
   unfold aD.nm
   rw [List.map_append]
   rfl
  rw [en]
  exact ⟨_,(s1.trans s2).upd,q q3 ((s1.trans s2).none hq3)⟩
theorem mY (G:Gl K mg a):Fq P w K mg base 1 a.Plan_lines (oJ a):=by
 refine aX G.Plan_lines.toDG nz (fun ds M Q h=>?_) (fun cdv A outer s H E hr=>⟨_,(ai (aw (aA (fU (hu9 hr) (ap (aa 0 (pv 0))) (aa 1 (pv 1))) ak))),?_⟩)
 ·obtain ⟨p,x,v,l,rfl,_⟩:=h
  rfl
 ·rintro ds M Q ⟨p,x,v,l,rfl,hp,hv,q⟩
  obtain ⟨ph,gr,ws,on,pr,gd,h1,h2,h3,h4,h5,h6,h7⟩:=hp
  exact aj h1 (af rfl (af rfl (af h6 (af (x:=bb v) (by rw [qz,hv]; rfl) ⟨M,.refl,q⟩))))
theorem o1 (G:Gl K mg a):Fq P w K mg base 1 a.Plan_rank (ra a):=by
 refine aX G.Plan_rank.toDG o0 (fun ds M Q h=>?_) (fun cdv A outer s H E hr=>⟨_,(ai (aw (aA (fU (hu9 hr) (ap (aa 0 (pv 0))) (aa 1 (pv 1))) ak))),?_⟩)
 ·obtain ⟨p,x,v,l,rfl,_⟩:=h
  rfl
 ·rintro ds M Q ⟨p,x,v,l,rfl,hp,hv,q⟩
  obtain ⟨ph,gr,ws,on,pr,gd,h1,h2,h3,h4,h5,h6,h7⟩:=hp
  exact aj h1 (af rfl (af rfl (af h6 (af (x:=bb v) (by rw [qz,hv]; rfl) ⟨M,.refl,q⟩))))
theorem de (G:Gl K mg a):Fq P w K mg base 1 a.Plan_phones_of (jX a):=by
 refine aX G.Plan_phones_of.toDG jm (fun ds M Q h=>?_) (fun cdv A outer s H E hr=>⟨_,(ah (aF (xu (hu9 hr) (aa 1 (pv 1)) (ap (aa 0 (pv 0))))
 (ai (aw (aP dH rfl G.no_list dN (ae (aA (fU (hu9 hr) (ap (aa 0 (pv 0))) (aa 1 (pv 1))) ak) ag))))
 ay)
 (ai (aw (bY (ae (aa 1 (pv 1)) ag))))),?_⟩)
 ·obtain ⟨p,x,l,rfl,_⟩:=h
  rfl
 ·rintro ds M Q ⟨p,x,l,rfl,hp,q⟩
  obtain ⟨ph,gr,ws,on,pr,gd,h1,h2,h3,h4,h5,h6,h7⟩:=hp
  refine aj h1 (af rfl (af h7 ?_))
  cases e:l.group x with
  | none =>
   refine wN (c:=(dR (rT l) (Sum.inr x)).isSome) (by rw [fN,e]; rfl) ⟨few rfl,fun q1 hq1=>⟨_,.refl,?_⟩⟩
   have:=q q1 hq1
   unfold aD.phonesOf at this
   rw [e] at this
   exact this
  | some g =>
   refine rK (c:=(dR (rT l) (Sum.inr x)).isSome) (by rw [fN,e]; rfl) (aj h1 (af rfl (af rfl (af h7 (af (x:=bp g) (by rw [fN,e]; rfl) fun q1 hq1=>⟨_,.refl,?_⟩)))))
   have:=q q1 hq1
   unfold aD.phonesOf at this
   rw [e] at this
   exact this
theorem gX (G:Gl K mg a):Fq P w K mg base 1 a.Plan_manner (ng a):=by
 refine aX G.Plan_manner.toDG mw (fun ds M Q h=>?_) (fun cdv A outer s H E hr=>⟨_,(ah (aF (xu (hu9 hr) (aa 1 (pv 1)) (ap (aa 0 (pv 0))))
 (ai (aw (aA (fU (hu9 hr) (ap (aa 0 (pv 0))) (aa 1 (pv 1))) ak)))
 ay)
 (ai (aw ao))),?_⟩)
 ·obtain ⟨p,x,l,rfl,_⟩:=h
  rfl
 ·rintro ds M Q ⟨p,x,l,rfl,hp,q⟩
  obtain ⟨ph,gr,ws,on,pr,gd,h1,h2,h3,h4,h5,h6,h7⟩:=hp
  refine aj h1 (af rfl (af h7 ?_))
  cases e:l.group x with
  | none =>
   refine wN (c:=(dR (rT l) (Sum.inr x)).isSome) (by rw [fN,e]; rfl) ⟨M,.refl,?_⟩
   unfold aD.manner at q
   rw [e] at q
   exact q
  | some g =>
   refine rK (c:=(dR (rT l) (Sum.inr x)).isSome) (by rw [fN,e]; rfl) (aj h1 (af rfl (af rfl (af h7 (af (x:=bp g) (by rw [fN,e]; rfl) ⟨M,.refl,?_⟩)))))
   unfold aD.manner at q
   rw [e] at q
   exact q
end
end Z
namespace Z
open PySem PySem.Spec PyProof.Rows L2 L3
structure ar where
 st:Str
 cr:Str
 way:List Str
 at_:List Str
 ms:List Str
 hd:Option Str
 si:Int
 wd:D
structure bD where
 p:Addr
 wy:Addr
structure BdA where
 b:Addr
 ca:Addr
 le:Addr
 nx:Addr
 on:Addr
 lo:Addr
 cs:List bD
structure BdV where
 p:Addr
 h:Int
 t:Int
 calls:List ar
 legs:List D
 ps:List (Str × Int)
 log:List D
def hdD:Option Str→D
 | none=>.non
 | some x=>.str x
def bw (c:ar) (wy ad md:Addr):List (Str × D):=[("state",.str c.st),("caller",.str c.cr),("way",.ref wy),("at",.ref ad),("members",.ref md),("holder",hdD c.hd),("since",.int c.si),("word",c.wd)]
def fk (p:D) (h t:Int) (ca le nx on lo:Addr):List (Str × D):=[("plan",p),("hour",.int h),("turn",.int t),("calls",.ref ca),("legs",.ref le),("nexts",.ref nx),("on",.ref on),("log",.ref lo)]
def bA (ps:List (Str × Int)):List (Key × D):=ps.map fun p=>((Sum.inr p.1:Key),D.int p.2)
def BdA.lists (A:BdA):List Addr:=A.ca :: A.le :: A.on :: A.lo :: A.cs.map (·.wy)
def BdA.foot (A:BdA):List Addr:=A.b :: A.nx :: (A.lists ++ A.cs.map (·.p))
def bQ (a:Ad) (M:Mp) (L:List Addr) (k:bD) (c:ar):Prop:=∃ ad md,M k.p=some (.ins a.c_Call (bw c k.wy ad md))∧lstM M k.wy=some (c.way.map D.str)∧lstM M ad=some (c.at_.map D.str)∧lstM M md=some (c.ms.map D.str)∧ad ∉ L∧md ∉ L
structure az (a:Ad) (M:Mp) (A:BdA) (V:BdV):Prop where
 at_:M A.b=some (.ins a.c_Board (fk (.ref V.p) V.h V.t A.ca A.le A.nx A.on A.lo))
 ca:lstM M A.ca=some (A.cs.map fun k=>D.ref k.p)
 le:lstM M A.le=some V.legs
 nx:dkM M A.nx=some (bA V.ps)
 on:lstM M A.on=some []
 lo:lstM M A.lo=some V.log
 len:A.cs.length=V.calls.length
 cs:∀ (i:Nat) k c,A.cs[i]?=some k→V.calls[i]?=some c→bQ a M A.lists k c
 nl:A.lists.Nodup
 np:(A.b :: A.cs.map (·.p)).Nodup
theorem bQ.sub {a:Ad} {M M':Mp} {L:List Addr} {k:bD} {c:ar} (h:bQ a M L k c) (s:L3.Sub M M'):bQ a M' L k c:=by
 obtain ⟨ad,md,h1,h2,h3,h4,h5⟩:=h
 exact ⟨ad,md,s _ _ h1,s.lst h2,s.lst h3,s.lst h4,h5⟩
theorem az.sub {a:Ad} {M M':Mp} {A:BdA} {V:BdV} (h:az a M A V) (s:L3.Sub M M'):az a M' A V:=⟨s _ _ h.at_,s.lst h.ca,s.lst h.le,s.dk h.nx,s.lst h.on,s.lst h.lo,h.len,fun i k c e1 e2=>(h.cs i k c e1 e2).sub s,h.nl,h.np⟩
theorem bQ.keepL {a:Ad} {M M':Mp} {L:List Addr} {k:bD} {c:ar} {x:Addr} {ds:List D} (h:bQ a M L k c) (kp:ck x M M') (hl:lstM M x=some ds) (hx:x∈L) (hn:k.wy ≠ x):bQ a M' L k c:=by
 obtain ⟨ad,md,h1,h2,h3,h4,h5,h6⟩:=h
 exact ⟨ad,md,kp _ _ (fun z=>by rw [z,aY hl] at h1; cases h1) h1,kp.lst hn h2,kp.lst (fun z=>h5 (z ▸ hx)) h3,kp.lst (fun z=>h6 (z ▸ hx)) h4,h5,h6⟩
theorem bQ.keepI {a:Ad} {M M':Mp} {L:List Addr} {k:bD} {c:ar} {x C:Addr} {fs:List (Str × D)} (h:bQ a M L k c) (kp:ck x M M') (hi:M x=some (.ins C fs)) (hn:k.p ≠ x):bQ a M' L k c:=by
 obtain ⟨ad,md,h1,h2,h3,h4,h5⟩:=h
 exact ⟨ad,md,kp _ _ hn h1,kp.lst (aG h2 hi) h2,kp.lst (aG h3 hi) h3,kp.lst (aG h4 hi) h4,h5⟩
theorem eD {M:Mp} {a p:Addr} {ds:List (Key × D)} {es:List D} (h:dkM M a=some ds) (hp:lstM M p=some es):a ≠ p:=fun z=>by
 subst z
 unfold dkM at h
 rw [aY hp] at h
 cases h
theorem bQ.keepD {a:Ad} {M M':Mp} {L:List Addr} {k:bD} {c:ar} {x:Addr} {ds:List (Key × D)} (h:bQ a M L k c) (kp:ck x M M') (hd:dkM M x=some ds):bQ a M' L k c:=by
 obtain ⟨ad,md,h1,h2,h3,h4,h5⟩:=h
 exact ⟨ad,md,kp _ _ (fun z=>by rw [z,jy hd] at h1; cases h1) h1,kp.lst (Ne.symm (eD hd h2)) h2,kp.lst (Ne.symm (eD hd h3)) h3,kp.lst (Ne.symm (eD hd h4)) h4,h5⟩
theorem aZ {α:Type} {l:List α} {i:Nat} {x:α} (h:l[i]?=some x):x∈l:=List.mem_of_getElem? h
theorem az.ne {a:Ad} {M:Mp} {A:BdA} {V:BdV} (h:az a M A V):A.ca ≠ A.le∧A.ca ≠ A.on∧A.ca ≠ A.lo∧A.le ≠ A.on∧A.le ≠ A.lo∧A.on ≠ A.lo∧∀ k∈A.cs,k.wy ≠ A.ca∧k.wy ≠ A.le∧k.wy ≠ A.on∧k.wy ≠ A.lo:=by
 have n:=h.nl
 unfold BdA.lists at n
 obtain ⟨n1,n⟩:=List.nodup_cons.mp n
 obtain ⟨n2,n⟩:=List.nodup_cons.mp n
 obtain ⟨n3,n⟩:=List.nodup_cons.mp n
 obtain ⟨n4,n⟩:=List.nodup_cons.mp n
 have w:∀ k∈A.cs,k.wy∈A.cs.map (·.wy):=fun k hk=>List.mem_map.mpr ⟨k,hk,rfl⟩
 refine ⟨fun z=>n1 (z ▸ by simp),fun z=>n1 (z ▸ by simp),fun z=>n1 (z ▸ by simp),fun z=>n2 (z ▸ by simp),fun z=>n2 (z ▸ by simp),fun z=>n3 (z ▸ by simp),fun k hk=>⟨fun z=>n1 ?_,fun z=>n2 ?_,fun z=>n3 ?_,fun z=>n4 ?_⟩⟩
 ·rw [← z]
  exact List.mem_cons_of_mem _ (List.mem_cons_of_mem _ (List.mem_cons_of_mem _ (w k hk)))
 ·rw [← z]
  exact List.mem_cons_of_mem _ (List.mem_cons_of_mem _ (w k hk))
 ·rw [← z]
  exact List.mem_cons_of_mem _ (w k hk)
 ·rw [← z]
  exact w k hk
theorem az.inL {a:Ad} {M:Mp} {A:BdA} {V:BdV} (_:az a M A V):A.ca∈A.lists∧A.le∈A.lists∧A.lo∈A.lists∧∀ k∈A.cs,k.wy∈A.lists:=by
 unfold BdA.lists
 exact ⟨by simp,by simp,by simp,fun k hk=>by simp; exact .inr (.inr (.inr (.inr ⟨k,hk,rfl⟩)))⟩
def bL (A:BdA) (M:Mp) (A':BdA) (M':Mp):Prop:=(∀ x c,x ∉ A.foot→M x=some c→M' x=some c)∧(∀ x∈A'.foot,x∈A.foot∨M x=none)∧∀ (i:Nat) k,A.cs[i]?=some k→A'.cs[i]?=some k
theorem bL.refl {A:BdA} {M:Mp}:bL A M A M:=⟨fun _ _ _ h=>h,fun _ h=>.inl h,fun _ _ h=>h⟩
theorem bL.trans {A A1 A2:BdA} {M M1 M2:Mp} (s:bL A M A1 M1) (u:bL A1 M1 A2 M2):bL A M A2 M2:=by
 refine ⟨fun x c n h=>u.1 x c (fun z=>?_) (s.1 x c n h),fun x hx=>?_,fun i k h=>u.2.2 i k (s.2.2 i k h)⟩
 ·rcases s.2.1 x z with y | y
  ·exact n y
  ·rw [y] at h; cases h
 ·rcases u.2.1 x hx with z | z
  ·exact s.2.1 x z
  ·by_cases y:x∈A.foot
   ·exact .inl y
   ·refine .inr ?_
    cases e:M x with
    | none=>rfl
    | some c=>rw [s.1 x c y e] at z; cases z
theorem bL.keep {A:BdA} {M M':Mp} {x:Addr} (h:x∈A.foot) (k:ck x M M'):bL A M A M':=⟨fun y c n e=>k y c (fun z=>n (z ▸ h)) e,fun _ h=>.inl h,fun _ _ h=>h⟩
theorem bL.sub {A:BdA} {M M':Mp} (s:L3.Sub M M'):bL A M A M':=⟨fun y c _ e=>s y c e,fun _ h=>.inl h,fun _ _ h=>h⟩
theorem BdA.in_foot (A:BdA):A.b∈A.foot∧A.nx∈A.foot∧A.ca∈A.foot∧A.le∈A.foot∧A.lo∈A.foot∧(∀ k∈A.cs,k.p∈A.foot)∧∀ k∈A.cs,k.wy∈A.foot:=by
 unfold BdA.foot BdA.lists
 exact ⟨by simp,by simp,by simp,by simp,by simp,fun k hk=>by simp; exact .inr (.inr (.inr (.inr (.inr (.inr (.inr ⟨k,hk,rfl⟩)))))),fun k hk=>by simp; exact .inr (.inr (.inr (.inr (.inr (.inr (.inl ⟨k,hk,rfl⟩))))))⟩
end Z
namespace Z
open PySem PySem.Spec PyProof.Rows L2 L3
section
variable {a:Ad} {M M1:Mp} {A:BdA} {V:BdV}
theorem se {α:Type} {l:List α} {i j:Nat} {x y:α} (h:(l.set i x)[j]?=some y):(j=i∧y=x∧i < l.length)∨(j ≠ i∧l[j]?=some y):=by
 by_cases z:j=i
 ·subst z
  by_cases hl:j < l.length
  ·rw [List.getElem?_set_self hl] at h
   exact .inl ⟨rfl,(Option.some.inj h).symm,hl⟩
  ·rw [List.getElem?_eq_none (by rw [List.length_set]; omega)] at h
   cases h
 ·rw [List.getElem?_set_ne (Ne.symm z)] at h
  exact .inr ⟨z,h⟩
theorem pT {α β:Type} {f:α→β} {l:List α} {i j:Nat} {x y:α} (nd:(l.map f).Nodup) (h1:l[i]?=some x) (h2:l[j]?=some y) (e:f x=f y):i=j:=by
 have e1:(l.map f)[i]?=some (f x):=by rw [List.getElem?_map,h1]; rfl
 have e2:(l.map f)[j]?=some (f y):=by rw [List.getElem?_map,h2]; rfl
 obtain ⟨l1,q1⟩:=List.getElem?_eq_some_iff.mp e1
 obtain ⟨l2,q2⟩:=List.getElem?_eq_some_iff.mp e2
 exact (List.getElem_inj nd).mp (q1.trans (e.trans q2.symm))
theorem az.nw (h:az a M A V):(A.cs.map (·.wy)).Nodup:=(List.nodup_cons.mp (List.nodup_cons.mp (List.nodup_cons.mp (List.nodup_cons.mp h.nl).2).2).2).2
theorem az.npp (h:az a M A V):(A.cs.map (·.p)).Nodup∧∀ k∈A.cs,k.p ≠ A.b:=⟨(List.nodup_cons.mp h.np).2,fun k hk z=>(List.nodup_cons.mp h.np).1 (z ▸ List.mem_map.mpr ⟨k,hk,rfl⟩)⟩
theorem az.putLog (h:az a M A V) {es:List D}:az a (am M A.lo (.lst es)) A { V with log:=es }∧bL A M A (am M A.lo (.lst es)):=by
 have kp:ck A.lo M (am M A.lo (.lst es)):=.put
 obtain ⟨n1,n2,n3,n4,n5,n6,nw⟩:=h.ne
 exact ⟨⟨kp _ _ (Ne.symm (aG h.lo h.at_)) h.at_,kp.lst n3 h.ca,kp.lst n5 h.le,kp.dk (eD h.nx h.lo) h.nx,kp.lst n6 h.on,av,h.len,fun i k c e1 e2=>(h.cs i k c e1 e2).keepL kp h.lo h.inL.2.2.1 (nw k (aZ e1)).2.2.2,h.nl,h.np⟩,.keep A.in_foot.2.2.2.2.1 kp⟩
theorem az.putLeg (h:az a M A V) {es:List D}:az a (am M A.le (.lst es)) A { V with legs:=es }∧bL A M A (am M A.le (.lst es)):=by
 have kp:ck A.le M (am M A.le (.lst es)):=.put
 obtain ⟨n1,n2,n3,n4,n5,n6,nw⟩:=h.ne
 exact ⟨⟨kp _ _ (Ne.symm (aG h.le h.at_)) h.at_,kp.lst n1 h.ca,av,kp.dk (eD h.nx h.le) h.nx,kp.lst (Ne.symm n4) h.on,kp.lst (Ne.symm n5) h.lo,h.len,fun i k c e1 e2=>(h.cs i k c e1 e2).keepL kp h.le h.inL.2.1 (nw k (aZ e1)).2.1,h.nl,h.np⟩,.keep A.in_foot.2.2.2.1 kp⟩
theorem az.putNx (h:az a M A V) {ps:List (Str × Int)}:az a (am M A.nx (.dk (bA ps))) A { V with ps:=ps }∧bL A M A (am M A.nx (.dk (bA ps))):=by
 have kp:ck A.nx M (am M A.nx (.dk (bA ps))):=.put
 exact ⟨⟨kp _ _ (Ne.symm (oz h.nx h.at_)) h.at_,kp.lst (Ne.symm (eD h.nx h.ca)) h.ca,kp.lst (Ne.symm (eD h.nx h.le)) h.le,j9 aL,kp.lst (Ne.symm (eD h.nx h.on)) h.on,kp.lst (Ne.symm (eD h.nx h.lo)) h.lo,h.len,fun i k c e1 e2=>(h.cs i k c e1 e2).keepD kp h.nx,h.nl,h.np⟩,.keep A.in_foot.2.1 kp⟩
theorem az.putCall (h:az a M A V) {i:Nat} {k:bD} {c c':ar} {ad md:Addr} (e1:A.cs[i]?=some k) (e2:V.calls[i]?=some c) (ew:c'.way=c.way) (la:lstM M ad=some (c'.at_.map D.str)) (lm:lstM M md=some (c'.ms.map D.str)) (na:ad ∉ A.lists) (nm:md ∉ A.lists) :
  az a (am M k.p (.ins a.c_Call (bw c' k.wy ad md))) A { V with calls:=V.calls.set i c' }∧bL A M A (am M k.p (.ins a.c_Call (bw c' k.wy ad md))):=by
 have kp:ck k.p M (am M k.p (.ins a.c_Call (bw c' k.wy ad md))):=.put
 obtain ⟨_,_,h1,h2,_⟩:=h.cs i k c e1 e2
 refine ⟨⟨kp _ _ (Ne.symm (h.npp.2 k (aZ e1))) h.at_,kp.lst (aG h.ca h1) h.ca,kp.lst (aG h.le h1) h.le,kp.dk (oz h.nx h1) h.nx,kp.lst (aG h.on h1) h.on,kp.lst (aG h.lo h1) h.lo,by rw [h.len,List.length_set],fun j k' d f1 f2=>?_,h.nl,h.np⟩,.keep (A.in_foot.2.2.2.2.2.1 k (aZ e1)) kp⟩
 rcases se f2 with ⟨rfl,rfl,_⟩ | ⟨hj,f2⟩
 ·rw [e1] at f1
  cases f1
  exact ⟨ad,md,aL,by rw [ew]; exact kp.lst (aG h2 h1) h2,kp.lst (aG la h1) la,kp.lst (aG lm h1) lm,na,nm⟩
 ·exact (h.cs j k' d f1 f2).keepI kp h1 fun z=>hj (pT h.npp.1 f1 e1 z)
theorem az.putWay (h:az a M A V) {i:Nat} {k:bD} {c:ar} {ws:List Str} (e1:A.cs[i]?=some k) (e2:V.calls[i]?=some c) :
  az a (am M k.wy (.lst (ws.map D.str))) A { V with calls:=V.calls.set i { c with way:=ws } }∧bL A M A (am M k.wy (.lst (ws.map D.str))):=by
 have kp:ck k.wy M (am M k.wy (.lst (ws.map D.str))):=.put
 obtain ⟨ad,md,h1,h2,h3,h4,h5,h6⟩:=h.cs i k c e1 e2
 obtain ⟨n1,n2,n3,n4,n5,n6,nw⟩:=h.ne
 obtain ⟨w1,w2,w3,w4⟩:=nw k (aZ e1)
 have kL:=h.inL.2.2.2 k (aZ e1)
 refine ⟨⟨kp _ _ (Ne.symm (aG h2 h.at_)) h.at_,kp.lst (Ne.symm w1) h.ca,kp.lst (Ne.symm w2) h.le,kp.dk (eD h.nx h2) h.nx,kp.lst (Ne.symm w3) h.on,kp.lst (Ne.symm w4) h.lo,by rw [h.len,List.length_set],fun j k' d f1 f2=>?_,h.nl,h.np⟩,.keep (A.in_foot.2.2.2.2.2.2 k (aZ e1)) kp⟩
 rcases se f2 with ⟨rfl,rfl,_⟩ | ⟨hj,f2⟩
 ·rw [e1] at f1
  cases f1
  exact ⟨ad,md,kp _ _ (Ne.symm (aG h2 h1)) h1,av,kp.lst (fun z=>h5 (z ▸ kL)) h3,kp.lst (fun z=>h6 (z ▸ kL)) h4,h5,h6⟩
 ·exact (h.cs j k' d f1 f2).keepL kp h2 kL fun z=>hj (pT h.nw f1 e1 z)
def BdA.add (A:BdA) (k:bD):BdA:={ A with cs:=A.cs ++ [k] }
theorem jV (A:BdA) (k:bD):(A.add k).lists=A.lists ++ [k.wy]:=by
 unfold BdA.add BdA.lists
 rw [List.map_append]
 rfl
theorem az.dom (h:az a M A V):(∀ x∈A.lists,∃ ds,lstM M x=some ds)∧∀ x∈A.foot,∃ c,M x=some c:=by
 have hc:∀ k∈A.cs,(∃ ds,lstM M k.wy=some ds)∧∃ c,M k.p=some c:=fun k hk=>by
  obtain ⟨i,hi,e⟩:=List.getElem_of_mem hk
  have e1:A.cs[i]?=some k:=by rw [List.getElem?_eq_getElem hi,e]
  have hi2:i < V.calls.length:=by rw [← h.len]; exact hi
  have e2:V.calls[i]?=some V.calls[i]:=List.getElem?_eq_getElem hi2
  obtain ⟨ad,md,h1,h2,_⟩:=h.cs i k _ e1 e2
  exact ⟨⟨_,h2⟩,_,h1⟩
 have hl:∀ x∈A.lists,∃ ds,lstM M x=some ds:=fun x hx=>by
  unfold BdA.lists at hx
  simp only [List.mem_cons,List.mem_map] at hx
  rcases hx with rfl | rfl | rfl | rfl | ⟨k,hk,rfl⟩
  ·exact ⟨_,h.ca⟩
  ·exact ⟨_,h.le⟩
  ·exact ⟨_,h.on⟩
  ·exact ⟨_,h.lo⟩
  ·exact (hc k hk).1
 refine ⟨hl,fun x hx=>?_⟩
 unfold BdA.foot at hx
 simp only [List.mem_cons,List.mem_append,List.mem_map] at hx
 rcases hx with rfl | rfl | hx | ⟨k,hk,rfl⟩
 ·exact ⟨_,h.at_⟩
 ·exact ⟨_,jy h.nx⟩
 ·obtain ⟨ds,e⟩:=hl x hx
  exact ⟨_,aY e⟩
 ·exact (hc k hk).2
theorem az.notL (h:az a M A V) {x:Addr} (hx:M x=none):x ∉ A.lists:=fun z=>by
 obtain ⟨ds,e⟩:=h.dom.1 x z
 have:=aY e
 rw [hx] at this
 cases this
theorem az.notF (h:az a M A V) {x:Addr} (hx:M x=none):x ∉ A.foot:=fun z=>by
 obtain ⟨ds,e⟩:=h.dom.2 x z
 rw [hx] at e
 cases e
theorem az.addCall (h:az a M A V) (s:L3.Sub M M1) {p wy ad md:Addr} {c:ar} (hp:M p=none) (hw:M wy=none) (ha:M ad=none) (hm:M md=none) (h1:M1 p=some (.ins a.c_Call (bw c wy ad md))) (h2:lstM M1 wy=some (c.way.map D.str)) (h3:lstM M1 ad=some (c.at_.map D.str)) (h4:lstM M1 md=some (c.ms.map D.str)) (n1:ad ≠ wy) (n2:md ≠ wy) :
  az a (am M1 A.ca (.lst ((A.cs.map fun k=>D.ref k.p) ++ [.ref p]))) (A.add ⟨p,wy⟩) { V with calls:=V.calls ++ [c] }∧bL A M (A.add ⟨p,wy⟩) (am M1 A.ca (.lst ((A.cs.map fun k=>D.ref k.p) ++ [.ref p]))):=by
 have h':=h.sub s
 have kp:ck A.ca M1 (am M1 A.ca (.lst ((A.cs.map fun k=>D.ref k.p) ++ [.ref p]))):=.put
 obtain ⟨m1,m2,m3,m4,m5,m6,nw⟩:=h.ne
 have wL:wy ∉ A.lists:=h.notL hw
 have cL:=h.inL.1
 have nl':∀ x,x ∉ A.lists→x ≠ wy→x ∉ (A.add ⟨p,wy⟩).lists:=fun x h1 h2=>by
  rw [jV,List.mem_append,List.mem_singleton]
  rintro (z | z)
  ·exact h1 z
  ·exact h2 z
 have old:∀ x c,M x=some c→x ≠ wy:=fun x c e z=>by rw [z,hw] at e; cases e
 refine ⟨⟨kp _ _ (Ne.symm (aG h'.ca h'.at_)) h'.at_,?_,kp.lst (Ne.symm m1) h'.le,kp.dk (eD h'.nx h'.ca) h'.nx,kp.lst (Ne.symm m2) h'.on,kp.lst (Ne.symm m3) h'.lo,?_,fun i k d e1 e2=>?_,?_,?_⟩,fun x d n e=>kp x d (fun z=>n (z ▸ A.in_foot.2.2.1)) (s x d e),fun x hx=>?_,fun i k e=>by show (A.cs ++ [(⟨p,wy⟩:bD)])[i]?=some k; rw [List.getElem?_append_left (List.getElem?_eq_some_iff.mp e).1]; exact e⟩
 ·show lstM _ A.ca=some ((A.cs ++ [(⟨p,wy⟩:bD)]).map fun k=>D.ref k.p)
  rw [List.map_append]
  exact av
 ·show (A.cs ++ [(⟨p,wy⟩:bD)]).length=(V.calls ++ [c]).length
  rw [List.length_append,List.length_append,h.len]
  rfl
 ·have e1:(A.cs ++ [(⟨p,wy⟩:bD)])[i]?=some k:=e1
  have e2:(V.calls ++ [c])[i]?=some d:=e2
  by_cases hi:i < A.cs.length
  ·rw [List.getElem?_append_left hi] at e1
   rw [List.getElem?_append_left (by rw [← h.len]; exact hi)] at e2
   obtain ⟨ad',md',g1,g2,g3,g4,g5,g6⟩:=(h.cs i k d e1 e2)
   refine ⟨ad',md',kp _ _ (fun z=>by have:=s _ _ g1; rw [z,aY h'.ca] at this; cases this) (s _ _ g1),kp.lst (nw k (aZ e1)).1 (s.lst g2),kp.lst (fun z=>g5 (z ▸ cL)) (s.lst g3),kp.lst (fun z=>g6 (z ▸ cL)) (s.lst g4),nl' _ g5 (old _ _ (aY g3)),nl' _ g6 (old _ _ (aY g4))⟩
  ·have hi':i=A.cs.length:=by
    have:=(List.getElem?_eq_some_iff.mp e1).1
    rw [List.length_append,List.length_singleton] at this
    omega
   subst hi'
   rw [List.getElem?_append_right (Nat.le_refl _)] at e1
   rw [h.len,List.getElem?_append_right (Nat.le_refl _)] at e2
   simp only [Nat.sub_self,List.getElem?_cons_zero,Option.some.injEq] at e1 e2
   subst e1 e2
   have q1:p ≠ A.ca:=fun z=>by rw [z,aY h'.ca] at h1; cases h1
   have q2:wy ≠ A.ca:=fun z=>wL (z ▸ cL)
   exact ⟨ad,md,kp p _ q1 h1,kp.lst (a:=wy) q2 h2,kp.lst (fun z=>h.notL ha (z ▸ cL)) h3,kp.lst (fun z=>h.notL hm (z ▸ cL)) h4,nl' _ (h.notL ha) n1,nl' _ (h.notL hm) n2⟩
 ·rw [jV]
  refine List.nodup_append.mpr ⟨h.nl,List.nodup_cons.mpr ⟨List.not_mem_nil,List.nodup_nil⟩,fun x hx y hy=>?_⟩
  rw [List.mem_singleton] at hy
  subst hy
  exact fun z=>wL (z ▸ hx)
 ·show (A.b :: (A.cs ++ [(⟨p,wy⟩:bD)]).map (·.p)).Nodup
  rw [List.map_append,← List.cons_append]
  refine List.nodup_append.mpr ⟨h.np,List.nodup_cons.mpr ⟨List.not_mem_nil,List.nodup_nil⟩,fun x hx y hy=>?_⟩
  rw [List.map_cons,List.map_nil,List.mem_singleton] at hy
  subst hy
  refine fun z=>h.notF hp (z ▸ ?_)
  rcases List.mem_cons.mp hx with y | y
  ·rw [y]; exact A.in_foot.1
  ·obtain ⟨k,hk,rfl⟩:=List.mem_map.mp y
   exact A.in_foot.2.2.2.2.2.1 k hk
 ·unfold BdA.foot at hx
  rw [jV] at hx
  have hx:x∈A.b :: A.nx :: (A.lists ++ [wy] ++ (A.cs ++ [(⟨p,wy⟩:bD)]).map (·.p)):=hx
  simp only [List.mem_cons,List.mem_append,List.map_append,List.map_cons,List.map_nil,List.not_mem_nil,or_false] at hx
  unfold BdA.foot
  simp only [List.mem_cons,List.mem_append]
  rcases hx with z | z | (z | z) | (z | z)
  ·exact .inl (.inl z)
  ·exact .inl (.inr (.inl z))
  ·exact .inl (.inr (.inr (.inl z)))
  ·exact .inr (by rw [z]; exact hw)
  ·exact .inl (.inr (.inr (.inr z)))
  ·exact .inr (by rw [z]; exact hp)
end
end Z
namespace Z
open PySem PySem.Spec PyProof.Rows L2 L3
theorem qq (x:D) (l:List D):atI (x :: l) 0=some x:=by
 unfold atI
 have:ixN (x :: l).length 0=some 0:=by
  unfold ixN
  rw [List.length_cons]
  simp
 rw [this]
 rfl
def hasS (ss:List Str) (x:Str):Bool:=ss.any (· == x)
def ar.talksB (c:ar) (x:Str):Bool:=(c.st == "talks") && hasS c.ms x
def ar.hasB (c:ar) (x:Str):Bool:=if (c.st == "rings")=true then (x == c.cr) || hasS c.at_ x else if (c.st == "waits")=true then x == c.cr else (c.st == "talks" || c.st == "held") && hasS c.ms x
def ar.bindsB (c:ar) (x:Str):Bool:=if (c.st == "held")=true then hasS c.ms x && !((c.hd == some x)) else c.talksB x
def ar.triedB (c:ar) (x:Str):Bool:=(c.st == "rings" || c.st == "waits") && (x == c.cr)
def ar.waitsB (c:ar) (x:Str):Bool:=(c.st == "waits") && hasS c.at_ x
def ar.leaveB (c:ar) (x:Str):Bool:=c.triedB x || (hasS c.at_ x || hasS c.ms x)
def ar.pairsB (c:ar) (x:Str):Bool:=c.talksB x && (c.ms.length == 2)
def iS (f:ar→Str→Bool) (a:Ad):Sp3:=fun ds M Q=>∃ L k c x,ds=[.ref k.p,.str x]∧bQ a M L k c∧Q (.bl (f c x)) M
abbrev rB:=iS ar.hasB
abbrev jx:=iS ar.talksB
abbrev pF:=iS ar.bindsB
abbrev iD:=iS ar.triedB
abbrev jt:=iS ar.waitsB
abbrev pc:=iS ar.pairsB
abbrev gy:=iS ar.leaveB
def yO (x:Str):D→Bool
 | .str y=>!(y == x)
 | _=>false
def bC (ss:List Str) (x:Str):List Str:=ss.filter fun y=>!(y == x)
def ja (a:Ad):Sp3:=fun ds M Q=>∃ L k c x y r,ds=[.ref k.p,.str x]∧bQ a M L k c∧c.ms.length≤100∧bC c.ms x=y :: r∧Q (.str y) M
theorem lL (ss:List Str) (x:Str):[] ++ (List.filter (yO x) (ss.map D.str)).map id=(bC ss x).map D.str:=by
 rw [List.nil_append,List.map_id,List.filter_map]
 rfl
theorem ku {M:Mp} {k:Addr} {ks:List Str} {c:Str} {K:DK} (hk:lstM M k=some (ks.map D.str)) (h:K (.bl (hasS ks c)) M):inQ false (.str c) (.ref k) M K:=by
 refine af hk ⟨rfl,bt ks,?_⟩
 show K (.bl (inD (.str c) (ks.map D.str))) M
 rw [dj]
 exact h
theorem in2 (w x y:Str):inD (.str w) [.str x,.str y]=(w == x || w == y):=by
 rw [show [D.str x,D.str y]=[x,y].map D.str from rfl,dj,Bool.eq_iff_iff]
 simp only [List.any_cons,List.any_nil,Bool.or_false,Bool.or_eq_true,beq_iff_eq]
 exact ⟨fun h=>h.imp Eq.symm Eq.symm,fun h=>h.imp Eq.symm Eq.symm⟩
section
variable {P:Program} {w:World} {K:PySem.W.Frag} {mg:Str→Option Value} {base:Heap} {a:Ad}
theorem AW (G:Gl K mg a):Fq P w K mg base 1 a.Call_has (rB a):=by
 refine aX G.Call_has.toDG qE (fun ds M Q h=>?_) (fun cdv A outer s H E hr=>⟨_,(ah (aF (au (hu9 hr) (ap (aa 0 (pv 0))) ao)
 (ai (aw (uh (ba (hu9 hr) (aa 1 (pv 1)) (ap (aa 0 (pv 0)))) (cV (ba (hu9 hr) (aa 1 (pv 1)) (ap (aa 0 (pv 0))))))))
 ay)
 (ah (aF (au (hu9 hr) (ap (aa 0 (pv 0))) ao)
 (ai (aw (ba (hu9 hr) (aa 1 (pv 1)) (ap (aa 0 (pv 0))))))
 ay)
 (ai (aw (dB (ba (hu9 hr) (ap (aa 0 (pv 0))) (aI (ae ao (ae ao ag)))) (cV (ba (hu9 hr) (aa 1 (pv 1)) (ap (aa 0 (pv 0)))))))))),?_⟩)
 ·obtain ⟨L,k,c,x,rfl,_⟩:=h
  rfl
 ·rintro ds M Q ⟨L,k,c,x,rfl,⟨ad,md,h1,h2,h3,h4,_⟩,q⟩
  unfold ar.hasB at q
  refine aj h1 (af rfl ?_)
  refine bo (c:=c.st == "rings") (fun g=>?_) (fun g=>?_)
  ·rw [if_pos g] at q
   refine aj h1 (af rfl (bo (c:=x == c.cr) (fun g2=>?_) (fun g2=>?_)))
   ·rw [g2] at q
    exact ⟨M,.refl,q⟩
   ·rw [show (x == c.cr)=false from Bool.eq_false_iff.mpr g2,Bool.false_or] at q
    exact aj h1 (af rfl (ku h3 ⟨M,.refl,q⟩))
  ·rw [if_neg g] at q
   refine aj h1 (af rfl ?_)
   refine bo (c:=c.st == "waits") (fun g2=>?_) (fun g2=>?_)
   ·rw [if_pos g2] at q
    exact aj h1 (af rfl ⟨M,.refl,q⟩)
   ·rw [if_neg g2] at q
    refine aj h1 (af rfl ⟨few rfl,rfl,rfl,?_⟩)
    show if inD (.str c.st) [.str "talks",.str "held"]=true then _ else _
    rw [in2]
    refine bo (fun g3=>?_) (fun g3=>?_)
    ·rw [g3,Bool.true_and] at q
     exact aj h1 (af rfl (ku h4 ⟨M,.refl,q⟩))
    ·rw [show (c.st == "talks" || c.st == "held")=false from Bool.eq_false_iff.mpr g3,Bool.false_and] at q
     exact ⟨M,.refl,q⟩
theorem ft (G:Gl K mg a):Fq P w K mg base 1 a.Call_talks_with (jx a):=by
 refine aX G.Call_talks_with.toDG iT (fun ds M Q h=>?_) (fun cdv A outer s H E hr=>⟨_,(ai (aw (dB (ba (hu9 hr) (ap (aa 0 (pv 0))) ao) (cV (ba (hu9 hr) (aa 1 (pv 1)) (ap (aa 0 (pv 0)))))))),?_⟩)
 ·obtain ⟨L,k,c,x,rfl,_⟩:=h
  rfl
 ·rintro ds M Q ⟨L,k,c,x,rfl,⟨ad,md,h1,h2,h3,h4,_⟩,q⟩
  unfold ar.talksB at q
  refine aj h1 (af rfl (bo (c:=c.st == "talks") (fun g=>?_) (fun g=>?_)))
  ·rw [g,Bool.true_and] at q
   exact aj h1 (af rfl (ku h4 ⟨M,.refl,q⟩))
  ·rw [show (c.st == "talks")=false from Bool.eq_false_iff.mpr g,Bool.false_and] at q
   exact ⟨M,.refl,q⟩
theorem wj (G:Gl K mg a):Fq P w K mg base 2 a.Call_binds (pF a):=by
 have C_Call_talks_with:=ft (P:=P) (w:=w) (base:=base) G
 refine aX G.Call_binds.toDG mS (fun ds M Q h=>?_) (fun cdv A outer s H E hr=>⟨_,(ah (aF (au (hu9 hr) (ap (aa 0 (pv 0))) ao)
 (ai (aw (dB (ba (hu9 hr) (aa 1 (pv 1)) (ap (aa 0 (pv 0)))) (cV (ba (hu9 hr) (aa 1 (pv 1)) (ap (aa 0 (pv 0))))))))
 ay)
 (ai (aw (aJ (aa 0 (pv 0)) G.c_Call.toCls G.Call_talks_with C_Call_talks_with hr (ae (aa 1 (pv 1)) ag))))),?_⟩)
 ·obtain ⟨L,k,c,x,rfl,_⟩:=h
  rfl
 ·rintro ds M Q ⟨L,k,c,x,rfl,hc,q⟩
  obtain ⟨ad,md,h1,h2,h3,h4,_⟩:=id hc
  unfold ar.bindsB at q
  refine aj h1 (af rfl ?_)
  refine bo (c:=c.st == "held") (fun g=>?_) (fun g=>?_)
  ·rw [if_pos g] at q
   refine aj h1 (af rfl (af h4 ⟨rfl,bt c.ms,?_⟩))
   show if inD (.str x) (c.ms.map D.str)=true then _ else _
   rw [dj]
   refine bo (c:=hasS c.ms x) (fun g2=>?_) (fun g2=>?_)
   ·rw [g2,Bool.true_and] at q
    refine aj h1 (af rfl ?_)
    cases e:c.hd with
    | none =>
     rw [e] at q
     exact ⟨M,.refl,q⟩
    | some y =>
     rw [e] at q
     refine ⟨M,.refl,?_⟩
     rw [show (!(some y == some x))=!(x == y) from by
      show (!(y == x))=_
      rw [Bool.beq_comm]] at q
     exact q
   ·rw [show hasS c.ms x=false from Bool.eq_false_iff.mpr g2,Bool.false_and] at q
    exact ⟨M,.refl,q⟩
  ·rw [if_neg g] at q
   exact aj h1 ⟨rfl,_,⟨rfl,rfl⟩,L,k,c,x,rfl,hc,M,.refl,q⟩
theorem me (G:Gl K mg a):Fq P w K mg base 1 a.Call_is_tried_by (iD a):=by
 refine aX G.Call_is_tried_by.toDG ic (fun ds M Q h=>?_) (fun cdv A outer s H E hr=>⟨_,(ai (aw (dB (ba (hu9 hr) (ap (aa 0 (pv 0))) (aI (ae ao (ae ao ag)))) (cV (ba (hu9 hr) (aa 1 (pv 1)) (ap (aa 0 (pv 0)))))))),?_⟩)
 ·obtain ⟨L,k,c,x,rfl,_⟩:=h
  rfl
 ·rintro ds M Q ⟨L,k,c,x,rfl,⟨ad,md,h1,h2,h3,h4,_⟩,q⟩
  unfold ar.triedB at q
  refine aj h1 (af rfl ⟨few rfl,rfl,rfl,?_⟩)
  show if inD (.str c.st) [.str "rings",.str "waits"]=true then _ else _
  rw [in2]
  refine bo (fun g3=>?_) (fun g3=>?_)
  ·rw [g3,Bool.true_and] at q
   exact aj h1 (af rfl ⟨M,.refl,q⟩)
  ·rw [show (c.st == "rings" || c.st == "waits")=false from Bool.eq_false_iff.mpr g3,Bool.false_and] at q
   exact ⟨M,.refl,q⟩
theorem vW (G:Gl K mg a):Fq P w K mg base 1 a.Call_waits_with (jt a):=by
 refine aX G.Call_waits_with.toDG iI (fun ds M Q h=>?_) (fun cdv A outer s H E hr=>⟨_,(ai (aw (dB (ba (hu9 hr) (ap (aa 0 (pv 0))) ao) (cV (ba (hu9 hr) (aa 1 (pv 1)) (ap (aa 0 (pv 0)))))))),?_⟩)
 ·obtain ⟨L,k,c,x,rfl,_⟩:=h
  rfl
 ·rintro ds M Q ⟨L,k,c,x,rfl,⟨ad,md,h1,h2,h3,h4,_⟩,q⟩
  unfold ar.waitsB at q
  refine aj h1 (af rfl (bo (c:=c.st == "waits") (fun g=>?_) (fun g=>?_)))
  ·rw [g,Bool.true_and] at q
   exact aj h1 (af rfl (ku h3 ⟨M,.refl,q⟩))
  ·rw [show (c.st == "waits")=false from Bool.eq_false_iff.mpr g,Bool.false_and] at q
   exact ⟨M,.refl,q⟩
theorem xp (G:Gl K mg a):Fq P w K mg base 2 a.Call_can_be_left_by (gy a):=by
 have C_Call_is_tried_by:=me (P:=P) (w:=w) (base:=base) G
 refine aX G.Call_can_be_left_by.toDG fQ (fun ds M Q h=>?_) (fun cdv A outer s H E hr=>⟨_,(ai (aw (uh (aJ (aa 0 (pv 0)) G.c_Call.toCls G.Call_is_tried_by C_Call_is_tried_by hr (ae (aa 1 (pv 1)) ag)) (uh (ba (hu9 hr) (aa 1 (pv 1)) (ap (aa 0 (pv 0)))) (cV (ba (hu9 hr) (aa 1 (pv 1)) (ap (aa 0 (pv 0))))))))),?_⟩)
 ·obtain ⟨L,k,c,x,rfl,_⟩:=h
  rfl
 ·rintro ds M Q ⟨L,k,c,x,rfl,hc,q⟩
  obtain ⟨ad,md,h1,h2,h3,h4,_⟩:=id hc
  unfold ar.leaveB at q
  refine aj h1 ⟨rfl,_,⟨rfl,rfl⟩,L,k,c,x,rfl,hc,bo (c:=c.triedB x) (fun g=>?_) (fun g=>?_)⟩
  ·rw [g] at q
   exact ⟨M,.refl,q⟩
  ·rw [show c.triedB x=false from Bool.eq_false_iff.mpr g,Bool.false_or] at q
   refine aj h1 (af rfl (af h3 ⟨rfl,bt c.at_,?_⟩))
   show if inD (.str x) (c.at_.map D.str)=true then _ else _
   rw [dj]
   refine bo (c:=hasS c.at_ x) (fun g2=>?_) (fun g2=>?_)
   ·rw [g2] at q
    exact ⟨M,.refl,q⟩
   ·rw [show hasS c.at_ x=false from Bool.eq_false_iff.mpr g2,Bool.false_or] at q
    exact aj h1 (af rfl (ku h4 ⟨M,.refl,q⟩))
theorem xO (G:Gl K mg a):Fq P w K mg base 2 a.Call_pairs (pc a):=by
 have C_Call_talks_with:=ft (P:=P) (w:=w) (base:=base) G
 refine aX G.Call_pairs.toDG nv (fun ds M Q h=>?_) (fun cdv A outer s H E hr=>⟨_,(ai (aw (dB (aJ (aa 0 (pv 0)) G.c_Call.toCls G.Call_talks_with C_Call_talks_with hr (ae (aa 1 (pv 1)) ag)) (cV (ba (hu9 hr) (aH bn rfl G.no_len bi (ae (ap (aa 0 (pv 0))) ag)) ak))))),?_⟩)
 ·obtain ⟨L,k,c,x,rfl,_⟩:=h
  rfl
 ·rintro ds M Q ⟨L,k,c,x,rfl,hc,q⟩
  obtain ⟨ad,md,h1,h2,h3,h4,_⟩:=id hc
  unfold ar.pairsB at q
  refine aj h1 ⟨rfl,_,⟨rfl,rfl⟩,L,k,c,x,rfl,hc,bo (c:=c.talksB x) (fun g=>?_) (fun g=>?_)⟩
  ·rw [g,Bool.true_and] at q
   refine aj h1 (af rfl (af h4 ⟨M,.refl,?_⟩))
   rw [List.length_map]
   have:(((c.ms.length:Nat):Int) == 2)=(c.ms.length == 2):=by
    rw [Bool.eq_iff_iff,beq_iff_eq,beq_iff_eq]
    omega
   show Q (.bl (((c.ms.length:Nat):Int) == 2)) M
   rw [this]
   exact q
  ·rw [show c.talksB x=false from Bool.eq_false_iff.mpr g,Bool.false_and] at q
   exact ⟨M,.refl,q⟩
theorem wu (G:Gl K mg a):Fq P w K mg base 1 a.Call_other_than (ja a):=by
 refine aX G.Call_other_than.toDG iW (fun ds M Q h=>?_) (fun cdv A outer s H E hr=>⟨_,(ai (aw (aA (be rfl (bH (ix:=[none,some 1]) (N':=["member","phone"]) (by kernel_rfl)) (aV (ap (aa 0 (pv 0)))) (fun C s0 H0 ex=>(aB (i:=0) (show List.Nodup (["member","phone"]:List Str) by decide +kernel) rfl (Or.inl rfl))) (fun C s0 H0 ex=>(gz (au (hu9 hr) (aa 0 (pv 0)) (aa 1 (pv 1))))) (fun C s0 H0 ex=>(aa 0 (pv 0)))) ak))),?_⟩)
 ·obtain ⟨L,k,c,x,y,r,rfl,_⟩:=h
  rfl
 ·rintro ds M Q ⟨L,k,c,x,y,r,rfl,hc,hl,e,q⟩
  have hz:sizeLine=16777216:=sizeLine_eq
  obtain ⟨ad,md,h1,h2,h3,h4,_⟩:=id hc
  refine aj h1 (af rfl (af h4 (cX (f:=id) (t:=yO x) h4 _ [] _ (by rw [List.length_map]; simp only [List.length_nil]; omega) (fun d hd k0 hk=>?_) (fun d hd _ k0 hk=>?_) fun p hp=>?_)))
  ·obtain ⟨y,hy,rfl⟩:=List.mem_map.mp hd
   exact hk
  ·obtain ⟨y,hy,rfl⟩:=List.mem_map.mp hd
   exact hk
  rw [lL,e]
  exact af av (af (qq _ _) ⟨M,.new hp,q⟩)
end
end Z
namespace Z
open PySem PySem.Spec PyProof.Rows L2 L3
def l0 (V:BdV) (x:Str):Nat:=(V.calls.filter (·.hasB x)).length
def dX (l:aD) (V:BdV) (x:Str):Bool:=(l.phone x).elim false fun v=>decide ((l0 V x:Int) < v.2.1)
def cM (l:aD) (V:BdV) (c z:Str):List Str:=(l.phonesOf z).filter fun x=>!(x == c) && dX l V x
def eF (bs:List Bool):D:=match gW (.bl true) (bs.map D.bl) with
 | some j=>.int (j:Nat)
 | none=>.non
theorem oB (x:D):∀ ds:List D,(gW x ds).isSome=ds.any fun d=>eqF d x
 | []=>rfl
 | d :: r=>by
  unfold gW
  rw [List.any_cons]
  by_cases h:eqF d x=true
  ·rw [if_pos h,h]
   rfl
  ·rw [if_neg h,Option.isSome_map,oB x r,show eqF d x=false from Bool.eq_false_iff.mpr h,Bool.false_or]
theorem mo:∀ bs:List Bool,(bs.map D.bl).all d3=true
 | []=>rfl
 | _ :: r=>by
  rw [List.map_cons,List.all_cons,mo r]
  rfl
def wx:Sp3:=fun ds M Q=>∃ r bs,ds=[.ref r]∧lstM M r=some (List.map D.bl bs)∧Q (eF bs) M
def pB (a:Ad):Sp3:=fun ds M Q=>∃ A V x,ds=[.ref A.b,.str x]∧az a M A V∧V.calls.length≤10000∧Q (.int (l0 V x:Nat)) M
def mW (a:Ad):Sp3:=fun ds M Q=>∃ A V x,ds=[.ref A.b,.str x]∧az a M A V∧V.calls.length≤10000∧Q (eF (V.calls.map (·.bindsB x))) M
def gu (a:Ad):Sp3:=fun ds M Q=>∃ A V x,ds=[.ref A.b,.str x]∧az a M A V∧V.calls.length≤10000∧Q (eF (V.calls.map (·.talksB x))) M
def kz (a:Ad):Sp3:=fun ds M Q=>∃ A V x,ds=[.ref A.b,.str x]∧az a M A V∧V.calls.length≤10000∧Q (eF (V.calls.map (·.triedB x))) M
def kC (a:Ad):Sp3:=fun ds M Q=>∃ A V x v l,ds=[.ref A.b,.str x]∧az a M A V∧V.calls.length≤10000∧bW a M V.p l∧l.phone x=some v∧Q (.bl (dX l V x)) M
def jM (a:Ad):Sp3:=fun ds M Q=>∃ A V c z l,ds=[.ref A.b,.str c,.str z]∧az a M A V∧V.calls.length≤10000∧bW a M V.p l∧(∀ x∈l.phonesOf z,∃ v,l.phone x=some v)∧(l.phonesOf z).length≤100∧∀ q M',L3.Sub M M'→M q=none→lstM M' q=some ((cM l V c z).map D.str)→Q (.ref q) M'
theorem fR {a:Ad} {M:Mp} {A:BdA} {V:BdV} (h:az a M A V) {pre post:List D} {d:D} (e:pre ++ d :: post=A.cs.map fun k=>D.ref k.p):∃ k c,A.cs[pre.length]?=some k∧V.calls[pre.length]?=some c∧d=.ref k.p∧bQ a M A.lists k c∧V.calls.take (pre.length + 1)=V.calls.take pre.length ++ [c]:=by
 have h1:(A.cs.map fun k=>D.ref k.p)[pre.length]?=some d:=by rw [← e]; simp
 rw [List.getElem?_map] at h1
 cases z:A.cs[pre.length]? with
 | none=>rw [z] at h1; cases h1
 | some k =>
  rw [z] at h1
  have hi:pre.length < V.calls.length:=by rw [← h.len]; exact (List.getElem?_eq_some_iff.mp z).1
  have e2:V.calls[pre.length]?=some V.calls[pre.length]:=List.getElem?_eq_getElem hi
  refine ⟨k,_,rfl,e2,(Option.some.inj h1).symm,h.cs _ _ _ z e2,?_⟩
  rw [List.take_add_one,e2]
  rfl
section
variable {P:Program} {w:World} {K:PySem.W.Frag} {mg:Str→Option Value} {base:Heap} {a:Ad}
theorem lU (G:Gl K mg a):Fq P w K mg base 1 a.place_of_true wx:=by
 refine aX G.place_of_true.toDG jR (fun ds M Q h=>?_) (fun cdv A outer s H E hr=>⟨_,(ah (aF (au (hu9 hr) eJ (aa 0 (pv 0)))
 (ai (aw (gM (aa 0 (pv 0)) (ae eJ ag))))
 ay)
 (ai (aw b9))),?_⟩)
 ·obtain ⟨r,bs,rfl,_⟩:=h
  rfl
 ·rintro ds M Q ⟨r,bs,rfl,hr,q⟩
  have ei:inD (.bl true) (bs.map D.bl)=(gW (.bl true) (bs.map D.bl)).isSome:=(oB _ _).symm
  unfold eF at q
  refine af hr ⟨rfl,mo bs,?_⟩
  show if inD (.bl true) (bs.map D.bl)=true then _ else _
  rw [ei]
  cases e:gW (.bl true) (bs.map D.bl) with
  | none =>
   rw [e] at q
   exact ⟨M,.refl,q⟩
  | some j =>
   rw [e] at q
   exact wv ⟨by show (lstM M r).isSome=true; rw [hr]; rfl,af hr ⟨rfl,mo bs,af e ⟨M,.refl,q⟩⟩⟩
theorem xX (G:Gl K mg a):Fq P w K mg base 2 a.Board_used (pB a):=by
 have C_Call_has:=AW (P:=P) (w:=w) (base:=base) G
 refine aX G.Board_used.toDG no (fun ds M Q h=>?_) (fun cdv A outer s H E hr=>⟨_,(ai (aw (aH bn rfl G.no_len bi (ae (be rfl (bH (ix:=[none,some 1]) (N':=["call","phone"]) (by kernel_rfl)) (aV (ap (aa 0 (pv 0)))) (fun C s0 H0 ex=>(aB (i:=0) (show List.Nodup (["call","phone"]:List Str) by decide +kernel) rfl (Or.inl rfl))) (fun C s0 H0 ex=>(gz (e9 (aJ (aa 0 (pv 0)) G.c_Call.toCls G.Call_has C_Call_has hr (ae (aa 1 (pv 1)) ag))))) (fun C s0 H0 ex=>(aa 0 (pv 0)))) ag)))),?_⟩)
 ·obtain ⟨A,V,x,rfl,_⟩:=h
  rfl
 ·rintro ds M Q ⟨A,V,x,rfl,bd,h1000,q⟩
  have hz:sizeLine=16777216:=sizeLine_eq
  refine aj bd.at_ (af rfl (af bd.ca ?_))
  refine gZ (A.cs.map fun k=>D.ref k.p) (fun pre acc δ M'=>M=M'∧acc.length=((V.calls.take pre.length).filter (·.hasB x)).length∧∃ y,δ=[y,some (.str x)]) (fun _ _ _ M' j=>by rw [← j.1]; exact bd.ca) _ [] [] _ _ rfl ?_ ⟨rfl,rfl,none,rfl⟩ ?_ ?_
  ·rw [List.length_map,bd.len]
   simp only [List.length_nil]
   omega
  ·rintro pre d post e acc δ M' ⟨rfl,ha,y,rfl⟩ k k2 hk hk2
   obtain ⟨ka,c,e1,e2,rfl,hc,et⟩:=fR bd e
   rw [List.length_append,List.length_singleton,et,List.filter_append] at hk hk2
   have hcc:=hc
   obtain ⟨_,_,g1,_⟩:=hcc
   refine aj g1 ⟨rfl,_,⟨rfl,rfl⟩,_,ka,c,x,rfl,hc,?_⟩
   refine bo (c:=c.hasB x) (fun g=>?_) (fun g=>?_)
   ·refine hk _ _ _ ⟨rfl,?_,_,rfl⟩
    rw [List.length_append,List.length_append,ha,List.filter_cons_of_pos (by exact g)]
    rfl
   ·refine hk2 _ _ ⟨rfl,?_,_,rfl⟩
    rw [List.length_append,ha,List.filter_cons_of_neg (by exact g)]
    rfl
  ·rintro acc δ M' ⟨rfl,ha,y,rfl⟩ p hp
   refine af av ⟨M,.new hp,?_⟩
   rw [List.length_map,bd.len,List.take_length] at ha
   rw [ha]
   exact q
theorem vw (G:Gl K mg a):Fq P w K mg base 3 a.Board_bound (mW a):=by
 have C_Call_binds:=wj (P:=P) (w:=w) (base:=base) G
 have C_place_of_true:=lU (P:=P) (w:=w) (base:=base) G
 refine aX G.Board_bound.toDG lj (fun ds M Q h=>?_) (fun cdv A outer s H E hr=>⟨_,(ai (aw (ax C_place_of_true hr G.place_of_true (ae (be rfl (bH (ix:=[none,some 1]) (N':=["call","phone"]) (by kernel_rfl)) (aV (ap (aa 0 (pv 0)))) (fun C s0 H0 ex=>(aB (i:=0) (show List.Nodup (["call","phone"]:List Str) by decide +kernel) rfl (Or.inl rfl))) (fun C s0 H0 ex=>bK) (fun C s0 H0 ex=>(aJ (aa 0 (pv 0)) G.c_Call.toCls G.Call_binds C_Call_binds hr (ae (aa 1 (pv 1)) ag)))) ag)))),?_⟩)
 ·obtain ⟨A,V,x,rfl,_⟩:=h
  rfl
 ·rintro ds M Q ⟨A,V,x,rfl,bd,h1000,q⟩
  have hz:sizeLine=16777216:=sizeLine_eq
  refine aj bd.at_ (af rfl (af bd.ca ?_))
  refine jq (A.cs.map fun k=>D.ref k.p) (fun pre acc δ M'=>M=M'∧acc=((V.calls.take pre.length).map (·.bindsB x)).map D.bl∧∃ y,δ=[y,some (.str x)]) (fun _ _ _ M' j=>by rw [← j.1]; exact bd.ca) _ [] [] _ _ rfl ?_ ⟨rfl,rfl,none,rfl⟩ ?_ ?_
  ·rw [List.length_map,bd.len]
   simp only [List.length_nil]
   omega
  ·rintro pre d post e acc δ M' ⟨rfl,rfl,y,rfl⟩ k hk
   obtain ⟨ka,c,e1,e2,rfl,hc,et⟩:=fR bd e
   have hcc:=hc
   obtain ⟨_,_,g1,_⟩:=hcc
   refine aj g1 ⟨rfl,_,⟨rfl,rfl⟩,_,ka,c,x,rfl,hc,hk _ _ _ ⟨rfl,?_,_,rfl⟩⟩
   rw [List.length_append,List.length_singleton,et,List.map_append,List.map_append]
   rfl
  ·rintro acc δ M' ⟨rfl,rfl,y,rfl⟩ p hp
   rw [List.length_map,bd.len,List.take_length]
   exact ⟨p,_,rfl,av,M,.new hp,q⟩
theorem r9 (G:Gl K mg a):Fq P w K mg base 3 a.Board_calling (kz a):=by
 have C_Call_is_tried_by:=me (P:=P) (w:=w) (base:=base) G
 have C_place_of_true:=lU (P:=P) (w:=w) (base:=base) G
 refine aX G.Board_calling.toDG jN (fun ds M Q h=>?_) (fun cdv A outer s H E hr=>⟨_,(ai (aw (ax C_place_of_true hr G.place_of_true (ae (be rfl (bH (ix:=[none,some 1]) (N':=["call","phone"]) (by kernel_rfl)) (aV (ap (aa 0 (pv 0)))) (fun C s0 H0 ex=>(aB (i:=0) (show List.Nodup (["call","phone"]:List Str) by decide +kernel) rfl (Or.inl rfl))) (fun C s0 H0 ex=>bK) (fun C s0 H0 ex=>(aJ (aa 0 (pv 0)) G.c_Call.toCls G.Call_is_tried_by C_Call_is_tried_by hr (ae (aa 1 (pv 1)) ag)))) ag)))),?_⟩)
 ·obtain ⟨A,V,x,rfl,_⟩:=h
  rfl
 ·rintro ds M Q ⟨A,V,x,rfl,bd,h1000,q⟩
  have hz:sizeLine=16777216:=sizeLine_eq
  refine aj bd.at_ (af rfl (af bd.ca ?_))
  refine jq (A.cs.map fun k=>D.ref k.p) (fun pre acc δ M'=>M=M'∧acc=((V.calls.take pre.length).map (·.triedB x)).map D.bl∧∃ y,δ=[y,some (.str x)]) (fun _ _ _ M' j=>by rw [← j.1]; exact bd.ca) _ [] [] _ _ rfl ?_ ⟨rfl,rfl,none,rfl⟩ ?_ ?_
  ·rw [List.length_map,bd.len]
   simp only [List.length_nil]
   omega
  ·rintro pre d post e acc δ M' ⟨rfl,rfl,y,rfl⟩ k hk
   obtain ⟨ka,c,e1,e2,rfl,hc,et⟩:=fR bd e
   have hcc:=hc
   obtain ⟨_,_,g1,_⟩:=hcc
   refine aj g1 ⟨rfl,_,⟨rfl,rfl⟩,_,ka,c,x,rfl,hc,hk _ _ _ ⟨rfl,?_,_,rfl⟩⟩
   rw [List.length_append,List.length_singleton,et,List.map_append,List.map_append]
   rfl
  ·rintro acc δ M' ⟨rfl,rfl,y,rfl⟩ p hp
   rw [List.length_map,bd.len,List.take_length]
   exact ⟨p,_,rfl,av,M,.new hp,q⟩
theorem lM (G:Gl K mg a):Fq P w K mg base 3 a.Board_talk_of (gu a):=by
 have C_Call_talks_with:=ft (P:=P) (w:=w) (base:=base) G
 have C_place_of_true:=lU (P:=P) (w:=w) (base:=base) G
 refine aX G.Board_talk_of.toDG jP (fun ds M Q h=>?_) (fun cdv A outer s H E hr=>⟨_,(ai (aw (ax C_place_of_true hr G.place_of_true (ae (be rfl (bH (ix:=[none,some 1]) (N':=["call","phone"]) (by kernel_rfl)) (aV (ap (aa 0 (pv 0)))) (fun C s0 H0 ex=>(aB (i:=0) (show List.Nodup (["call","phone"]:List Str) by decide +kernel) rfl (Or.inl rfl))) (fun C s0 H0 ex=>bK) (fun C s0 H0 ex=>(aJ (aa 0 (pv 0)) G.c_Call.toCls G.Call_talks_with C_Call_talks_with hr (ae (aa 1 (pv 1)) ag)))) ag)))),?_⟩)
 ·obtain ⟨A,V,x,rfl,_⟩:=h
  rfl
 ·rintro ds M Q ⟨A,V,x,rfl,bd,h1000,q⟩
  have hz:sizeLine=16777216:=sizeLine_eq
  refine aj bd.at_ (af rfl (af bd.ca ?_))
  refine jq (A.cs.map fun k=>D.ref k.p) (fun pre acc δ M'=>M=M'∧acc=((V.calls.take pre.length).map (·.talksB x)).map D.bl∧∃ y,δ=[y,some (.str x)]) (fun _ _ _ M' j=>by rw [← j.1]; exact bd.ca) _ [] [] _ _ rfl ?_ ⟨rfl,rfl,none,rfl⟩ ?_ ?_
  ·rw [List.length_map,bd.len]
   simp only [List.length_nil]
   omega
  ·rintro pre d post e acc δ M' ⟨rfl,rfl,y,rfl⟩ k hk
   obtain ⟨ka,c,e1,e2,rfl,hc,et⟩:=fR bd e
   have hcc:=hc
   obtain ⟨_,_,g1,_⟩:=hcc
   refine aj g1 ⟨rfl,_,⟨rfl,rfl⟩,_,ka,c,x,rfl,hc,hk _ _ _ ⟨rfl,?_,_,rfl⟩⟩
   rw [List.length_append,List.length_singleton,et,List.map_append,List.map_append]
   rfl
  ·rintro acc δ M' ⟨rfl,rfl,y,rfl⟩ p hp
   rw [List.length_map,bd.len,List.take_length]
   exact ⟨p,_,rfl,av,M,.new hp,q⟩
theorem iR (G:Gl K mg a):Fq P w K mg base 3 a.Board_is_free (kC a):=by
 have C_Board_used:=xX (P:=P) (w:=w) (base:=base) G
 have C_Plan_lines:=mY (P:=P) (w:=w) (base:=base) G
 refine aX G.Board_is_free.toDG jK (fun ds M Q h=>?_) (fun cdv A outer s H E hr=>⟨_,(ai (aw (ba (hu9 hr) (aJ (aa 0 (pv 0)) G.c_Board.toCls G.Board_used C_Board_used hr (ae (aa 1 (pv 1)) ag)) (aJ (ap (aa 0 (pv 0))) G.c_Plan.toCls G.Plan_lines C_Plan_lines hr (ae (aa 1 (pv 1)) ag))))),?_⟩)
 ·obtain ⟨A,V,x,v,l,rfl,_⟩:=h
  rfl
 ·rintro ds M Q ⟨A,V,x,v,l,rfl,bd,h1000,pl,hv,q⟩
  have ip:=pl
  obtain ⟨ph,gr,ws,pon,pr,gd,i1,_⟩:=ip
  refine aj bd.at_ ⟨rfl,_,⟨rfl,rfl⟩,A,V,x,rfl,bd,h1000,?_⟩
  refine aj bd.at_ (af rfl (aj i1 ⟨rfl,_,⟨rfl,rfl⟩,V.p,x,v,l,rfl,pl,hv,?_⟩))
  have e:dX l V x=decide ((l0 V x:Int) < v.2.1):=by
   unfold dX
   rw [hv]
   rfl
  rw [e] at q
  exact ⟨M,.refl,q⟩
theorem ke (G:Gl K mg a):Fq P w K mg base 4 a.Board_ringable (jM a):=by
 have C_Board_is_free:=iR (P:=P) (w:=w) (base:=base) G
 have C_Plan_phones_of:=de (P:=P) (w:=w) (base:=base) G
 refine aX G.Board_ringable.toDG jI (fun ds M Q h=>?_) (fun cdv A outer s H E hr=>⟨_,(ai (aw (be rfl (bH (ix:=[none,some 1,some 0]) (N':=["phone","caller","self"]) (by kernel_rfl)) (aV (aJ (ap (aa 0 (pv 0))) G.c_Plan.toCls G.Plan_phones_of C_Plan_phones_of hr (ae (aa 2 (pv 2)) ag))) (fun C s0 H0 ex=>(aB (i:=0) (show List.Nodup (["phone","caller","self"]:List Str) by decide +kernel) rfl (Or.inl rfl))) (fun C s0 H0 ex=>(gz (W3.b3 (fv (au (hu9 hr) (aa 0 (pv 0)) (aa 1 (pv 1))) (d4 (e9 (aJ (aa 2 (pv 2)) G.c_Board.toCls G.Board_is_free C_Board_is_free hr (ae (aa 0 (pv 0)) ag)))))))) (fun C s0 H0 ex=>(aa 0 (pv 0)))))),?_⟩)
 ·obtain ⟨A,V,c,z,l,rfl,_⟩:=h
  rfl
 ·rintro ds M Q ⟨A,V,c,z,l,rfl,bd,h1000,pl,hph,h100,q⟩
  have ip:=pl
  obtain ⟨ph,gr,ws,pon,pr,gd,i1,_⟩:=ip
  refine aj bd.at_ (af rfl (aj i1 ⟨rfl,_,⟨rfl,rfl⟩,V.p,z,l,rfl,pl,fun q1 hq1=>af av ?_⟩))
  have s1:=L3.Sub.new (c:=.lst (List.map D.str (l.phonesOf z))) hq1
  have c1:lstM (am M q1 (.lst (List.map D.str (l.phonesOf z)))) q1=some (List.map D.str (l.phonesOf z)):=av
  generalize am M q1 (.lst (List.map D.str (l.phonesOf z)))=M1 at s1 c1 ⊢
  have hz:sizeLine=16777216:=sizeLine_eq
  have bd1:=bd.sub s1
  have pl1:=pl.sub s1
  refine cX (f:=id) (t:=fun d=>match d with | .str x=>!(x == c) && dX l V x | _=>false) c1 _ [] _ (by rw [List.length_map]; simp only [List.length_nil]; omega) (fun d hd k hk=>?_) (fun d hd _ k hk=>?_) fun q2 hq2=>?_
  ·obtain ⟨x,hx,rfl⟩:=List.mem_map.mp hd
   obtain ⟨v,hv⟩:=hph x hx
   have hk:k (!(x == c) && dX l V x) M1:=hk
   cases e:x == c with
   | true =>
    rw [e] at hk
    refine wN (c:=!(x == c)) (by rw [e]; rfl) hk
   | false =>
    rw [e] at hk
    refine rK (c:=!(x == c)) (by rw [e]; rfl) (aj bd1.at_ ⟨rfl,_,⟨rfl,rfl⟩,A,V,x,v,l,rfl,bd1,h1000,pl1,hv,hk⟩)
  ·obtain ⟨x,hx,rfl⟩:=List.mem_map.mp hd
   exact hk
  ·have ef:[] ++ (List.filter (fun d=>match d with | .str x=>!(x == c) && dX l V x | _=>false) ((l.phonesOf z).map D.str)).map id=(cM l V c z).map D.str:=by
    rw [List.nil_append,List.map_id,List.filter_map]
    rfl
   rw [ef]
   have t2:=L3.Sub.new (c:=.lst ((cM l V c z).map D.str)) hq2
   exact ⟨_,.refl,q q2 _ (s1.trans t2) (s1.none hq2) av⟩
end
end Z
namespace Z
open PySem PySem.Spec PyProof.Rows L2 L3
theorem sA (ds:List D) (m:Nat):L3.ie ds none (some (m:Int))=ds.take m:=by
 unfold L3.ie
 rw [HT.qD,HT.sY,List.drop_zero,Nat.sub_zero]
 by_cases h:m≤ds.length
 ·rw [Nat.min_eq_left h]
 ·rw [Nat.min_eq_right (by omega),List.take_length,List.take_of_length_le (by omega)]
theorem At (ds:List D) (m:Nat) (h:m≤ds.length):L3.ie ds (some (m:Int)) none=ds.drop m:=by
 unfold L3.ie
 rw [HT.qD,HT.sY,Nat.min_eq_left h]
 exact List.take_of_length_le (by rw [List.length_drop]; exact Nat.le_refl _)
def dQ (ms:List Str) (n:Nat):List Str:=ms.drop n ++ ms.take n
def iP (l:aD) (V:BdV) (z:Str) (n:Nat):Prop:=(l.manner z == "turns")=true→dR (bA V.ps) (.inr z)=some (.int (n:Nat))∧n≤(l.phonesOf z).length
def bx (l:aD) (V:BdV) (c z:Str) (n:Nat):List Str:=if (l.manner z == "turns")=true then ((dQ (l.phonesOf z) n).filter fun x=>hasS (cM l V c z) x).take 1 else cM l V c z
structure Tgt (l:aD) (z:Str):Prop where
 ph:∀ x∈l.phonesOf z,∃ v,l.phone x=some v
 few:(l.phonesOf z).length≤100
structure Rd (a:Ad) (M:Mp) (A:BdA) (V:BdV) (l:aD):Prop where
 bd:az a M A V
 k:V.calls.length≤10000
 pl:bW a M V.p l
theorem Rd.sub {a:Ad} {M M':Mp} {A:BdA} {V:BdV} {l:aD} (h:Rd a M A V l) (s:L3.Sub M M'):Rd a M' A V l:=⟨h.bd.sub s,h.k,h.pl.sub s⟩
def zb (l:aD) (V:BdV) (c z:Str) (n:Nat):D:=if bx l V c z n=[] then .tup [.str "engaged",.str z] else .tup [.str "rings",.str z,.tup ((bx l V c z n).map D.str)]
def sD (a:Ad):Sp3:=fun ds M Q=>∃ A V l x y,ds=[.ref A.b,x,y]∧Rd a M A V l∧Q (.tup []) M
def yP (a:Ad):Sp3:=fun ds M Q=>∃ A V l c z n,ds=[.ref A.b,.str c,.str z]∧Rd a M A V l∧Tgt l z∧iP l V z n∧Q (.tup ((bx l V c z n).map D.str)) M
def vF (a:Ad):Sp3:=fun ds M Q=>∃ A V l c z n,ds=[.ref A.b,.str c,.str z]∧Rd a M A V l∧Tgt l z∧iP l V z n∧Q (zb l V c z n) M
def xj (a:Ad):Sp3:=fun ds M Q=>∃ A V l c z n r,ds=[.ref A.b,.str c,.str z,.ref r]∧Rd a M A V l∧Tgt l z∧iP l V z n∧lstM M r=some []∧∀ q M',L3.Sub M M'→M q=none→lstM M' q=some [.tup [.str z,.tup []]]→Q (.tup [zb l V c z n,.ref q]) M'
section
variable {P:Program} {w:World} {K:PySem.W.Frag} {mg:Str→Option Value} {base:Heap} {a:Ad}
theorem rX (G:Gl K mg a):Fq P w K mg base 1 a.fitting (sD a):=by
 refine aX G.fitting.toDG lF (fun ds M Q h=>?_) (fun cdv A outer s H E hr=>⟨_,(ah (aE (i:=3) lF.nd rfl (Or.inr rfl) (ap (ap (aa 0 (pv 0)))))
 (ai (aw (aP bU rfl G.no_tuple bT (ae (be rfl (bH (ix:=[none,none,some 3,some 0,some 1,some 2]) (N':=["i","on","wishes","board","caller","target"]) (by kernel_rfl)) (jo rfl G.no_enumerate (ae (ap (aa 0 (pv 0))) ag)) (fun C s0 H0 ex=>(d9 (n:=2) rfl (aT (aB (i:=0) (show List.Nodup (["i","on","wishes","board","caller","target"]:List Str) by decide +kernel) rfl (Or.inl rfl)) (aT (aB (i:=1) (show List.Nodup (["i","on","wishes","board","caller","target"]:List Str) by decide +kernel) rfl (Or.inl rfl)) dm)))) (fun C s0 H0 ex=>wX) (fun C s0 H0 ex=>(aa 0 (pv 0)))) ag))))),?_⟩)
 ·obtain ⟨A,V,l,x,y,rfl,_⟩:=h
  rfl
 ·rintro ds M Q ⟨A,V,l,x,y,rfl,rd,q⟩
  obtain ⟨ph,gr,ws,pon,pr,gd,i1,_⟩:=rd.pl
  refine aj rd.bd.at_ (af rfl (aj i1 (af rfl ?_)))
  refine aj rd.bd.at_ (af rfl (af rd.bd.on ?_))
  exact ⟨Nat.zero_le _,fun p hp=>af av ⟨M,.new hp,q⟩⟩
theorem y0 (G:Gl K mg a):Fq P w K mg base 5 a.rung_phones (yP a):=by
 have C_Board_ringable:=ke (P:=P) (w:=w) (base:=base) G
 have C_Plan_manner:=gX (P:=P) (w:=w) (base:=base) G
 have C_Plan_phones_of:=de (P:=P) (w:=w) (base:=base) G
 refine aX G.rung_phones.toDG cy (fun ds M Q h=>?_) (fun cdv A outer s H E hr=>⟨_,(ah (aE (i:=3) cy.nd rfl (Or.inr rfl) (aJ (aa 0 (pv 0)) G.c_Board.toCls G.Board_ringable C_Board_ringable hr (ae (aa 1 (pv 1)) (ae (aa 2 (pv 2)) ag))))
 (ah (aF (au (hu9 hr) (aJ (ap (aa 0 (pv 0))) G.c_Plan.toCls G.Plan_manner C_Plan_manner hr (ae (aa 2 (pv 2)) ag)) ao)
 (ai (aw (aP bU rfl G.no_tuple bT (ae (aa 3 (pv 3)) ag))))
 ay)
 (ah (aE (i:=4) cy.nd rfl (Or.inl rfl) (aJ (ap (aa 0 (pv 0))) G.c_Plan.toCls G.Plan_phones_of C_Plan_phones_of hr (ae (aa 2 (pv 2)) ag)))
 (ah (aE (i:=5) cy.nd rfl (Or.inl rfl) (fU (hu9 hr) (ap (aa 0 (pv 0))) (aa 2 (pv 2))))
 (ah (fT (i:=6) cy.nd rfl (Or.inl rfl) rfl (bH (ix:=[none,some 3]) (N':=["phone","free"]) (by kernel_rfl)) (aV (aS (cq (aa 4 (pv 4)) (di (aa 5 (pv 5))) cY) (cq (aa 4 (pv 4)) cY (di (aa 5 (pv 5)))))) (fun C s0 H0 ex=>(aB (i:=0) (show List.Nodup (["phone","free"]:List Str) by decide +kernel) rfl (Or.inl rfl))) (fun C s0 H0 ex=>(gz (au (hu9 hr) (aa 0 (pv 0)) (aa 1 (pv 1))))) (fun C s0 H0 ex=>(aa 0 (pv 0))))
 (ai (aw (aP bU rfl G.no_tuple bT (ae (cq (aa 6 (pv 6)) cY (di ak)) ag))))))))),?_⟩)
 ·obtain ⟨A,V,l,c,z,n,rfl,_⟩:=h
  rfl
 ·rintro ds M Q ⟨A,V,l,c,z,n,rfl,rd,tg,nx,q⟩
  have hz:sizeLine=16777216:=sizeLine_eq
  have bd:=rd.bd
  have pl:=rd.pl
  obtain ⟨ph,gr,ws,pon,pr,gd,i1,_⟩:=rd.pl
  refine aj bd.at_ ⟨rfl,_,⟨rfl,rfl⟩,A,V,c,z,l,rfl,bd,rd.k,pl,tg.ph,tg.few,fun q1 M1 s1 hq1 e1=>?_⟩
  refine aj (s1 _ _ bd.at_) (af rfl (aj (s1 _ _ i1) ⟨rfl,_,⟨rfl,rfl⟩,V.p,z,l,rfl,pl.sub s1,?_⟩))
  unfold bx at q
  cases e:l.manner z == "turns" with
  | false =>
   rw [e] at q
   exact rK (c:=!(l.manner z == "turns")) (by rw [e]; rfl) (af e1 ⟨M,s1,q⟩)
  | true =>
   obtain ⟨hn,nl⟩:=nx e
   rw [e,if_pos rfl] at q
   refine wN (c:=!(l.manner z == "turns")) (by rw [e]; rfl) ?_
   refine aj (s1 _ _ bd.at_) (af rfl (aj (s1 _ _ i1) ⟨rfl,_,⟨rfl,rfl⟩,V.p,z,l,rfl,pl.sub s1,fun q2 hq2=>?_⟩))
   have s2:=s1.trans (L3.Sub.new (c:=.lst ((l.phonesOf z).map D.str)) hq2)
   have c2:lstM (am M1 q2 (.lst ((l.phonesOf z).map D.str))) q2=some ((l.phonesOf z).map D.str):=av
   have e2:=(L3.Sub.new (c:=.lst ((l.phonesOf z).map D.str)) hq2).lst e1
   generalize am M1 q2 (.lst ((l.phonesOf z).map D.str))=M2 at s2 c2 e2 ⊢
   refine aj (s2 _ _ bd.at_) (af rfl (af rfl (af (s2.dk bd.nx) (af hn ?_))))
   refine af c2 fun q3 hq3=>?_
   rw [At _ n (by rw [List.length_map]; exact nl),← List.map_drop]
   have t3:=L3.Sub.new (c:=.lst (((l.phonesOf z).drop n).map D.str)) hq3
   have c3':lstM (am M2 q3 (.lst (((l.phonesOf z).drop n).map D.str))) q3=some (((l.phonesOf z).drop n).map D.str):=av
   generalize am M2 q3 (.lst (((l.phonesOf z).drop n).map D.str))=M3 at t3 c3' ⊢
   refine af (t3.lst c2) fun q4 hq4=>?_
   rw [sA,← List.map_take]
   have t4:=L3.Sub.new (c:=.lst (((l.phonesOf z).take n).map D.str)) hq4
   have c4:lstM (am M3 q4 (.lst (((l.phonesOf z).take n).map D.str))) q4=some (((l.phonesOf z).take n).map D.str):=av
   generalize am M3 q4 (.lst (((l.phonesOf z).take n).map D.str))=M4 at t4 c4 ⊢
   have tf:=tg.few
   refine af (t4.lst c3') (af c4 ?_)
   refine ⟨by rw [List.length_map,List.length_map,List.length_drop,List.length_take]; omega,fun q5 hq5=>af av ?_⟩
   rw [← List.map_append]
   have t5:=L3.Sub.new (c:=.lst ((dQ (l.phonesOf z) n).map D.str)) hq5
   have c5:lstM (am M4 q5 (.lst ((dQ (l.phonesOf z) n).map D.str))) q5=some ((dQ (l.phonesOf z) n).map D.str):=av
   show eY _ _ _ _ _ ((dQ (l.phonesOf z) n).map D.str) _ _ (am M4 q5 (.lst ((dQ (l.phonesOf z) n).map D.str)))
   generalize am M4 q5 (.lst ((dQ (l.phonesOf z) n).map D.str))=M5 at t5 c5 ⊢
   have s5:=t3.trans (t4.trans t5)
   have e5:=s5.lst e2
   have tl:(dQ (l.phonesOf z) n).length≤200:=by
    unfold dQ
    rw [List.length_append,List.length_drop,List.length_take]
    omega
   refine cX (f:=id) (t:=fun d=>inD d ((cM l V c z).map D.str)) c5 _ [] _ (by rw [List.length_map]; simp only [List.length_nil]; omega) (fun d hd k hk=>?_) (fun d hd _ k hk=>?_) fun q6 hq6=>?_
   ·obtain ⟨x,hx,rfl⟩:=List.mem_map.mp hd
    exact af e5 ⟨rfl,bt _,hk⟩
   ·obtain ⟨x,hx,rfl⟩:=List.mem_map.mp hd
    exact hk
   ·have ef:[] ++ (List.filter (fun d=>inD d ((cM l V c z).map D.str)) ((dQ (l.phonesOf z) n).map D.str)).map id=((dQ (l.phonesOf z) n).filter fun x=>hasS (cM l V c z) x).map D.str:=by
     rw [List.nil_append,List.map_id,List.filter_map]
     have:((fun d=>inD d ((cM l V c z).map D.str)) ∘ D.str)=fun x=>hasS (cM l V c z) x:=by
      funext x
      exact dj _ _
     rw [this]
    rw [ef]
    refine af av fun q7 hq7=>af av ?_
    rw [show L3.ie (((dQ (l.phonesOf z) n).filter fun x=>hasS (cM l V c z) x).map D.str) none (some (1:Int))=(((dQ (l.phonesOf z) n).filter fun x=>hasS (cM l V c z) x).take 1).map D.str from (sA _ 1).trans (List.map_take).symm]
    exact ⟨M,s2.trans (s5.trans ((L3.Sub.new hq6).trans (.new hq7))),q⟩
theorem v6 (G:Gl K mg a):Fq P w K mg base 6 a.end_without_wish (vF a):=by
 have C_rung_phones:=y0 (P:=P) (w:=w) (base:=base) G
 refine aX G.end_without_wish.toDG dY (fun ds M Q h=>?_) (fun cdv A outer s H E hr=>⟨_,(ah (aE (i:=3) dY.nd rfl (Or.inl rfl) (ax C_rung_phones hr G.rung_phones (ae (aa 0 (pv 0)) (ae (aa 1 (pv 1)) (ae (aa 2 (pv 2)) ag)))))
 (ah (aF (au (hu9 hr) (aH bn rfl G.no_len bi (ae (aa 3 (pv 3)) ag)) ak)
 (ai (aw (aI (ae ao (ae (aa 2 (pv 2)) ag)))))
 ay)
 (ai (aw (aI (ae ao (ae (aa 2 (pv 2)) (ae (aa 3 (pv 3)) ag)))))))),?_⟩)
 ·obtain ⟨A,V,l,c,z,n,rfl,_⟩:=h
  rfl
 ·rintro ds M Q ⟨A,V,l,c,z,n,rfl,rd,tg,nx,q⟩
  refine ⟨A,V,l,c,z,n,rfl,rd,tg,nx,?_⟩
  unfold zb at q
  cases e:bx l V c z n with
  | nil =>
   rw [e] at q
   exact ⟨few rfl,M,.refl,q⟩
  | cons x r =>
   rw [e,if_neg (List.cons_ne_nil _ _)] at q
   exact ⟨few rfl,M,.refl,q⟩
theorem wU (G:Gl K mg a):Fq P w K mg base 7 a.route (xj a):=by
 have C_fitting:=rX (P:=P) (w:=w) (base:=base) G
 have C_end_without_wish:=v6 (P:=P) (w:=w) (base:=base) G
 refine aX G.route.toDG gP (fun ds M Q h=>?_) (fun cdv A outer s H E hr=>⟨_,(ah (aE (i:=4) gP.nd rfl (Or.inl rfl) (aP dH rfl G.no_list dN (ae (aa 3 (pv 3)) ag)))
 (ah (aE (i:=5) gP.nd rfl (Or.inl rfl) (bY ag))
 (ah (xt PassesOwn.never (au (hu9 hr) (aa 2 (pv 2)) (aa 4 (pv 4)))
 (ah (aC (bM (aa 4 (pv 4)) (ae (aa 2 (pv 2)) ag)))
 (ah (aE (i:=6) gP.nd rfl (Or.inl rfl) (ax C_fitting hr G.fitting (ae (aa 0 (pv 0)) (ae (aa 1 (pv 1)) (ae (aa 2 (pv 2)) ag)))))
 (ah (aC (bM (aa 5 (pv 5)) (ae (aI (ae (aa 2 (pv 2)) (ae (aa 6 (pv 6)) ag))) ag)))
 (ah (aF (au (hu9 hr) (aH bn rfl G.no_len bi (ae (aa 6 (pv 6)) ag)) ak)
 (ai (aw (aI (ae (ax C_end_without_wish hr G.end_without_wish (ae (aa 0 (pv 0)) (ae (aa 1 (pv 1)) (ae (aa 2 (pv 2)) ag)))) (ae (aa 5 (pv 5)) ag)))))
 ay)
 (ah bz
 (ah (aF (au (hu9 hr) (aA (aa 7 (pv 7)) ak) ao)
 (ai bz)
 ay)
 (ai (aE (i:=2) gP.nd rfl (Or.inl rfl) (aA (aa 7 (pv 7)) ak))))))))))
 (ai (aw (aI (ae (aI (ae ao (ae (aP bU rfl G.no_tuple bT (ae (cq (aa 4 (pv 4)) (di (gM (aa 4 (pv 4)) (ae (aa 2 (pv 2)) ag))) cY) ag)) ag))) (ae (aa 5 (pv 5)) ag)))))))),?_⟩)
 ·obtain ⟨A,V,l,c,z,n,r,rfl,_⟩:=h
  rfl
 ·rintro ds M Q ⟨A,V,l,c,z,n,r,rfl,rd,tg,nx,hr0,q⟩
  have hz:sizeLine=16777216:=sizeLine_eq
  refine af hr0 fun p1 hp1=>⟨few rfl,fun p2 hp2=>?_⟩
  have t1:=L3.Sub.new (c:=.lst []) hp1
  have t2:=L3.Sub.new (c:=.lst []) hp2
  have c1:lstM (am (am M p1 (.lst [])) p2 (.lst [])) p1=some []:=t2.lst av
  have c2:lstM (am (am M p1 (.lst [])) p2 (.lst [])) p2=some []:=av
  have n12:p2 ≠ p1:=fun y=>by rw [y,aL] at hp2; cases hp2
  have m2:M p2=none:=t1.none hp2
  have s2:=t1.trans t2
  generalize am (am M p1 (.lst [])) p2 (.lst [])=M2 at c1 c2 s2 ⊢
  refine ⟨fun _ δ M'=>M'=M2∧δ=[some (.ref A.b),some (.str c),some (.str z),some (.ref r),some (.ref p1),some (.ref p2),none,none],⟨0,rfl,rfl⟩,?_⟩
  rintro m δ M' ⟨rfl,rfl⟩
  refine af c1 ⟨rfl,rfl,?_⟩
  refine wv ⟨by show (lstM M' p1).isSome=true; rw [c1]; rfl,af c1 ⟨by rw [hz]; decide,?_⟩⟩
  have k3:ck p1 M' (am M' p1 (.lst ([] ++ [D.str z]))):=.put
  have s3:L3.Sub M (am M' p1 (.lst ([] ++ [D.str z]))):=fun x d hx=>by rw [cR (neM hx hp1)]; exact s2 x d hx
  have c3:=k3.lst n12 c2
  generalize am M' p1 (.lst ([] ++ [D.str z]))=M3 at s3 c3 ⊢
  refine ⟨A,V,l,_,_,rfl,rd.sub s3,?_⟩
  refine ⟨by show (lstM M3 p2).isSome=true; rw [c3]; rfl,few rfl,af c3 ⟨by rw [hz]; decide,?_⟩⟩
  have s4:L3.Sub M (am M3 p2 (.lst ([] ++ [D.tup [.str z,.tup []]]))):=fun x d hx=>by rw [cR (neM hx m2)]; exact s3 x d hx
  have c4:lstM (am M3 p2 (.lst ([] ++ [D.tup [.str z,.tup []]]))) p2=some [.tup [.str z,.tup []]]:=av
  generalize am M3 p2 (.lst ([] ++ [D.tup [.str z,.tup []]]))=M4 at s4 c4 ⊢
  exact ⟨A,V,l,c,z,n,rfl,rd.sub s4,tg,nx,few rfl,M4,.refl,q p2 M4 s4 m2 c4⟩
end
end Z
namespace Z
open PySem PySem.Spec PyProof.Rows L2 L3
def gw (V:BdV) (i:Nat) (c:ar):BdV:={ V with calls:=V.calls.set i c }
theorem bP (V:BdV) (i:Nat) (c d:ar):gw (gw V i c) i d=gw V i d:=by
 unfold gw
 rw [List.set_set]
structure CI (a:Ad) (M:Mp) (A:BdA) (V:BdV) (i:Nat) (k:bD) (c:ar):Prop where
 bd:az a M A V
 e1:A.cs[i]?=some k
 e2:V.calls[i]?=some c
section
variable {a:Ad} {M M':Mp} {A:BdA} {V:BdV} {i:Nat} {k:bD} {c:ar}
theorem CI.cell (h:CI a M A V i k c):bQ a M A.lists k c:=h.bd.cs i k c h.e1 h.e2
theorem CI.sub (h:CI a M A V i k c) (s:L3.Sub M M'):CI a M' A V i k c:=⟨h.bd.sub s,h.e1,h.e2⟩
theorem CI.put (h:CI a M A V i k c) (c':ar) {ad md:Addr} (ew:c'.way=c.way) (la:lstM M ad=some (c'.at_.map D.str)) (lm:lstM M md=some (c'.ms.map D.str)) (na:ad ∉ A.lists) (nm:md ∉ A.lists) :
  CI a (am M k.p (.ins a.c_Call (bw c' k.wy ad md))) A (gw V i c') i k c'∧bL A M A (am M k.p (.ins a.c_Call (bw c' k.wy ad md))):=by
 obtain ⟨b,s⟩:=h.bd.putCall h.e1 h.e2 ew la lm na nm
 refine ⟨⟨b,h.e1,?_⟩,s⟩
 show (V.calls.set i c')[i]?=some c'
 rw [List.getElem?_set_self (List.getElem?_eq_some_iff.mp h.e2).1]
end
def lu (x:Str):ar:=⟨"rings",x,[],[],[],none,0,.non⟩
def ar.over (c:ar) (w:Str):ar:={ c with st:="over",wd:=.str w,at_:=[],ms:=[],hd:=none }
def ar.drop (c:ar) (x:Str):ar:={ c with at_:=bC c.at_ x,ms:=bC c.ms x }
def ar.ring (c:ar) (ps:List Str):ar:={ c with st:="rings",at_:=ps,si:=0 }
def ar.talk (c:ar) (ms:List Str):ar:={ c with st:="talks",ms:=ms,at_:=[],hd:=none }
def ar.hold (c:ar) (x:Str):ar:={ c with st:="held",hd:=some x }
inductive Chg (i:Nat) (c:ar):D→ar→Prop
 | rings (ps:List Str) (h:ps.length≤100):Chg i c (.tup [.str "rings",.int (i:Nat),.tup (ps.map D.str)]) (c.ring ps)
 | talks (ms:List Str) (h:ms.length≤100):Chg i c (.tup [.str "talks",.int (i:Nat),.tup (ms.map D.str)]) (c.talk ms)
 | held (x:Str):Chg i c (.tup [.str "held",.int (i:Nat),.str x]) (c.hold x)
 | leaves (x:Str):Chg i c (.tup [.str "leaves",.int (i:Nat),.str x]) (c.drop x)
 | over (w:Str):Chg i c (.tup [.str "over",.int (i:Nat),.str w]) (c.over w)
def qO (a:Ad):Sp3:=fun ds M Q=>∃ p x,ds=[.ref p,.str x]∧M p=some (.ins a.c_Call [])∧∀ M' wy ad md,ck p M M'→M wy=none→M ad=none→M md=none→ad ≠ wy→md ≠ wy→M' p=some (.ins a.c_Call (bw (lu x) wy ad md))→lstM M' wy=some []→lstM M' ad=some []→lstM M' md=some []→Q .non M'
def yF (a:Ad):Sp3:=fun ds M Q=>∃ A V i k c w,ds=[.ref k.p,.str w]∧CI a M A V i k c∧∀ M',bL A M A M'→az a M' A (gw V i (c.over w))→Q .non M'
def vI (a:Ad):Sp3:=fun ds M Q=>∃ A V i k c x,ds=[.ref k.p,.str x]∧CI a M A V i k c∧c.at_.length≤100∧c.ms.length≤100∧∀ M',bL A M A M'→az a M' A (gw V i (c.drop x))→Q .non M'
def vn (a:Ad):Sp3:=fun ds M Q=>∃ A V i k c e c',ds=[.ref k.p,e]∧CI a M A V i k c∧c.at_.length≤100∧c.ms.length≤100∧Chg i c e c'∧∀ M',bL A M A M'→az a M' A (gw V i c')→Q .non M'
section
variable {P:Program} {w:World} {K:PySem.W.Frag} {mg:Str→Option Value} {base:Heap} {a:Ad}
theorem yk (G:Gl K mg a):Fq P w K mg base 1 a.Call_init (qO a):=by
 refine aX G.Call_init.toDG pH (fun ds M Q h=>?_) (fun cdv A outer s H E hr=>⟨_,(ah (aO (aa 0 (pv 0)) ao)
 (ah (aO (aa 0 (pv 0)) (aa 1 (pv 1)))
 (ah (aO (aa 0 (pv 0)) (bY ag))
 (ah (aO (aa 0 (pv 0)) (bY ag))
 (ah (aO (aa 0 (pv 0)) (bY ag))
 (ah (aO (aa 0 (pv 0)) b9)
 (ah (aO (aa 0 (pv 0)) ak)
 (ai (aO (aa 0 (pv 0)) b9))))))))),?_⟩)
 ·obtain ⟨p,x,rfl,_⟩:=h
  rfl
 ·rintro ds M Q ⟨p,x,rfl,hb,q⟩
  refine aj hb ⟨(G.n_Call "state" rfl),by show 0 < 1000; decide,?_⟩
  have k1:ck p M (am M p (.ins a.c_Call [("state",.str "rings")])):=.put
  have b1:am M p (.ins a.c_Call [("state",.str "rings")]) p=some (.ins a.c_Call [("state",.str "rings")]):=aL
  show dw _ _ _ _ (am M p (.ins a.c_Call [("state",.str "rings")]))
  generalize am M p (.ins a.c_Call [("state",.str "rings")])=N1 at k1 b1 ⊢
  refine aj b1 ⟨(G.n_Call "caller" rfl),by show 1 < 1000; decide,?_⟩
  have k2:=k1.trans (ck.put (p:=p) (c:=.ins a.c_Call [("state",.str "rings"),("caller",.str x)]))
  have b2:am N1 p (.ins a.c_Call [("state",.str "rings"),("caller",.str x)]) p=some (.ins a.c_Call [("state",.str "rings"),("caller",.str x)]):=aL
  show dw _ _ _ _ (am N1 p (.ins a.c_Call [("state",.str "rings"),("caller",.str x)]))
  generalize am N1 p (.ins a.c_Call [("state",.str "rings"),("caller",.str x)])=N2 at k2 b2 ⊢
  refine ⟨few rfl,fun wy hwy=>?_⟩
  obtain ⟨n3,e3,k3,c3,b3⟩:=cf (fs':=[("state",.str "rings"),("caller",.str x),("way",.ref wy)]) (c:=.lst []) b2 hwy
  refine aj e3 ⟨(G.n_Call "way" rfl),by show 2 < 1000; decide,?_⟩
  show dw _ _ _ _ (am (am N2 wy (.lst [])) p (.ins a.c_Call [("state",.str "rings"),("caller",.str x),("way",.ref wy)]))
  generalize am (am N2 wy (.lst [])) p (.ins a.c_Call [("state",.str "rings"),("caller",.str x),("way",.ref wy)])=N3 at k3 c3 b3 ⊢
  have z1:M wy=none:=bE k2 b2 hwy
  have kk3:=k2.trans k3
  have l3:lstM N3 wy=some []:=cx c3
  refine ⟨few rfl,fun ad had=>?_⟩
  obtain ⟨n4,e4,k4,c4,b4⟩:=cf (fs':=[("state",.str "rings"),("caller",.str x),("way",.ref wy),("at",.ref ad)]) (c:=.lst []) b3 had
  refine aj e4 ⟨(G.n_Call "at" rfl),by show 3 < 1000; decide,?_⟩
  show dw _ _ _ _ (am (am N3 ad (.lst [])) p (.ins a.c_Call [("state",.str "rings"),("caller",.str x),("way",.ref wy),("at",.ref ad)]))
  generalize am (am N3 ad (.lst [])) p (.ins a.c_Call [("state",.str "rings"),("caller",.str x),("way",.ref wy),("at",.ref ad)])=N4 at k4 c4 b4 ⊢
  have z2:M ad=none:=bE kk3 b3 had
  have kk4:=kk3.trans k4
  have naw:ad ≠ wy:=fun z=>by rw [z,c3] at had; cases had
  have l4:=k4.lst (aG l3 b3) l3
  have m4:lstM N4 ad=some []:=cx c4
  refine ⟨few rfl,fun md hmd=>?_⟩
  obtain ⟨n5,e5,k5,c5,b5⟩:=cf (fs':=[("state",.str "rings"),("caller",.str x),("way",.ref wy),("at",.ref ad),("members",.ref md)]) (c:=.lst []) b4 hmd
  refine aj e5 ⟨(G.n_Call "members" rfl),by show 4 < 1000; decide,?_⟩
  show dw _ _ _ _ (am (am N4 md (.lst [])) p (.ins a.c_Call [("state",.str "rings"),("caller",.str x),("way",.ref wy),("at",.ref ad),("members",.ref md)]))
  generalize am (am N4 md (.lst [])) p (.ins a.c_Call [("state",.str "rings"),("caller",.str x),("way",.ref wy),("at",.ref ad),("members",.ref md)])=N5 at k5 c5 b5 ⊢
  have z3:M md=none:=bE kk4 b4 hmd
  have kk5:=kk4.trans k5
  have nmw:md ≠ wy:=fun z=>by rw [z,aY l4] at hmd; cases hmd
  have l5:=k5.lst (aG l4 b4) l4
  have m5:=k5.lst (aG m4 b4) m4
  have o5:lstM N5 md=some []:=cx c5
  refine aj b5 ⟨(G.n_Call "holder" rfl),by show 5 < 1000; decide,?_⟩
  have k6:ck p N5 (am N5 p (.ins a.c_Call [("state",.str "rings"),("caller",.str x),("way",.ref wy),("at",.ref ad),("members",.ref md),("holder",.non)])):=.put
  have b6:am N5 p (.ins a.c_Call [("state",.str "rings"),("caller",.str x),("way",.ref wy),("at",.ref ad),("members",.ref md),("holder",.non)]) p=some (.ins a.c_Call [("state",.str "rings"),("caller",.str x),("way",.ref wy),("at",.ref ad),("members",.ref md),("holder",.non)]):=aL
  show dw _ _ _ _ (am N5 p (.ins a.c_Call [("state",.str "rings"),("caller",.str x),("way",.ref wy),("at",.ref ad),("members",.ref md),("holder",.non)]))
  generalize am N5 p (.ins a.c_Call [("state",.str "rings"),("caller",.str x),("way",.ref wy),("at",.ref ad),("members",.ref md),("holder",.non)])=N6 at k6 b6 ⊢
  refine aj b6 ⟨(G.n_Call "since" rfl),by show 6 < 1000; decide,?_⟩
  have k7:=k6.trans (ck.put (p:=p) (c:=.ins a.c_Call [("state",.str "rings"),("caller",.str x),("way",.ref wy),("at",.ref ad),("members",.ref md),("holder",.non),("since",.int 0)]))
  have b7:am N6 p (.ins a.c_Call [("state",.str "rings"),("caller",.str x),("way",.ref wy),("at",.ref ad),("members",.ref md),("holder",.non),("since",.int 0)]) p=some (.ins a.c_Call [("state",.str "rings"),("caller",.str x),("way",.ref wy),("at",.ref ad),("members",.ref md),("holder",.non),("since",.int 0)]):=aL
  rw [show gv "since" (.int 0) [("state",.str "rings"),("caller",.str x),("way",.ref wy),("at",.ref ad),("members",.ref md),("holder",.non)]=([("state",.str "rings"),("caller",.str x),("way",.ref wy),("at",.ref ad),("members",.ref md),("holder",.non),("since",.int 0)]:List (Str × D)) from rfl]
  generalize am N6 p (.ins a.c_Call [("state",.str "rings"),("caller",.str x),("way",.ref wy),("at",.ref ad),("members",.ref md),("holder",.non),("since",.int 0)])=N7 at k7 b7 ⊢
  refine aj b7 ⟨(G.n_Call "word" rfl),by show 7 < 1000; decide,_,.refl,?_⟩
  have k8:=k7.trans (ck.put (p:=p) (c:=.ins a.c_Call (bw (lu x) wy ad md)))
  exact q _ wy ad md (kk5.trans k8) z1 z2 z3 naw nmw aL (k8.lst (aG l5 b5) l5) (k8.lst (aG m5 b5) m5) (k8.lst (aG o5 b5) o5)
end
end Z
namespace Z
open PySem PySem.Spec PyProof.Rows L2 L3
section
variable {P:Program} {w:World} {K:PySem.W.Frag} {mg:Str→Option Value} {base:Heap} {a:Ad}
theorem tG (G:Gl K mg a):Fq P w K mg base 1 a.end_call (yF a):=by
 refine aX G.end_call.toDG qP (fun ds M Q h=>?_) (fun cdv A outer s H E hr=>⟨_,(ah (aO (aa 0 (pv 0)) ao)
 (ah (aO (aa 0 (pv 0)) (aa 1 (pv 1)))
 (ah (aO (aa 0 (pv 0)) (bY ag))
 (ah (aO (aa 0 (pv 0)) (bY ag))
 (ai (aO (aa 0 (pv 0)) b9)))))),?_⟩)
 ·obtain ⟨A,V,i,k,c,w0,rfl,_⟩:=h
  rfl
 ·rintro ds M Q ⟨A,V,i,k,c,w0,rfl,h,q⟩
  obtain ⟨ad,md,h1,h2,h3,h4,n1,n2⟩:=h.cell
  refine aj h1 ⟨(G.n_Call "state" rfl),by show 8 < 1000; decide,?_⟩
  obtain ⟨g1,s1⟩:=h.put { c with st:="over" } rfl h3 h4 n1 n2
  show dw _ _ _ _ (am M k.p (.ins a.c_Call (bw { c with st:="over" } k.wy ad md)))
  generalize am M k.p (.ins a.c_Call (bw { c with st:="over" } k.wy ad md))=M1 at g1 s1 ⊢
  clear h1 h2 h3 h4 n1 n2
  obtain ⟨ad,md,h1,h2,h3,h4,n1,n2⟩:=g1.cell
  refine aj h1 ⟨(G.n_Call "word" rfl),by show 8 < 1000; decide,?_⟩
  obtain ⟨g2,s2⟩:=g1.put { c with st:="over",wd:=.str w0 } rfl h3 h4 n1 n2
  show dw _ _ _ _ (am M1 k.p (.ins a.c_Call (bw { c with st:="over",wd:=.str w0 } k.wy ad md)))
  generalize am M1 k.p (.ins a.c_Call (bw { c with st:="over",wd:=.str w0 } k.wy ad md))=M2 at g2 s2 ⊢
  clear h1 h2 h3 h4 n1 n2
  refine ⟨few rfl,fun p hp=>?_⟩
  have t3:=L3.Sub.new (c:=.lst []) hp
  have lp:lstM (am M2 p (.lst [])) p=some []:=av
  have np:=g2.bd.notL hp
  have g2':=g2.sub t3
  have s2':=s2.trans (.sub t3)
  generalize am M2 p (.lst [])=M2' at t3 lp g2' s2' ⊢
  obtain ⟨ad,md,h1,h2,h3,h4,n1,n2⟩:=g2'.cell
  refine aj h1 ⟨(G.n_Call "at" rfl),by show 8 < 1000; decide,?_⟩
  obtain ⟨g3,s3⟩:=g2'.put { c with st:="over",wd:=.str w0,at_:=[] } rfl lp h4 np n2
  show dw _ _ _ _ (am M2' k.p (.ins a.c_Call (bw { c with st:="over",wd:=.str w0,at_:=[] } k.wy p md)))
  generalize am M2' k.p (.ins a.c_Call (bw { c with st:="over",wd:=.str w0,at_:=[] } k.wy p md))=M3 at g3 s3 ⊢
  clear h1 h2 h3 h4 n1 n2 lp t3 np g2 g2'
  refine ⟨few rfl,fun p2 hp2=>?_⟩
  have t4:=L3.Sub.new (c:=.lst []) hp2
  have lp:lstM (am M3 p2 (.lst [])) p2=some []:=av
  have np:=g3.bd.notL hp2
  have g3':=g3.sub t4
  have s3':=s3.trans (.sub t4)
  generalize am M3 p2 (.lst [])=M3' at t4 lp g3' s3' ⊢
  obtain ⟨ad,md,h1,h2,h3,h4,n1,n2⟩:=g3'.cell
  refine aj h1 ⟨(G.n_Call "members" rfl),by show 8 < 1000; decide,?_⟩
  obtain ⟨g4,s4⟩:=g3'.put { c with st:="over",wd:=.str w0,at_:=[],ms:=[] } rfl h3 lp n1 np
  rw [show gv "members" (.ref p2) (bw { c with st:="over",wd:=.str w0,at_:=[] } k.wy ad md)=bw { c with st:="over",wd:=.str w0,at_:=[],ms:=[] } k.wy ad p2 from rfl]
  generalize am M3' k.p (.ins a.c_Call (bw { c with st:="over",wd:=.str w0,at_:=[],ms:=[] } k.wy ad p2))=M4 at g4 s4 ⊢
  clear h1 h2 h3 h4 n1 n2 lp t4 np g3 g3'
  obtain ⟨ad,md,h1,h2,h3,h4,n1,n2⟩:=g4.cell
  refine aj h1 ⟨(G.n_Call "holder" rfl),by show 8 < 1000; decide,_,.refl,?_⟩
  obtain ⟨g5,s5⟩:=g4.put (c.over w0) rfl h3 h4 n1 n2
  refine q _ ((s1.trans s2').trans (s3'.trans (s4.trans s5))) ?_
  have:=g5.bd
  rw [bP,bP,bP,bP] at this
  exact this
theorem xL (G:Gl K mg a):Fq P w K mg base 1 a.drop_phone (vI a):=by
 refine aX G.drop_phone.toDG ni (fun ds M Q h=>?_) (fun cdv A outer s H E hr=>⟨_,(ah (aO (aa 0 (pv 0)) (be rfl (bH (ix:=[none,some 1]) (N':=["other","phone"]) (by kernel_rfl)) (aV (ap (aa 0 (pv 0)))) (fun C s0 H0 ex=>(aB (i:=0) (show List.Nodup (["other","phone"]:List Str) by decide +kernel) rfl (Or.inl rfl))) (fun C s0 H0 ex=>(gz (au (hu9 hr) (aa 0 (pv 0)) (aa 1 (pv 1))))) (fun C s0 H0 ex=>(aa 0 (pv 0)))))
 (ai (aO (aa 0 (pv 0)) (be rfl (bH (ix:=[none,some 1]) (N':=["other","phone"]) (by kernel_rfl)) (aV (ap (aa 0 (pv 0)))) (fun C s0 H0 ex=>(aB (i:=0) (show List.Nodup (["other","phone"]:List Str) by decide +kernel) rfl (Or.inl rfl))) (fun C s0 H0 ex=>(gz (au (hu9 hr) (aa 0 (pv 0)) (aa 1 (pv 1))))) (fun C s0 H0 ex=>(aa 0 (pv 0))))))),?_⟩)
 ·obtain ⟨A,V,i,k,c,x,rfl,_⟩:=h
  rfl
 ·rintro ds M Q ⟨A,V,i,k,c,x,rfl,h,la,lm,q⟩
  have hz:sizeLine=16777216:=sizeLine_eq
  obtain ⟨ad,md,h1,h2,h3,h4,n1,n2⟩:=h.cell
  refine aj h1 (af rfl (af h3 (cX (f:=id) (t:=yO x) h3 _ [] _ (by rw [List.length_map]; simp only [List.length_nil]; omega) (fun d hd k0 hk=>?_) (fun d hd _ k0 hk=>?_) fun p hp=>?_)))
  ·obtain ⟨y,hy,rfl⟩:=List.mem_map.mp hd
   exact hk
  ·obtain ⟨y,hy,rfl⟩:=List.mem_map.mp hd
   exact hk
  rw [lL]
  have t1:=L3.Sub.new (c:=.lst ((bC c.at_ x).map D.str)) hp
  have lp:lstM (am M p (.lst ((bC c.at_ x).map D.str))) p=some ((bC c.at_ x).map D.str):=av
  have np:=h.bd.notL hp
  have h':=h.sub t1
  have s1:bL A M A (am M p (.lst ((bC c.at_ x).map D.str))):=.sub t1
  generalize am M p (.lst ((bC c.at_ x).map D.str))=M1 at t1 lp h' s1 ⊢
  clear h1 h2 h3 h4 n1 n2
  obtain ⟨ad,md,h1,h2,h3,h4,n1,n2⟩:=h'.cell
  refine aj h1 ⟨(G.n_Call "at" rfl),by show 8 < 1000; decide,?_⟩
  obtain ⟨g2,s2⟩:=h'.put { c with at_:=bC c.at_ x } rfl lp h4 np n2
  rw [show gv "at" (.ref p) (bw c k.wy ad md)=bw { c with at_:=bC c.at_ x } k.wy p md from rfl]
  generalize am M1 k.p (.ins a.c_Call (bw { c with at_:=bC c.at_ x } k.wy p md))=M2 at g2 s2 ⊢
  clear h1 h2 h3 h4 n1 n2 lp np
  obtain ⟨ad,md,h1,h2,h3,h4,n1,n2⟩:=g2.cell
  refine aj h1 (af rfl (af h4 (cX (f:=id) (t:=yO x) h4 _ [] _ (by rw [List.length_map]; simp only [List.length_nil]; show 0 + c.ms.length≤sizeLine; omega) (fun d hd k0 hk=>?_) (fun d hd _ k0 hk=>?_) fun p2 hp2=>?_)))
  ·obtain ⟨y,hy,rfl⟩:=List.mem_map.mp hd
   exact hk
  ·obtain ⟨y,hy,rfl⟩:=List.mem_map.mp hd
   exact hk
  rw [lL]
  have t3:=L3.Sub.new (c:=.lst ((bC c.ms x).map D.str)) hp2
  have lp:lstM (am M2 p2 (.lst ((bC c.ms x).map D.str))) p2=some ((bC c.ms x).map D.str):=av
  have np:=g2.bd.notL hp2
  have g2':=g2.sub t3
  have s3:bL A M2 A (am M2 p2 (.lst ((bC c.ms x).map D.str))):=.sub t3
  generalize am M2 p2 (.lst ((bC c.ms x).map D.str))=M3 at t3 lp g2' s3 ⊢
  clear h1 h2 h3 h4 n1 n2
  obtain ⟨ad,md,h1,h2,h3,h4,n1,n2⟩:=g2'.cell
  refine aj h1 ⟨(G.n_Call "members" rfl),by show 8 < 1000; decide,_,.refl,?_⟩
  obtain ⟨g4,s4⟩:=g2'.put (c.drop x) rfl h3 lp n1 np
  refine q _ ((s1.trans s2).trans (s3.trans s4)) ?_
  have:=g4.bd
  rw [bP] at this
  exact this
theorem uY (G:Gl K mg a):Fq P w K mg base 2 a.change_call (vn a):=by
 have C_drop_phone:=xL (P:=P) (w:=w) (base:=base) G
 have C_end_call:=tG (P:=P) (w:=w) (base:=base) G
 refine aX G.change_call.toDG gK (fun ds M Q h=>?_) (fun cdv A outer s H E hr=>⟨_,(ah (aE (i:=2) gK.nd rfl (Or.inl rfl) (aA (aa 1 (pv 1)) ak))
 (ai (aF (au (hu9 hr) (aa 2 (pv 2)) ao)
 (ah (aO (aa 0 (pv 0)) ao)
 (ah (aO (aa 0 (pv 0)) (aP dH rfl G.no_list dN (ae (aA (aa 1 (pv 1)) ak) ag)))
 (ai (aO (aa 0 (pv 0)) ak))))
 (ai (aF (au (hu9 hr) (aa 2 (pv 2)) ao)
 (ai (aO (aa 0 (pv 0)) (bY ag)))
 (ai (aF (au (hu9 hr) (aa 2 (pv 2)) ao)
 (ah (aO (aa 0 (pv 0)) ao)
 (ai (aO (aa 0 (pv 0)) (bY (ae (aA (aa 1 (pv 1)) ak) ag)))))
 (ai (aF (au (hu9 hr) (aa 2 (pv 2)) ao)
 (ah (aO (aa 0 (pv 0)) ao)
 (ah (aO (aa 0 (pv 0)) (aP dH rfl G.no_list dN (ae (aA (aa 1 (pv 1)) ak) ag)))
 (ah (aO (aa 0 (pv 0)) (bY ag))
 (ai (aO (aa 0 (pv 0)) b9)))))
 (ai (aF (au (hu9 hr) (aa 2 (pv 2)) ao)
 (ah (aO (aa 0 (pv 0)) ao)
 (ai (aO (aa 0 (pv 0)) (aA (aa 1 (pv 1)) ak))))
 (ai (aF (au (hu9 hr) (aa 2 (pv 2)) ao)
 (ai (aC (ax C_drop_phone hr G.drop_phone (ae (aa 0 (pv 0)) (ae (aA (aa 1 (pv 1)) ak) ag)))))
 (ai (aF (au (hu9 hr) (aa 2 (pv 2)) ao)
 (ai (aC (ax C_end_call hr G.end_call (ae (aa 0 (pv 0)) (ae (aA (aa 1 (pv 1)) ak) ag)))))
 ay))))))))))))))),?_⟩)
 ·obtain ⟨A,V,i,k,c,e,c',rfl,_⟩:=h
  rfl
 ·rintro ds M Q ⟨A,V,i,k,c,e,c',rfl,h,la,lm,hc,q⟩
  cases hc with
  | over w0=>exact ⟨A,V,i,k,c,w0,rfl,h,fun M' s b=>⟨M',.refl,q M' s b⟩⟩
  | leaves x=>exact ⟨A,V,i,k,c,x,rfl,h,la,lm,fun M' s b=>⟨M',.refl,q M' s b⟩⟩
  | held x =>
   obtain ⟨ad,md,h1,h2,h3,h4,n1,n2⟩:=h.cell
   refine aj h1 ⟨(G.n_Call "state" rfl),by show 8 < 1000; decide,?_⟩
   obtain ⟨g1,s1⟩:=h.put { c with st:="held" } rfl h3 h4 n1 n2
   show dw _ _ _ _ (am M k.p (.ins a.c_Call (bw { c with st:="held" } k.wy ad md)))
   generalize am M k.p (.ins a.c_Call (bw { c with st:="held" } k.wy ad md))=M1 at g1 s1 ⊢
   clear h1 h2 h3 h4 n1 n2
   obtain ⟨ad,md,h1,h2,h3,h4,n1,n2⟩:=g1.cell
   refine aj h1 ⟨(G.n_Call "holder" rfl),by show 8 < 1000; decide,_,.refl,?_⟩
   obtain ⟨g5,s5⟩:=g1.put (c.hold x) rfl h3 h4 n1 n2
   refine q _ (s1.trans s5) ?_
   have:=g5.bd
   rw [bP] at this
   exact this
  | rings ps _ =>
   obtain ⟨ad,md,h1,h2,h3,h4,n1,n2⟩:=h.cell
   refine aj h1 ⟨(G.n_Call "state" rfl),by show 8 < 1000; decide,?_⟩
   obtain ⟨g1,s1⟩:=h.put { c with st:="rings" } rfl h3 h4 n1 n2
   show dw _ _ _ _ (am M k.p (.ins a.c_Call (bw { c with st:="rings" } k.wy ad md)))
   generalize am M k.p (.ins a.c_Call (bw { c with st:="rings" } k.wy ad md))=M1 at g1 s1 ⊢
   clear h1 h2 h3 h4 n1 n2
   refine fun p hp=>?_
   have t3:=L3.Sub.new (c:=.lst (ps.map D.str)) hp
   have lp:lstM (am M1 p (.lst (ps.map D.str))) p=some (ps.map D.str):=av
   have np:=g1.bd.notL hp
   have g1':=g1.sub t3
   have s1':=s1.trans (.sub t3)
   generalize am M1 p (.lst (ps.map D.str))=M1' at t3 lp g1' s1' ⊢
   obtain ⟨ad,md,h1,h2,h3,h4,n1,n2⟩:=g1'.cell
   refine aj h1 ⟨(G.n_Call "at" rfl),by show 8 < 1000; decide,?_⟩
   obtain ⟨g3,s3⟩:=g1'.put { c with st:="rings",at_:=ps } rfl lp h4 np n2
   rw [show gv "at" (.ref p) (bw { c with st:="rings" } k.wy ad md)=bw { c with st:="rings",at_:=ps } k.wy p md from rfl]
   generalize am M1' k.p (.ins a.c_Call (bw { c with st:="rings",at_:=ps } k.wy p md))=M3 at g3 s3 ⊢
   clear h1 h2 h3 h4 n1 n2 lp t3 np
   obtain ⟨ad,md,h1,h2,h3,h4,n1,n2⟩:=g3.cell
   refine aj h1 ⟨(G.n_Call "since" rfl),by show 8 < 1000; decide,_,.refl,?_⟩
   obtain ⟨g5,s5⟩:=g3.put (c.ring ps) rfl h3 h4 n1 n2
   refine q _ (s1'.trans (s3.trans s5)) ?_
   have:=g5.bd
   rw [bP,bP] at this
   exact this
  | talks ms _ =>
   obtain ⟨ad,md,h1,h2,h3,h4,n1,n2⟩:=h.cell
   refine aj h1 ⟨(G.n_Call "state" rfl),by show 8 < 1000; decide,?_⟩
   obtain ⟨g1,s1⟩:=h.put { c with st:="talks" } rfl h3 h4 n1 n2
   show dw _ _ _ _ (am M k.p (.ins a.c_Call (bw { c with st:="talks" } k.wy ad md)))
   generalize am M k.p (.ins a.c_Call (bw { c with st:="talks" } k.wy ad md))=M1 at g1 s1 ⊢
   clear h1 h2 h3 h4 n1 n2
   refine fun p hp=>?_
   have t3:=L3.Sub.new (c:=.lst (ms.map D.str)) hp
   have lp:lstM (am M1 p (.lst (ms.map D.str))) p=some (ms.map D.str):=av
   have np:=g1.bd.notL hp
   have g1':=g1.sub t3
   have s1':=s1.trans (.sub t3)
   generalize am M1 p (.lst (ms.map D.str))=M1' at t3 lp g1' s1' ⊢
   obtain ⟨ad,md,h1,h2,h3,h4,n1,n2⟩:=g1'.cell
   refine aj h1 ⟨(G.n_Call "members" rfl),by show 8 < 1000; decide,?_⟩
   obtain ⟨g3,s3⟩:=g1'.put { c with st:="talks",ms:=ms } rfl h3 lp n1 np
   show dw _ _ _ _ (am M1' k.p (.ins a.c_Call (bw { c with st:="talks",ms:=ms } k.wy ad p)))
   generalize am M1' k.p (.ins a.c_Call (bw { c with st:="talks",ms:=ms } k.wy ad p))=M3 at g3 s3 ⊢
   clear h1 h2 h3 h4 n1 n2 lp t3 np
   refine ⟨few rfl,fun p2 hp2=>?_⟩
   have t4:=L3.Sub.new (c:=.lst []) hp2
   have lp:lstM (am M3 p2 (.lst [])) p2=some []:=av
   have np:=g3.bd.notL hp2
   have g3':=g3.sub t4
   have s3':=s3.trans (.sub t4)
   generalize am M3 p2 (.lst [])=M3' at t4 lp g3' s3' ⊢
   obtain ⟨ad,md,h1,h2,h3,h4,n1,n2⟩:=g3'.cell
   refine aj h1 ⟨(G.n_Call "at" rfl),by show 8 < 1000; decide,?_⟩
   obtain ⟨g4,s4⟩:=g3'.put { c with st:="talks",ms:=ms,at_:=[] } rfl lp h4 np n2
   rw [show gv "at" (.ref p2) (bw { c with st:="talks",ms:=ms } k.wy ad md)=bw { c with st:="talks",ms:=ms,at_:=[] } k.wy p2 md from rfl]
   generalize am M3' k.p (.ins a.c_Call (bw { c with st:="talks",ms:=ms,at_:=[] } k.wy p2 md))=M4 at g4 s4 ⊢
   clear h1 h2 h3 h4 n1 n2 lp t4 np
   obtain ⟨ad,md,h1,h2,h3,h4,n1,n2⟩:=g4.cell
   refine aj h1 ⟨(G.n_Call "holder" rfl),by show 8 < 1000; decide,_,.refl,?_⟩
   obtain ⟨g5,s5⟩:=g4.put (c.talk ms) rfl h3 h4 n1 n2
   refine q _ (s1'.trans (s3'.trans (s4.trans s5))) ?_
   have:=g5.bd
   rw [bP,bP,bP] at this
   exact this
end
end Z
namespace Z
open PySem PySem.Spec PyProof.Rows L2 L3
def pC (c:ar) (g:Str):ar:={ c with way:=c.way ++ [g] }
def kN (a:Ad):Sp3:=fun ds M Q=>∃ A V i k c f g y,ds=[.ref A.b,.tup [.int (i:Nat),f,.str g,y]]∧CI a M A V i k c∧V.legs.length < 100000∧c.way.length < 100000∧∀ M',bL A M A M'→az a M' A { gw V i (pC c g) with legs:=V.legs ++ [.tup [.int (i:Nat),f,.str g,y]] }→Q .non M'
theorem bV {ks:List bD} {i:Nat} {k:bD} (h:ks[i]?=some k):atI (ks.map fun k=>D.ref k.p) (i:Nat)=some (.ref k.p):=hU (by rw [List.getElem?_map,h]; rfl)
def ny (m k:Nat):D→D
 | .tup (.int i :: r)=>if i=(m:Int) then .tup (.int (k:Nat) :: r) else .tup (.int i :: r)
 | d=>d
def om (d:D):Prop:=∃ (i:Int) (f g y:D),d=.tup [.int i,f,g,y]
def sU (V:BdV) (i j:Nat) (ci cj:ar) (ms:List Str):BdV:={ gw (gw V i (ci.over "merged")) j { cj with ms:=ms } with legs:=V.legs.map (ny i j) }
def nc (a:Ad):Sp3:=fun ds M Q=>∃ A V i j ki ci cj ms,ds=[.ref A.b,.int (i:Nat),.int (j:Nat),.tup (List.map D.str ms)]∧CI a M A V i ki ci∧V.calls[j]?=some cj∧i ≠ j∧V.legs.length < 100000∧(∀ d∈V.legs,om d)∧∀ M' A',A'.b=A.b→bL A M A' M'→az a M' A' (sU V i j ci cj ms)→Q .non M'
theorem az.newLeg {a:Ad} {M:Mp} {A:BdA} {V:BdV} {p:Addr} {es:List D} (h:az a M A V) (hp:M p=none) :
  az a (am (am M p (.lst es)) A.b (.ins a.c_Board (fk (.ref V.p) V.h V.t A.ca p A.nx A.on A.lo))) { A with le:=p } { V with legs:=es }∧bL A M { A with le:=p } (am (am M p (.lst es)) A.b (.ins a.c_Board (fk (.ref V.p) V.h V.t A.ca p A.nx A.on A.lo))):=by
 have t:=L3.Sub.new (c:=.lst es) hp
 have lp:lstM (am M p (.lst es)) p=some es:=av
 have h1:=h.sub t
 have np:p ∉ A.lists:=h.notL hp
 have nf:p ∉ A.foot:=h.notF hp
 have old:∀ x c,M x=some c→x ≠ p:=fun x c e z=>by rw [z,hp] at e; cases e
 generalize am M p (.lst es)=M1 at t lp h1 ⊢
 have kp:ck A.b M1 (am M1 A.b (.ins a.c_Board (fk (.ref V.p) V.h V.t A.ca p A.nx A.on A.lo))):=.put
 have sub:∀ x,x ∉ A.lists→x ≠ p→x ∉ ({ A with le:=p }:BdA).lists:=fun x h1 h2 z=>by
  unfold BdA.lists at h1 z
  simp only [List.mem_cons,not_or] at h1 z
  rcases z with z | z | z | z | z
  ·exact h1.1 z
  ·exact h2 z
  ·exact h1.2.2.1 z
  ·exact h1.2.2.2.1 z
  ·exact h1.2.2.2.2 z
 refine ⟨⟨aL,kp.lst (aG h1.ca h1.at_) h1.ca,kp.lst (aG lp h1.at_) lp,kp.dk (oz h1.nx h1.at_) h1.nx,kp.lst (aG h1.on h1.at_) h1.on,kp.lst (aG h1.lo h1.at_) h1.lo,h.len,fun i k c e1 e2=>?_,?_,h.np⟩,fun x c n e=>kp x c (fun z=>n (z ▸ A.in_foot.1)) (t x c e),fun x hx=>?_,fun i k e=>e⟩
 ·obtain ⟨ad,md,g1,g2,g3,g4,g5,g6⟩:=(h.cs i k c e1 e2)
  obtain ⟨ad',md',f1,f2,f3,f4,f5⟩:=((h.cs i k c e1 e2).sub t).keepI kp h1.at_ (h.npp.2 k (aZ e1))
  have q1:=kp _ _ (fun z=>h.npp.2 k (aZ e1) z) (t _ _ g1)
  exact ⟨ad,md,q1,f2,kp.lst (aG (t.lst g3) h1.at_) (t.lst g3),kp.lst (aG (t.lst g4) h1.at_) (t.lst g4),sub _ g5 (old _ _ (aY g3)),sub _ g6 (old _ _ (aY g4))⟩
 ·have n:=h.nl
  unfold BdA.lists at n np ⊢
  simp only [List.mem_cons,not_or] at np
  simp only [List.nodup_cons,List.mem_cons,not_or] at n ⊢
  exact ⟨⟨fun z=>np.1 z.symm,n.1.2⟩,⟨np.2.2.1,np.2.2.2.1,np.2.2.2.2⟩,n.2.2⟩
 ·by_cases z:x=p
  ·exact .inr (z ▸ hp)
  ·refine .inl ?_
   unfold BdA.foot BdA.lists at hx ⊢
   simp only [List.mem_cons,List.mem_append] at hx ⊢
   rcases hx with y | y | (y | y | y | y | y) | y
   ·exact .inl y
   ·exact .inr (.inl y)
   ·exact .inr (.inr (.inl (.inl y)))
   ·exact absurd y z
   ·exact .inr (.inr (.inl (.inr (.inr (.inl y)))))
   ·exact .inr (.inr (.inl (.inr (.inr (.inr (.inl y))))))
   ·exact .inr (.inr (.inl (.inr (.inr (.inr (.inr y))))))
   ·exact .inr (.inr (.inr y))
section
variable {P:Program} {w:World} {K:PySem.W.Frag} {mg:Str→Option Value} {base:Heap} {a:Ad}
theorem sw (G:Gl K mg a):Fq P w K mg base 1 a.Board_add_leg (kN a):=by
 refine aX G.Board_add_leg.toDG jO (fun ds M Q h=>?_) (fun cdv A outer s H E hr=>⟨_,(ah (aC (bM (ap (aa 0 (pv 0))) (ae (aa 1 (pv 1)) ag)))
 (ai (aC (bM (ap (aA (ap (aa 0 (pv 0))) (aA (aa 1 (pv 1)) ak))) (ae (aA (aa 1 (pv 1)) ak) ag))))),?_⟩)
 ·obtain ⟨A,V,i,k,c,f,g,y,rfl,_⟩:=h
  rfl
 ·rintro ds M Q ⟨A,V,i,k,c,f,g,y,rfl,ci,l1,l2,q⟩
  have hz:sizeLine=16777216:=sizeLine_eq
  have bd:=ci.bd
  refine aj bd.at_ (af rfl ⟨by show (lstM M A.le).isSome=true; rw [bd.le]; rfl,af bd.le ⟨by omega,?_⟩⟩)
  obtain ⟨b1,s1⟩:=bd.putLeg (es:=V.legs ++ [.tup [.int (i:Nat),f,.str g,y]])
  generalize am M A.le (.lst (V.legs ++ [.tup [.int (i:Nat),f,.str g,y]]))=M1 at b1 s1 ⊢
  obtain ⟨ad,md,h1,h2,h3,h4,n1,n2⟩:=b1.cs i k c ci.e1 ci.e2
  refine aj b1.at_ (af rfl (af b1.ca (af (bV ci.e1) (aj h1 (af rfl ⟨by show (lstM M1 k.wy).isSome=true; rw [h2]; rfl,af h2 ⟨by rw [List.length_map]; omega,?_⟩⟩)))))
  obtain ⟨b2,s2⟩:=b1.putWay (ws:=c.way ++ [g]) ci.e1 ci.e2
  rw [List.map_append] at b2 s2
  exact ⟨_,.refl,q _ (s1.trans s2) b2⟩
theorem wV (G:Gl K mg a):Fq P w K mg base 2 a.Board_merge (nc a):=by
 have C_end_call:=tG (P:=P) (w:=w) (base:=base) G
 refine aX G.Board_merge.toDG gQ (fun ds M Q h=>?_) (fun cdv A outer s H E hr=>⟨_,(ah (aC (ax C_end_call hr G.end_call (ae (aA (ap (aa 0 (pv 0))) (aa 1 (pv 1))) (ae ao ag))))
 (ah (aO (aa 0 (pv 0)) (be rfl (bH (ix:=[none,some 1,some 2]) (N':=["leg","merged","kept"]) (by kernel_rfl)) (aV (ap (aa 0 (pv 0)))) (fun C s0 H0 ex=>(aB (i:=0) (show List.Nodup (["leg","merged","kept"]:List Str) by decide +kernel) rfl (Or.inl rfl))) (fun C s0 H0 ex=>bK) (fun C s0 H0 ex=>(Cr (au (hu9 hr) (aA (aa 0 (pv 0)) ak) (aa 1 (pv 1))) (aS (aI (ae (aa 2 (pv 2)) ag)) (cq (aa 0 (pv 0)) (di ak) cY)) (aa 0 (pv 0))))))
 (ah (aE (i:=4) gQ.nd rfl (Or.inl rfl) (aA (ap (aa 0 (pv 0))) (aa 2 (pv 2))))
 (ai (aO (aa 4 (pv 4)) (aP dH rfl G.no_list dN (ae (aa 3 (pv 3)) ag))))))),?_⟩)
 ·obtain ⟨A,V,i,j,ki,ci,cj,ms,rfl,_⟩:=h
  rfl
 ·rintro ds M Q ⟨A,V,i,j,ki,ci,cj,ms,rfl,hi,hj,nij,l1,lok,q⟩
  have hz:sizeLine=16777216:=sizeLine_eq
  refine aj hi.bd.at_ (af rfl (af rfl (af hi.bd.ca (af (bV hi.e1) ⟨A,V,i,ki,ci,"merged",rfl,hi,fun M1 s1 b1=>?_⟩))))
  have hj1:(gw V i (ci.over "merged")).calls[j]?=some cj:=by
   show (V.calls.set i _)[j]?=_
   rw [List.getElem?_set_ne nij]
   exact hj
  refine aj b1.at_ (af rfl (af b1.le (br (f:=ny i j) b1.le _ [] _ (by simp only [List.length_nil]; show 0 + V.legs.length≤sizeLine; omega) (fun d hd k hk=>?_) fun p hp=>?_)))
  ·obtain ⟨i0,f,g,y,rfl⟩:=lok d hd
   refine af rfl ?_
   have hk:k (if i0=(i:Int) then .tup [.int (j:Nat),f,g,y] else .tup [.int i0,f,g,y]) M1:=hk
   refine bo (c:=i0 == (i:Nat)) (fun z=>?_) (fun z=>?_)
   ·rw [if_pos (eq_of_beq z)] at hk
    exact ⟨few rfl,List.cons_ne_nil _ _,by show 1 + 3≤sizeLine; omega,hk⟩
   ·rw [if_neg (fun y=>z (by rw [y]; exact beq_self_eq_true _))] at hk
    exact hk
  rw [List.nil_append]
  obtain ⟨b2,s2⟩:=b1.newLeg (es:=V.legs.map (ny i j)) hp
  have t:=L3.Sub.new (c:=.lst (V.legs.map (ny i j))) hp
  refine aj (t _ _ b1.at_) ⟨(G.n_Board "legs" rfl),by show 8 < 1000; decide,?_⟩
  show dw _ _ _ _ (am (am M1 p (.lst (V.legs.map (ny i j)))) A.b (.ins a.c_Board (fk (.ref V.p) V.h V.t A.ca p A.nx A.on A.lo)))
  have b2:az a (am (am M1 p (.lst (V.legs.map (ny i j)))) A.b (.ins a.c_Board (fk (.ref V.p) V.h V.t A.ca p A.nx A.on A.lo))) { A with le:=p } { gw V i (ci.over "merged") with legs:=V.legs.map (ny i j) }:=b2
  have s2:bL A M1 { A with le:=p } (am (am M1 p (.lst (V.legs.map (ny i j)))) A.b (.ins a.c_Board (fk (.ref V.p) V.h V.t A.ca p A.nx A.on A.lo))):=s2
  generalize am (am M1 p (.lst (V.legs.map (ny i j)))) A.b (.ins a.c_Board (fk (.ref V.p) V.h V.t A.ca p A.nx A.on A.lo))=M2 at b2 s2 ⊢
  have hjk:j < A.cs.length:=by rw [hi.bd.len]; exact (List.getElem?_eq_some_iff.mp hj).1
  have ej:A.cs[j]?=some A.cs[j]:=List.getElem?_eq_getElem hjk
  generalize A.cs[j]=kj at ej
  have cj2:CI a M2 { A with le:=p } _ j kj cj:=⟨b2,ej,hj1⟩
  refine aj b2.at_ (af rfl (af rfl (af b2.ca (af (bV ej) ?_))))
  refine fun r hr0=>?_
  have t3:=L3.Sub.new (c:=.lst (ms.map D.str)) hr0
  have lr:lstM (am M2 r (.lst (ms.map D.str))) r=some (ms.map D.str):=av
  have nr:=b2.notL hr0
  have cj3:=cj2.sub t3
  generalize am M2 r (.lst (ms.map D.str))=M3 at t3 lr cj3 ⊢
  obtain ⟨ad,md,h1,h2,h3,h4,n1,n2⟩:=cj3.cell
  refine aj h1 ⟨(G.n_Call "members" rfl),by show 8 < 1000; decide,_,.refl,?_⟩
  obtain ⟨g5,s5⟩:=cj3.put { cj with ms:=ms } rfl h3 lr n1 nr
  exact q _ { A with le:=p } rfl (s1.trans (s2.trans ((bL.sub t3).trans s5))) g5.bd
end
def pK (ps:List (Str × Int)) (z:Str) (n:Int):List (Str × Int):=if (ps.any fun p=>decide (p.1=z))=true then ps.map (fun p=>if p.1=z then (p.1,n) else p) else ps ++ [(z,n)]
theorem mJ (ps:List (Str × Int)) (z:Str) (n:Int):lx (bA ps) (.inr z) (.int n)=bA (pK ps z n):=by
 have ea:((bA ps).any fun kv=>decide (kv.1=(Sum.inr z:Key)))=ps.any fun p=>decide (p.1=z):=by
  unfold bA
  rw [List.any_map]
  congr 1
  funext p
  have:((Sum.inr p.1:Key)=Sum.inr z)=(p.1=z):=propext ⟨fun h=>Sum.inr.inj h,fun h=>by rw [h]⟩
  simp only [Function.comp,this]
 unfold lx pK
 rw [ea]
 by_cases h:(ps.any fun p=>decide (p.1=z))=true
 ·rw [if_pos h,if_pos h]
  unfold bA
  rw [List.map_map,List.map_map]
  refine List.map_congr_left fun p _=>?_
  by_cases hp:p.1=z
  ·simp [hp]
  ·have:¬ (Sum.inr p.1:Key)=Sum.inr z:=fun y=>hp (Sum.inr.inj y)
   simp [hp]
 ·rw [if_neg h,if_neg h]
  unfold bA
  rw [List.map_append]
  rfl
def cJ (V:BdV) (e:D):BdV:={ V with log:=V.log ++ [e] }
inductive Ev (V:BdV):D→BdV→Prop
 | new (n:Int) (x:Str):Ev V (.tup [.str "new",.int n,.str x]) { V with calls:=V.calls ++ [lu x] }
 | leg (i:Nat) (c:ar) (f g y:Str) (h:V.calls[i]?=some c):Ev V (.tup [.str "leg",.int (i:Nat),.str f,.str g,.str y]) { gw V i (pC c g) with legs:=V.legs ++ [.tup [.int (i:Nat),.str f,.str g,.str y]] }
 | next (z:Str) (n:Int):Ev V (.tup [.str "next",.str z,.int n]) { V with ps:=pK V.ps z n }
 | merge (i j:Nat) (ci cj:ar) (ms:List Str) (h1:V.calls[i]?=some ci) (h2:V.calls[j]?=some cj) (h3:i ≠ j) (h4:∀ d∈V.legs,om d) (h5:ms.length≤100):Ev V (.tup [.str "merge",.int (i:Nat),.int (j:Nat),.tup (ms.map D.str)]) (sU V i j ci cj ms)
 | asks (x:Int) (y:Str) (z:List Int):Ev V (.tup [.str "asks",.int x,.str y,.tup (z.map D.int)]) V
 | chg (i:Nat) (c:ar) (e:D) (c':ar) (h:V.calls[i]?=some c) (hc:Chg i c e c'):Ev V e (gw V i c')
structure Lim (V:BdV):Prop where
 lo:V.log.length < 100000
 le:V.legs.length < 100000
 ca:V.calls.length < 10000
 ps:V.ps.length < 10000
 cs:∀ c∈V.calls,c.way.length < 100000∧c.at_.length≤100∧c.ms.length≤100
def m7 (a:Ad):Sp3:=fun ds M Q=>∃ b A V e V',ds=[.ref b,e]∧A.b=b∧az a M A V∧Lim V∧Ev (cJ V e) e V'∧∀ M' A',A'.b=A.b→bL A M A' M'→az a M' A' V'→Q .non M'
section
variable {P:Program} {w:World} {K:PySem.W.Frag} {mg:Str→Option Value} {base:Heap} {a:Ad}
theorem ez (G:Gl K mg a):Fq P w K mg base 3 a.Board_apply (m7 a):=by
 have C_Board_merge:=wV (P:=P) (w:=w) (base:=base) G
 have C_Board_add_leg:=sw (P:=P) (w:=w) (base:=base) G
 have C_change_call:=uY (P:=P) (w:=w) (base:=base) G
 have C_Call_init:=yk (P:=P) (w:=w) (base:=base) G
 refine aX G.Board_apply.toDG gN (fun ds M Q h=>?_) (fun cdv A outer s H E hr=>⟨_,(ah (aC (bM (ap (aa 0 (pv 0))) (ae (aa 1 (pv 1)) ag)))
 (ah (aE (i:=2) gN.nd rfl (Or.inl rfl) (aA (aa 1 (pv 1)) ak))
 (ai (aF (au (hu9 hr) (aa 2 (pv 2)) ao)
 (ai (aC (bM (ap (aa 0 (pv 0))) (ae (pD C_Call_init hr G.c_Call G.i_Call G.Call_init.toDG (ae (aA (aa 1 (pv 1)) ak) ag)) ag))))
 (ai (aF (au (hu9 hr) (aa 2 (pv 2)) ao)
 (ai (aC (aJ (aa 0 (pv 0)) G.c_Board.toCls G.Board_add_leg C_Board_add_leg hr (ae (cq (aa 1 (pv 1)) (di ak) cY) ag))))
 (ai (aF (au (hu9 hr) (aa 2 (pv 2)) ao)
 (ai (tP (hu9 hr) (ap (aa 0 (pv 0))) (aA (aa 1 (pv 1)) ak) (aA (aa 1 (pv 1)) ak)))
 (ai (aF (au (hu9 hr) (aa 2 (pv 2)) ao)
 (ai (aC (aJ (aa 0 (pv 0)) G.c_Board.toCls G.Board_merge C_Board_merge hr (ae (aA (aa 1 (pv 1)) ak) (ae (aA (aa 1 (pv 1)) ak) (ae (aA (aa 1 (pv 1)) ak) ag))))))
 (ai (aF (au (hu9 hr) (aa 2 (pv 2)) ao)
 (ai bz)
 (ai (aF (au (hu9 hr) (aa 2 (pv 2)) (aI (ae ao (ae ao ag))))
 (ai (Ay (ba (hu9 hr) (aa 2 (pv 2)) ao) (Bu (ap (aa 0 (pv 0))) (aA (aa 1 (pv 1)) ak))))
 (ai (aF (au (hu9 hr) (aa 2 (pv 2)) ao)
 (ai (aC (ax C_change_call hr G.change_call (ae (aA (ap (aa 0 (pv 0))) (aA (aa 1 (pv 1)) ak)) (ae (aa 1 (pv 1)) ag)))))
 ay)))))))))))))))),?_⟩)
 ·obtain ⟨b,A,V,e,V',rfl,_⟩:=h
  rfl
 ·rintro ds M Q ⟨_,A,V,e,V',rfl,rfl,bd,lim,ev,q⟩
  have hz:sizeLine=16777216:=sizeLine_eq
  have ll:=lim.lo
  have lc:=lim.ca
  have lp:=lim.ps
  refine aj bd.at_ (af rfl ⟨by show (lstM M A.lo).isSome=true; rw [bd.lo]; rfl,af bd.lo ⟨by omega,?_⟩⟩)
  obtain ⟨b1,s1⟩:=bd.putLog (es:=V.log ++ [e])
  generalize am M A.lo (.lst (V.log ++ [e]))=M1 at b1 s1 ⊢
  have b1:az a M1 A (cJ V e):=b1
  have lcs:∀ (i:Nat) c,(cJ V e).calls[i]?=some c→c.way.length < 100000∧c.at_.length≤100∧c.ms.length≤100:=fun i c h=>lim.cs c (aZ (l:=V.calls) h)
  have kat:∀ (i:Nat) c,(cJ V e).calls[i]?=some c→∃ k,A.cs[i]?=some k:=fun i c h=>by
   have hi:i < A.cs.length:=by rw [b1.len]; exact (List.getElem?_eq_some_iff.mp h).1
   exact ⟨_,List.getElem?_eq_getElem hi⟩
  cases ev with
  | new n x =>
   refine aj b1.at_ (af rfl ⟨by show (lstM M1 A.ca).isSome=true; rw [b1.ca]; rfl,fun p hp=>⟨p,x,rfl,aL,fun M2 wy ad md kp z1 z2 z3 n1 n2 h1 h2 h3 h4=>⟨rfl,?_⟩⟩⟩)
   have sp:=L3.Sub.new (c:=.ins a.c_Call []) hp
   have s2:L3.Sub M1 M2:=fun y d hy=>kp y d (neM hy hp) (sp y d hy)
   refine af (s2.lst b1.ca) ⟨by rw [List.length_map,b1.len]; show V.calls.length < sizeLine; omega,?_⟩
   obtain ⟨b3,s3⟩:=b1.addCall s2 (c:=lu x) hp (sp.none z1) (sp.none z2) (sp.none z3) h1 h2 h3 h4 n1 n2
   exact ⟨_,.refl,q _ (A.add ⟨p,wy⟩) rfl (s1.trans s3) b3⟩
  | leg i c f g y h =>
   obtain ⟨k,ek⟩:=kat i c h
   exact aj b1.at_ ⟨rfl,_,⟨rfl,rfl⟩,A,cJ V _,i,k,c,.str f,g,.str y,rfl,⟨b1,ek,h⟩,lim.le,(lcs i c h).1,fun M2 s2 b2=>⟨M2,.refl,q M2 A rfl (s1.trans s2) b2⟩⟩
  | next z n =>
   refine aj b1.at_ (af rfl (af b1.nx ⟨by show (bA V.ps).length < sizeLine; unfold bA; rw [List.length_map]; omega,?_⟩))
   rw [mJ]
   obtain ⟨b2,s2⟩:=b1.putNx (ps:=pK V.ps z n)
   exact ⟨_,.refl,q _ A rfl (s1.trans s2) b2⟩
  | merge i j ci cj ms h1 h2 h3 h4 _ =>
   obtain ⟨k,ek⟩:=kat i ci h1
   exact aj b1.at_ ⟨rfl,_,⟨rfl,rfl⟩,A,cJ V _,i,j,k,ci,cj,ms,rfl,⟨b1,ek,h1⟩,h2,h3,lim.le,h4,fun M2 A2 eb s2 b2=>⟨M2,.refl,q M2 A2 eb (s1.trans s2) b2⟩⟩
  | asks x y z=>exact ⟨few rfl,rfl,rfl,M1,.refl,q M1 A rfl s1 b1⟩
  | chg i c e c' h hc =>
   obtain ⟨k,ek⟩:=kat i c h
   obtain ⟨_,l2,l3⟩:=lcs i c h
   cases hc with
   | rings ps hl=>exact ⟨few rfl,rfl,rfl,aj b1.at_ (af rfl (af b1.ca (af (bV ek) ⟨A,cJ V _,i,k,c,_,_,rfl,⟨b1,ek,h⟩,l2,l3,.rings ps hl,fun M2 s2 b2=>⟨M2,.refl,q M2 A rfl (s1.trans s2) b2⟩⟩)))⟩
   | talks ms hl=>exact ⟨few rfl,rfl,rfl,aj b1.at_ (af rfl (af b1.ca (af (bV ek) ⟨A,cJ V _,i,k,c,_,_,rfl,⟨b1,ek,h⟩,l2,l3,.talks ms hl,fun M2 s2 b2=>⟨M2,.refl,q M2 A rfl (s1.trans s2) b2⟩⟩)))⟩
   | held x=>exact ⟨few rfl,rfl,rfl,aj b1.at_ (af rfl (af b1.ca (af (bV ek) ⟨A,cJ V _,i,k,c,_,_,rfl,⟨b1,ek,h⟩,l2,l3,.held x,fun M2 s2 b2=>⟨M2,.refl,q M2 A rfl (s1.trans s2) b2⟩⟩)))⟩
   | leaves x=>exact ⟨few rfl,rfl,rfl,aj b1.at_ (af rfl (af b1.ca (af (bV ek) ⟨A,cJ V _,i,k,c,_,_,rfl,⟨b1,ek,h⟩,l2,l3,.leaves x,fun M2 s2 b2=>⟨M2,.refl,q M2 A rfl (s1.trans s2) b2⟩⟩)))⟩
   | over w0=>exact ⟨few rfl,rfl,rfl,aj b1.at_ (af rfl (af b1.ca (af (bV ek) ⟨A,cJ V _,i,k,c,_,_,rfl,⟨b1,ek,h⟩,l2,l3,.over w0,fun M2 s2 b2=>⟨M2,.refl,q M2 A rfl (s1.trans s2) b2⟩⟩)))⟩
end
end Z
namespace Z
open PySem PySem.Spec PyProof.Rows L2 L3
def sy (V:BdV):Prop:=∀ c∈V.calls,c.st ≠ "waits"
def ib (V:BdV) (x:Str):Prop:=∀ c∈V.calls,c.bindsB x=false∧c.triedB x=false
def ko (wd:Str) (x:Str):List ar→Bool
 | []=>false
 | c :: r=>if (wd == "answer")=true then hasS c.at_ x else if (wd == "hang")=true then c.leaveB x else if (wd == "hold")=true then c.pairsB x else (c.hd == some x) && (r.head?.elim false fun d=>d.pairsB x)
def sX (wd:Str):Prop:=wd="answer"∨wd="hang"∨wd="hold"
theorem iN (bs:List Bool):(eF bs=.non∧∀ b∈bs,b=false)∨∃ j:Nat,eF bs=.int j:=by
 unfold eF
 cases e:gW (.bl true) (bs.map D.bl) with
 | none =>
  refine .inl ⟨rfl,fun b hb=>?_⟩
  have h:=oB (.bl true) (bs.map D.bl)
  rw [e,List.any_map] at h
  have:=List.any_eq_false.mp h.symm b hb
  cases b with
  | false=>rfl
  | true=>exact absurd rfl this
 | some j=>exact .inr ⟨j,rfl⟩
theorem bR {l:aD} {x:Str} (h:x∈l.pn):∃ v,l.phone x=some v:=by
 unfold aD.phone
 cases e:l.phones.find? fun p=>decide (p.1=x) with
 | none =>
  obtain ⟨p,hp,rfl⟩:=List.mem_map.mp h
  exact absurd (List.find?_eq_none.mp e p hp) (by simp)
 | some v=>exact ⟨v,rfl⟩
theorem wQ {x:Str} {ss:List Str} (h:¬ (!(inD (.str x) (ss.map D.str)))=true):x∈ss:=by
 rw [dj] at h
 obtain ⟨y,hy,e⟩:=List.any_eq_true.mp (by simpa using h:(ss.any (· == x))=true)
 rw [← eq_of_beq e]
 exact hy
inductive iG (V:BdV):List Int→List ar→Prop
 | nil:iG V [] []
 | cons (i:Nat) (c:ar) (ns:List Int) (cs:List ar) (h:V.calls[i]?=some c) (r:iG V ns cs):iG V ((i:Nat) :: ns) (c :: cs)
def vg (a:Ad):Sp3:=fun ds M Q=>∃ A V x,ds=[.ref A.b,.str x]∧az a M A V∧V.calls.length≤10000∧(ib V x→Q .non M)∧∀ w:Str,Q (.str w) M
def xM (a:Ad):Sp3:=fun ds M Q=>∃ A V l x z v,ds=[.ref A.b,.str x,.str z]∧Rd a M A V l∧l.phones.length≤100∧l.groups.length≤100∧l.phone x=some v∧(z∈l.nm→ib V x→Q .non M)∧∀ w:Str,Q (.str w) M
inductive fj (a:Ad) (M:Mp) (L:List Addr):List bD→List ar→Prop
 | nil:fj a M L [] []
 | cons (k:bD) (c:ar) (ks:List bD) (cs:List ar) (h:bQ a M L k c) (r:fj a M L ks cs):fj a M L (k :: ks) (c :: cs)
def wF (a:Ad):Sp3:=fun ds M Q=>∃ wd x r L ks cs,ds=[.str wd,.str x,.ref r]∧lstM M r=some (List.map (fun k:bD=>D.ref k.p) ks)∧fj a M L ks cs∧((sX wd∧cs.length=1)∨(wd="join"∧cs.length=2))∧Q (.bl (ko wd x cs)) M
def tW (a:Ad):Sp3:=fun ds M Q=>∃ A V l wd x ns,ds=[.ref A.b,.str wd,.str x,.tup (List.map D.int ns)]∧Rd a M A V l∧sy V∧((sX wd∧ns.length=1)∨(wd="join"∧ns.length=2))∧(∀ w:Str,Q (.str w) M)∧∀ cs,iG V ns cs→ko wd x cs=true→(wd="answer"→ib V x)→Q .non M
def rH (a:Ad):Sp3:=fun ds M Q=>∃ A V l e,ds=[.ref A.b,e]∧Rd a M A V l∧sy V∧l.phones.length≤100∧l.groups.length≤100∧(∀ w:Str,Q (.str w) M)∧((∃ x z,e=.tup [.str "call",.str x,.str z]∧(x∈l.pn→z∈l.nm→ib V x→Q .non M)) ∨
 ∃ wd x ns,e=.tup (.str wd :: .str x :: List.map D.int ns)∧((sX wd∧ns.length=1)∨(wd="join"∧ns.length=2))∧∀ cs,iG V ns cs→ko wd x cs=true→(wd="answer"→ib V x)→Q .non M)
section
variable {P:Program} {w:World} {K:PySem.W.Frag} {mg:Str→Option Value} {base:Heap} {a:Ad}
theorem nU (G:Gl K mg a):Fq P w K mg base 4 a.word_for_idling (vg a):=by
 have C_Board_bound:=vw (P:=P) (w:=w) (base:=base) G
 have C_Board_calling:=r9 (P:=P) (w:=w) (base:=base) G
 refine aX G.word_for_idling.toDG iV (fun ds M Q h=>?_) (fun cdv A outer s H E hr=>⟨_,(ah (aF (au (hu9 hr) (aJ (aa 0 (pv 0)) G.c_Board.toCls G.Board_bound C_Board_bound hr (ae (aa 1 (pv 1)) ag)) b9)
 (ai (aw ao))
 ay)
 (ah (aF (au (hu9 hr) (aJ (aa 0 (pv 0)) G.c_Board.toCls G.Board_calling C_Board_calling hr (ae (aa 1 (pv 1)) ag)) b9)
 (ai (aw ao))
 ay)
 (ai (aw b9)))),?_⟩)
 ·obtain ⟨A,V,x,rfl,_⟩:=h
  rfl
 ·rintro ds M Q ⟨A,V,x,rfl,bd,hk,q0,q1⟩
  refine aj bd.at_ ⟨rfl,_,⟨rfl,rfl⟩,A,V,x,rfl,bd,hk,?_⟩
  rcases iN (V.calls.map (·.bindsB x)) with ⟨e,h1⟩ | ⟨j,e⟩
  ·rw [e]
   refine aj bd.at_ ⟨rfl,_,⟨rfl,rfl⟩,A,V,x,rfl,bd,hk,?_⟩
   rcases iN (V.calls.map (·.triedB x)) with ⟨e,h2⟩ | ⟨j,e⟩
   ·rw [e]
    exact ⟨M,.refl,q0 fun c hc=>⟨h1 _ (List.mem_map.mpr ⟨c,hc,rfl⟩),h2 _ (List.mem_map.mpr ⟨c,hc,rfl⟩)⟩⟩
   ·rw [e]
    exact ⟨M,.refl,q1 _⟩
  ·rw [e]
   exact ⟨M,.refl,q1 _⟩
theorem v5 (G:Gl K mg a):Fq P w K mg base 5 a.word_for_call (xM a):=by
 have C_word_for_idling:=nU (P:=P) (w:=w) (base:=base) G
 have C_Board_is_free:=iR (P:=P) (w:=w) (base:=base) G
 have C_Plan_names:=mZ (P:=P) (w:=w) (base:=base) G
 refine aX G.word_for_call.toDG fL (fun ds M Q h=>?_) (fun cdv A outer s H E hr=>⟨_,(ah (aF (au (hu9 hr) (aa 2 (pv 2)) (lb (ap (aa 0 (pv 0))) G.c_Plan.toCls G.Plan_names C_Plan_names hr))
 (ai (aw ao))
 ay)
 (ah (aE (i:=3) fL.nd rfl (Or.inl rfl) (ax C_word_for_idling hr G.word_for_idling (ae (aa 0 (pv 0)) (ae (aa 1 (pv 1)) ag))))
 (ah (aF (W3.b3 (fv (au (hu9 hr) (aa 3 (pv 3)) b9) (d4 (fW (e9 (aJ (aa 0 (pv 0)) G.c_Board.toCls G.Board_is_free C_Board_is_free hr (ae (aa 1 (pv 1)) ag)))))))
 (ai (aw ao))
 ay)
 (ai (aw (aa 3 (pv 3))))))),?_⟩)
 ·obtain ⟨A,V,l,x,z,v,rfl,_⟩:=h
  rfl
 ·rintro ds M Q ⟨A,V,l,x,z,v,rfl,rd,hp,hg,hv,q0,q1⟩
  obtain ⟨ph,gr,ws,pon,pr,gd,i1,_⟩:=rd.pl
  refine aj rd.bd.at_ (af rfl (aj i1 ⟨rfl,_,⟨rfl,rfl⟩,V.p,l,rfl,rd.pl,hp,hg,fun p hp=>af av ⟨rfl,bt _,?_⟩⟩))
  have t:=L3.Sub.new (c:=.lst (l.nm.map D.str)) hp
  have rd':=rd.sub t
  generalize am M p (.lst (l.nm.map D.str))=M1 at t rd' ⊢
  refine bo (fun _=>⟨M,t,q1 _⟩) (fun hz=>?_)
  have q0:=q0 (wQ hz)
  refine ⟨A,V,x,rfl,rd'.bd,rd'.k,fun hi=>?_,fun w0=>?_⟩
  ·refine aj rd'.bd.at_ ⟨rfl,_,⟨rfl,rfl⟩,A,V,x,v,l,rfl,rd'.bd,rd'.k,rd'.pl,hv,?_⟩
   exact bo (fun _=>⟨M,t,q1 _⟩) (fun _=>⟨M,t,q0 hi⟩)
  ·exact ⟨M,t,q1 _⟩
theorem vT (G:Gl K mg a):Fq P w K mg base 3 a.suits (wF a):=by
 have C_Call_can_be_left_by:=xp (P:=P) (w:=w) (base:=base) G
 have C_Call_pairs:=xO (P:=P) (w:=w) (base:=base) G
 refine aX G.suits.toDG wo (fun ds M Q h=>?_) (fun cdv A outer s H E hr=>⟨_,(ah (aF (au (hu9 hr) (aa 0 (pv 0)) ao)
 (ai (aw (ba (hu9 hr) (aa 1 (pv 1)) (ap (aA (aa 2 (pv 2)) ak)))))
 ay)
 (ah (aF (au (hu9 hr) (aa 0 (pv 0)) ao)
 (ai (aw (aJ (aA (aa 2 (pv 2)) ak) G.c_Call.toCls G.Call_can_be_left_by C_Call_can_be_left_by hr (ae (aa 1 (pv 1)) ag))))
 ay)
 (ah (aF (au (hu9 hr) (aa 0 (pv 0)) ao)
 (ai (aw (aJ (aA (aa 2 (pv 2)) ak) G.c_Call.toCls G.Call_pairs C_Call_pairs hr (ae (aa 1 (pv 1)) ag))))
 ay)
 (ah (aF (au (hu9 hr) (aa 0 (pv 0)) ao)
 (ai (aw (ba (hu9 hr) (ap (aA (aa 2 (pv 2)) ak)) (aa 1 (pv 1)))))
 ay)
 (ai (aw (dB (ba (hu9 hr) (ap (aA (aa 2 (pv 2)) ak)) (aa 1 (pv 1))) (cV (aJ (aA (aa 2 (pv 2)) ak) G.c_Call.toCls G.Call_pairs C_Call_pairs hr (ae (aa 1 (pv 1)) ag)))))))))),?_⟩)
 ·obtain ⟨wd,x,r,L,ks,cs,rfl,_⟩:=h
  rfl
 ·rintro ds M Q ⟨wd,x,r,L,ks,cs,rfl,lr,hcs,hw,q⟩
  cases hcs with
  | nil=>rcases hw with ⟨_,h⟩ | ⟨_,h⟩ <;> cases h
  | cons k c ks cs hc hr1 =>
  obtain ⟨ad,md,h1,h2,h3,h4,_⟩:=id hc
  have a0:=qq (.ref k.p) (ks.map fun k:bD=>D.ref k.p)
  rcases hw with ⟨rfl | rfl | rfl,h⟩ | ⟨rfl,h⟩
  ·exact af lr (af a0 (aj h1 (af rfl (ku h3 ⟨M,.refl,q⟩))))
  ·exact af lr (af a0 (aj h1 ⟨rfl,_,⟨rfl,rfl⟩,L,k,c,x,rfl,hc,M,.refl,q⟩))
  ·exact af lr (af a0 (aj h1 ⟨rfl,_,⟨rfl,rfl⟩,L,k,c,x,rfl,hc,M,.refl,q⟩))
  ·cases hr1 with
   | nil=>cases h
   | cons k' d ks cs hd _ =>
    obtain ⟨ad',md',f1,_⟩:=id hd
    have a1:atI (.ref k.p :: .ref k'.p :: ks.map fun k:bD=>D.ref k.p) 1=some (.ref k'.p):=hU (j:=1) rfl
    have q:Q (.bl ((c.hd == some x) && d.pairsB x)) M:=q
    refine af lr (af a0 (aj h1 (af rfl ?_)))
    cases e:c.hd with
    | none =>
     rw [e] at q
     exact ⟨M,.refl,q⟩
    | some y =>
     rw [e] at q
     have q:Q (.bl ((y == x) && d.pairsB x)) M:=q
     refine bo (c:=y == x) (fun g=>?_) (fun g=>?_)
     ·rw [g,Bool.true_and] at q
      exact af lr (af a1 (aj f1 ⟨rfl,_,⟨rfl,rfl⟩,L,k',d,x,rfl,hd,M,.refl,q⟩))
     ·rw [show (y == x)=false from Bool.eq_false_iff.mpr g,Bool.false_and] at q
      exact ⟨M,.refl,q⟩
end
end Z
namespace Z
open PySem PySem.Spec PyProof.Rows L2 L3
def rM (m:Nat) (i:Int):Bool:=decide (0≤i) && decide (i < m)
def rgD (m:Nat):D→D
 | .int i=>.bl (rM m i)
 | _=>.bl false
def pOf (A:BdA):D→D
 | .int i=>(A.cs[i.toNat]?).elim .non fun k=>.ref k.p
 | _=>.non
theorem Aj {V:BdV}:∀ {ns:List Int},(ns.map (rM V.calls.length)).all id=true→∃ cs,iG V ns cs
 | [],_=>⟨[],.nil⟩
 | i :: r,h=>by
  rw [List.map_cons,List.all_cons,Bool.and_eq_true] at h
  obtain ⟨cs,hc⟩:=Aj h.2
  have h1:(decide (0≤i) && decide (i < V.calls.length))=true:=h.1
  rw [Bool.and_eq_true,decide_eq_true_eq,decide_eq_true_eq] at h1
  obtain ⟨n,rfl⟩:=Int.eq_ofNat_of_zero_le h1.1
  have hn:n < V.calls.length:=by omega
  exact ⟨_,.cons n _ r cs (List.getElem?_eq_getElem hn) hc⟩
theorem CW {a:Ad} {M:Mp} {A:BdA} {V:BdV} (bd:az a M A V) {ns:List Int} {cs:List ar} (h:iG V ns cs):∃ ks,fj a M A.lists ks cs∧(ns.map D.int).map (pOf A)=ks.map (fun k:bD=>D.ref k.p)∧∀ i∈ns,∃ k,0≤i∧A.cs[i.toNat]?=some k:=by
 induction h with
 | nil=>exact ⟨[],.nil,rfl,fun i hi=>by cases hi⟩
 | cons i c ns cs h r ih =>
  obtain ⟨ks,h1,h2,h3⟩:=ih
  have hi:i < A.cs.length:=by rw [bd.len]; exact (List.getElem?_eq_some_iff.mp h).1
  have e:A.cs[i]?=some A.cs[i]:=List.getElem?_eq_getElem hi
  refine ⟨A.cs[i] :: ks,.cons _ _ _ _ (bd.cs _ _ _ e h) h1,?_,fun j hj=>?_⟩
  ·rw [List.map_cons,List.map_cons,h2]
   show (A.cs[i]?).elim _ _ :: _=_
   rw [e]
   rfl
  ·rcases List.mem_cons.mp hj with rfl | hj
   ·exact ⟨_,Int.natCast_nonneg _,e⟩
   ·exact h3 j hj
theorem fj.sub {a:Ad} {M M':Mp} {L:List Addr} {ks:List bD} {cs:List ar} (h:fj a M L ks cs) (s:L3.Sub M M'):fj a M' L ks cs:=by
 induction h with
 | nil=>exact .nil
 | cons k c ks cs h r ih=>exact .cons k c ks cs (h.sub s) ih
theorem iG.mem {V:BdV} {ns:List Int} {cs:List ar} (h:iG V ns cs):cs.length=ns.length∧∀ c∈cs,c∈V.calls:=by
 induction h with
 | nil=>exact ⟨rfl,fun c hc=>by cases hc⟩
 | cons i c ns cs h r ih =>
  refine ⟨congrArg Nat.succ ih.1,fun d hd=>?_⟩
  rcases List.mem_cons.mp hd with rfl | hd
  ·exact aZ h
  ·exact ih.2 d hd
section
variable {P:Program} {w:World} {K:PySem.W.Frag} {mg:Str→Option Value} {base:Heap} {a:Ad}
theorem zc (G:Gl K mg a):Fq P w K mg base 5 a.word_for_numbers (tW a):=by
 have C_word_for_idling:=nU (P:=P) (w:=w) (base:=base) G
 have C_Board_is_free:=iR (P:=P) (w:=w) (base:=base) G
 have C_suits:=vT (P:=P) (w:=w) (base:=base) G
 have C_Call_waits_with:=vW (P:=P) (w:=w) (base:=base) G
 refine aX G.word_for_numbers.toDG cH (fun ds M Q h=>?_) (fun cdv A outer s H E hr=>⟨_,(ah (aF (fW (e9 (aH (pU rfl) rfl G.no_all pG (ae (be rfl (bH (ix:=[none,some 0]) (N':=["number","board"]) (by kernel_rfl)) (aV (aa 3 (pv 3))) (fun C s0 H0 ex=>(aB (i:=0) (show List.Nodup (["number","board"]:List Str) by decide +kernel) rfl (Or.inl rfl))) (fun C s0 H0 ex=>bK) (fun C s0 H0 ex=>(fJ (hu9 hr) ak (aa 0 (pv 0)) (aH bn rfl G.no_len bi (ae (ap (aa 1 (pv 1))) ag))))) ag))))
 (ai (aw ao))
 ay)
 (ah (fT (i:=4) cH.nd rfl (Or.inl rfl) rfl (bH (ix:=[none,some 0]) (N':=["number","board"]) (by kernel_rfl)) (aV (aa 3 (pv 3))) (fun C s0 H0 ex=>(aB (i:=0) (show List.Nodup (["number","board"]:List Str) by decide +kernel) rfl (Or.inl rfl))) (fun C s0 H0 ex=>bK) (fun C s0 H0 ex=>(aA (ap (aa 1 (pv 1))) (aa 0 (pv 0)))))
 (ah (aF (fW (e9 (ax C_suits hr G.suits (ae (aa 1 (pv 1)) (ae (aa 2 (pv 2)) (ae (aa 4 (pv 4)) ag))))))
 (ai (aw ao))
 ay)
 (ah (aF (au (hu9 hr) (aa 1 (pv 1)) (aI (ae ao (ae ao ag))))
 (ai (aw b9))
 ay)
 (ah (aE (i:=5) cH.nd rfl (Or.inl rfl) (ax C_word_for_idling hr G.word_for_idling (ae (aa 0 (pv 0)) (ae (aa 2 (pv 2)) ag))))
 (ah (aF (W3.b3 (fv (au (hu9 hr) (aa 5 (pv 5)) b9) (fv (e9 (aJ (aA (aa 4 (pv 4)) ak) G.c_Call.toCls G.Call_waits_with C_Call_waits_with hr (ae (aa 2 (pv 2)) ag))) (d4 (fW (e9 (aJ (aa 0 (pv 0)) G.c_Board.toCls G.Board_is_free C_Board_is_free hr (ae (aa 2 (pv 2)) ag))))))))
 (ai (aw ao))
 ay)
 (ai (aw (aa 5 (pv 5)))))))))),?_⟩)
 ·obtain ⟨A,V,l,wd,x,ns,rfl,_⟩:=h
  rfl
 ·rintro ds M Q ⟨A,V,l,wd,x,ns,rfl,rd,nw,hw,q1,q0⟩
  have hz:sizeLine=16777216:=sizeLine_eq
  have hn2:ns.length≤2:=by rcases hw with ⟨_,h⟩ | ⟨_,h⟩ <;> omega
  have lca:((A.cs.map fun k=>D.ref k.p).length:Int)=V.calls.length:=by rw [List.length_map,rd.bd.len]
  refine br (f:=rgD V.calls.length) trivial _ [] _ (by rw [List.length_map]; simp only [List.length_nil]; omega) (fun d hd k hk=>?_) fun p hp=>?_
  ·obtain ⟨i,_,rfl⟩:=List.mem_map.mp hd
   have hk:k (.bl (decide (0≤i) && decide (i < V.calls.length))) M:=hk
   refine bo (c:=decide (0≤i)) (fun g=>?_) (fun g=>?_)
   ·rw [g,Bool.true_and] at hk
    refine aj rd.bd.at_ (af rfl (af rd.bd.ca ?_))
    rw [lca]
    exact hk
   ·rw [show decide (0≤i)=false from Bool.eq_false_iff.mpr g,Bool.false_and] at hk
    exact hk
  have em:[] ++ (ns.map D.int).map (rgD V.calls.length)=ns.map fun i=>D.bl (rM V.calls.length i):=by
   rw [List.nil_append,List.map_map]
   rfl
  rw [em]
  have t:=L3.Sub.new (c:=.lst (ns.map fun i=>D.bl (rM V.calls.length i))) hp
  refine af av (af (jn (rM V.calls.length) ns) ?_)
  have rd':=rd.sub t
  generalize am M p (.lst (ns.map fun i=>D.bl (rM V.calls.length i)))=M1 at t rd' ⊢
  refine bo (c:=!((ns.map (rM V.calls.length)).all id)) (fun _=>⟨M,t,q1 _⟩) (fun hall=>?_)
  obtain ⟨cs,hcs⟩:=Aj (V:=V) (ns:=ns) (by simpa using hall)
  obtain ⟨ks,hks,eks,hin⟩:=CW rd'.bd hcs
  refine br (f:=pOf A) trivial _ [] _ (by rw [List.length_map]; simp only [List.length_nil]; omega) (fun d hd k0 hk=>?_) fun p2 hp2=>?_
  ·obtain ⟨i,hi,rfl⟩:=List.mem_map.mp hd
   obtain ⟨k,i0,e1⟩:=hin i hi
   obtain ⟨n,rfl⟩:=Int.eq_ofNat_of_zero_le i0
   have e1:A.cs[n]?=some k:=e1
   have hk:k0 ((A.cs[n]?).elim .non fun k=>.ref k.p) M1:=hk
   rw [e1] at hk
   exact aj rd'.bd.at_ (af rfl (af rfl (af rd'.bd.ca (af (bV e1) hk))))
  rw [List.nil_append,eks]
  have t2:=L3.Sub.new (c:=.lst (ks.map fun k:bD=>D.ref k.p)) hp2
  have l2:lstM (am M1 p2 (.lst (ks.map fun k:bD=>D.ref k.p))) p2=some (ks.map fun k:bD=>D.ref k.p):=av
  have rd2:=rd'.sub t2
  have s2:=t.trans t2
  generalize am M1 p2 (.lst (ks.map fun k:bD=>D.ref k.p))=M2 at l2 rd2 s2 t2 ⊢
  obtain ⟨lcs,mcs⟩:=hcs.mem
  have hks:=hks.sub t2
  refine ⟨wd,x,p2,_,ks,cs,rfl,l2,hks,hw.imp (fun h=>⟨h.1,lcs.trans h.2⟩) (fun h=>⟨h.1,lcs.trans h.2⟩),?_⟩
  refine bo (c:=!ko wd x cs) (fun _=>⟨M,s2,q1 _⟩) (fun g=>?_)
  have qn:=q0 cs hcs (by simpa using g)
  rcases hw with ⟨rfl | rfl | rfl,h⟩ | ⟨rfl,h⟩
  ·refine ⟨few rfl,rfl,rfl,?_⟩
   cases hks with
   | nil=>cases lcs.trans h
   | cons k c ks cs hc _ =>
   refine ⟨A,V,x,rfl,rd2.bd,rd2.k,fun hi=>?_,fun w0=>⟨M,s2,q1 _⟩⟩
   have hwt:c.waitsB x=false:=by
    unfold ar.waitsB
    rw [show (c.st == "waits")=false by simpa using nw c (mcs c List.mem_cons_self)]
    rfl
   obtain ⟨ad,md,h1,_⟩:=id hc
   refine af l2 (af (qq _ _) (aj h1 ⟨rfl,_,⟨rfl,rfl⟩,_,k,c,x,rfl,hc,?_⟩))
   rw [hwt]
   exact ⟨M,s2,qn fun _=>hi⟩
  ·exact ⟨few rfl,rfl,rfl,M,s2,qn fun z=>by cases z⟩
  ·exact ⟨few rfl,rfl,rfl,M,s2,qn fun z=>by cases z⟩
  ·exact ⟨few rfl,rfl,rfl,M,s2,qn fun z=>by cases z⟩
theorem rJ (G:Gl K mg a):Fq P w K mg base 6 a.refusal (rH a):=by
 have C_word_for_call:=v5 (P:=P) (w:=w) (base:=base) G
 have C_word_for_numbers:=zc (P:=P) (w:=w) (base:=base) G
 have C_Plan_phone_names:=cI (P:=P) (w:=w) (base:=base) G
 refine aX G.refusal.toDG lv (fun ds M Q h=>?_) (fun cdv A outer s H E hr=>⟨_,(ah (aE (i:=2) lv.nd rfl (Or.inl rfl) (aA (aa 1 (pv 1)) ak))
 (ah (aF (au (hu9 hr) (aa 2 (pv 2)) ao)
 (ai (aw b9))
 ay)
 (ah (aF (au (hu9 hr) (aa 2 (pv 2)) (aI (ae ao (ae ao ag))))
 (ai bz)
 ay)
 (ah (aF (au (hu9 hr) (aA (aa 1 (pv 1)) ak) (lb (ap (aa 0 (pv 0))) G.c_Plan.toCls G.Plan_phone_names C_Plan_phone_names hr))
 (ai (aw ao))
 ay)
 (ah (aF (au (hu9 hr) (aa 2 (pv 2)) ao)
 (ai (aw (ax C_word_for_call hr G.word_for_call (ae (aa 0 (pv 0)) (ae (aA (aa 1 (pv 1)) ak) (ae (aA (aa 1 (pv 1)) ak) ag))))))
 ay)
 (ai (aw (ax C_word_for_numbers hr G.word_for_numbers (ae (aa 0 (pv 0)) (ae (aa 2 (pv 2)) (ae (aA (aa 1 (pv 1)) ak) (ae (cq (aa 1 (pv 1)) (di ak) cY) ag)))))))))))),?_⟩)
 ·obtain ⟨A,V,l,e,rfl,_⟩:=h
  rfl
 ·rintro ds M Q ⟨A,V,l,e,rfl,rd,nw,hp,hg,q1,hd⟩
  obtain ⟨ph,gr,ws,pon,pr,gd,i1,_⟩:=rd.pl
  rcases hd with ⟨x,z,rfl,q0⟩ | ⟨wd,x,ns,rfl,hw,q0⟩
  ·refine ⟨few rfl,rfl,rfl,?_⟩
   refine aj rd.bd.at_ (af rfl (aj i1 ⟨rfl,_,⟨rfl,rfl⟩,V.p,l,rfl,rd.pl,hp,fun p hp2=>af av ⟨rfl,bt _,?_⟩⟩))
   have t:=L3.Sub.new (c:=.lst (l.pn.map D.str)) hp2
   have rd':=rd.sub t
   generalize am M p (.lst (l.pn.map D.str))=M1 at t rd' ⊢
   refine bo (fun _=>⟨M,t,q1 _⟩) (fun hx=>?_)
   have hx:=wQ hx
   obtain ⟨v,hv⟩:=bR hx
   exact ⟨A,V,l,x,z,v,rfl,rd',hp,hg,hv,fun h1 h2=>⟨M,t,q0 hx h1 h2⟩,fun w0=>⟨M,t,q1 w0⟩⟩
  ·have go:∀ Q':DK,(∀ M1,L3.Sub M M1→(∀ w:Str,Q' (.str w) M1)∧∀ cs,iG V ns cs→ko wd x cs=true→(wd="answer"→ib V x)→Q' .non M1)→∀ M1,L3.Sub M M1→tW a [.ref A.b,.str wd,.str x,.tup (ns.map D.int)] M1 Q':=fun Q' hq M1 s1=>⟨A,V,l,wd,x,ns,rfl,rd.sub s1,nw,hw,(hq M1 s1).1,(hq M1 s1).2⟩
   have fin:∀ M1,L3.Sub M M1→(∀ w:Str,∃ M'',L3.Sub M'' M1∧Q (.str w) M'')∧∀ cs,iG V ns cs→ko wd x cs=true→(wd="answer"→ib V x)→∃ M'',L3.Sub M'' M1∧Q .non M'':=fun M1 s1=>⟨fun w0=>⟨M,s1,q1 w0⟩,fun cs c1 c2 c3=>⟨M,s1,q0 cs c1 c2 c3⟩⟩
   have one:ns.length=1→∃ i,ns=[i]:=List.length_eq_one_iff.mp
   have two:ns.length=2→∃ i j,ns=[i,j]:=fun h=>by
    match ns,h with
    | [i,j],_=>exact ⟨i,j,rfl⟩
   rcases id hw with ⟨rfl | rfl | rfl,h⟩ | ⟨rfl,h⟩
   ·obtain ⟨i,rfl⟩:=one h
    refine ⟨few rfl,rfl,rfl,aj rd.bd.at_ (af rfl (aj i1 ⟨rfl,_,⟨rfl,rfl⟩,V.p,l,rfl,rd.pl,hp,fun p hp2=>af av ⟨rfl,bt _,bo (fun _=>⟨M,.new hp2,q1 _⟩) (fun _=>?_)⟩⟩))⟩
    exact go _ fin _ (.new hp2)
   ·obtain ⟨i,rfl⟩:=one h
    refine ⟨few rfl,rfl,rfl,aj rd.bd.at_ (af rfl (aj i1 ⟨rfl,_,⟨rfl,rfl⟩,V.p,l,rfl,rd.pl,hp,fun p hp2=>af av ⟨rfl,bt _,bo (fun _=>⟨M,.new hp2,q1 _⟩) (fun _=>?_)⟩⟩))⟩
    exact go _ fin _ (.new hp2)
   ·obtain ⟨i,rfl⟩:=one h
    refine ⟨few rfl,rfl,rfl,aj rd.bd.at_ (af rfl (aj i1 ⟨rfl,_,⟨rfl,rfl⟩,V.p,l,rfl,rd.pl,hp,fun p hp2=>af av ⟨rfl,bt _,bo (fun _=>⟨M,.new hp2,q1 _⟩) (fun _=>?_)⟩⟩))⟩
    exact go _ fin _ (.new hp2)
   ·obtain ⟨i,j,rfl⟩:=two h
    refine ⟨few rfl,rfl,rfl,aj rd.bd.at_ (af rfl (aj i1 ⟨rfl,_,⟨rfl,rfl⟩,V.p,l,rfl,rd.pl,hp,fun p hp2=>af av ⟨rfl,bt _,bo (fun _=>⟨M,.new hp2,q1 _⟩) (fun _=>?_)⟩⟩))⟩
    exact go _ fin _ (.new hp2)
end
end Z
namespace Z
open PySem PySem.Spec PyProof.Rows L2 L3
structure Wd (a:Ad) (M0 M:Mp) (A:BdA) (V:BdV) (l:aD):Prop where
 bd:az a M A V
 pl:bW a M0 V.p l
 s0:L3.Sub M0 M
 fr:∀ x∈A.foot,M0 x=none
theorem Wd.step {a:Ad} {M0 M M':Mp} {A A':BdA} {V V':BdV} {l:aD} (h:Wd a M0 M A V l) (s:bL A M A' M') (b:az a M' A' V') (e:V'.p=V.p):Wd a M0 M' A' V' l:=by
 refine ⟨b,e ▸ h.pl,fun x c hx=>s.1 x c (fun z=>?_) (h.s0 x c hx),fun x hx=>?_⟩
 ·rw [h.fr x z] at hx
  cases hx
 ·rcases s.2.1 x hx with z | z
  ·exact h.fr x z
  ·exact h.s0.none z
theorem Wd.sub {a:Ad} {M0 M M':Mp} {A:BdA} {V:BdV} {l:aD} (h:Wd a M0 M A V l) (s:L3.Sub M M'):Wd a M0 M' A V l:=⟨h.bd.sub s,h.pl,h.s0.trans s,h.fr⟩
structure jA (V:BdV) (n:Nat):Prop where
 lg:∀ d∈V.legs,om d
 lo:V.log.length≤n
 le:V.legs.length≤n
 ca:V.calls.length≤n
 ps:V.ps.length≤n
 cs:∀ c∈V.calls,c.way.length≤n∧c.at_.length≤100∧c.ms.length≤100
 lp:∀ d∈V.log,ce 6 d=true
 wp:∀ c∈V.calls,c.wd=.non∨∃ x,c.wd=.str x
theorem jA.mono {V:BdV} {n m:Nat} (h:jA V n) (hm:n≤m):jA V m:=⟨h.lg,Nat.le_trans h.lo hm,Nat.le_trans h.le hm,Nat.le_trans h.ca hm,Nat.le_trans h.ps hm,fun c hc=>⟨Nat.le_trans (h.cs c hc).1 hm,(h.cs c hc).2⟩,h.lp,h.wp⟩
theorem jA.lim {V:BdV} {n:Nat} (h:jA V n) (hn:n < 10000):Lim V:=⟨Nat.lt_of_le_of_lt h.lo (by omega),Nat.lt_of_le_of_lt h.le (by omega),Nat.lt_of_le_of_lt h.ca hn,Nat.lt_of_le_of_lt h.ps hn,fun c hc=>⟨Nat.lt_of_le_of_lt (h.cs c hc).1 (by omega),(h.cs c hc).2⟩⟩
theorem ww (ps:List (Str × Int)) (z:Str) (n:Int):(pK ps z n).length≤ps.length + 1:=by
 unfold pK
 split
 ·rw [List.length_map]; omega
 ·rw [List.length_append]; exact Nat.le_refl _
theorem tE (ss:List Str) (x:Str):(bC ss x).length≤ss.length:=List.length_filter_le _ _
theorem pA {α:Type} {l:List α} {i:Nat} {x y:α} (h:y∈l.set i x):y∈l∨y=x:=List.mem_or_eq_of_mem_set h
theorem jA.set {V:BdV} {n m i:Nat} {c:ar} (h:jA V n) (hm:n≤m) (h2:c.way.length≤m∧c.at_.length≤100∧c.ms.length≤100) (h3:c.wd=.non∨∃ x,c.wd=.str x):jA (gw V i c) m:=by
 have h:=h.mono hm
 refine ⟨h.lg,h.lo,h.le,by show (V.calls.set i c).length≤m; rw [List.length_set]; exact h.ca,h.ps,fun d hd=>?_,h.lp,fun d hd=>?_⟩
 ·rcases pA hd with z | z
  ·exact h.cs d z
  ·rw [z]; exact h2
 ·rcases pA hd with z | z
  ·exact h.wp d z
  ·rw [z]; exact h3
theorem BO {d:D} (i j:Nat) (h:om d):om (ny i j d):=by
 obtain ⟨k,f,g,y,rfl⟩:=h
 show om (if k=(i:Int) then _ else _)
 split
 ·exact ⟨_,_,_,_,rfl⟩
 ·exact ⟨_,_,_,_,rfl⟩
theorem jT (n:Nat):∀ ss:List Str,(ss.map D.str).all (ce n)=true
 | []=>rfl
 | _ :: r=>by
  rw [List.map_cons,List.all_cons,jT n r]
  cases n <;> rfl
theorem nL (n:Nat):∀ ss:List Int,(ss.map D.int).all (ce n)=true
 | []=>rfl
 | _ :: r=>by
  rw [List.map_cons,List.all_cons,nL n r]
  cases n <;> rfl
theorem zD {V V':BdV} {e:D} (ev:Ev V e V'):ce 6 e=true:=by
 have t:∀ ss:List Str,ce 5 (.tup (ss.map D.str))=true:=fun ss=>jT 4 ss
 have u:∀ ss:List Int,ce 5 (.tup (ss.map D.int))=true:=fun ss=>nL 4 ss
 cases ev with
 | new m x=>rfl
 | leg i c f g y hc=>rfl
 | next z k=>rfl
 | merge i j ci cj ms h1 h2 h3 h4 h5 =>
  show [D.str "merge",.int (i:Nat),.int (j:Nat),.tup (ms.map D.str)].all (ce 5)=true
  simp only [List.all_cons,t]
  rfl
 | asks x y z =>
  show [D.str "asks",.int x,.str y,.tup (z.map D.int)].all (ce 5)=true
  simp only [List.all_cons,u]
  rfl
 | chg i c e c' hc hh =>
  cases hh with
  | rings ps hp =>
   show [D.str "rings",.int (i:Nat),.tup (ps.map D.str)].all (ce 5)=true
   simp only [List.all_cons,t]
   rfl
  | talks ms hp =>
   show [D.str "talks",.int (i:Nat),.tup (ms.map D.str)].all (ce 5)=true
   simp only [List.all_cons,t]
   rfl
  | held x=>rfl
  | leaves x=>rfl
  | over w0=>rfl
theorem xV {V V':BdV} {n:Nat} {e:D} (h:jA V n) (ev:Ev (cJ V e) e V'):jA V' (n + 1)∧V'.p=V.p:=by
 have hl:jA (cJ V e) (n + 1):=⟨h.lg,by show (V.log ++ [e]).length≤n + 1; rw [List.length_append]; exact Nat.succ_le_succ h.lo,Nat.le_succ_of_le h.le,Nat.le_succ_of_le h.ca,Nat.le_succ_of_le h.ps,fun c hc=>⟨Nat.le_succ_of_le (h.cs c hc).1,(h.cs c hc).2⟩,fun d hd=>by
  rcases List.mem_append.mp hd with z | z
  ·exact h.lp d z
  ·rw [List.mem_singleton.mp z]; exact zD ev,h.wp⟩
 cases ev with
 | new m x =>
  refine ⟨⟨hl.lg,hl.lo,hl.le,by show (V.calls ++ [lu x]).length≤n + 1; rw [List.length_append]; exact Nat.succ_le_succ h.ca,hl.ps,fun c hc=>?_,hl.lp,fun c hc=>?_⟩,rfl⟩
  ·rcases List.mem_append.mp hc with z | z
   ·exact hl.cs c z
   ·rw [List.mem_singleton.mp z]; exact ⟨Nat.zero_le _,Nat.zero_le _,Nat.zero_le _⟩
  ·rcases List.mem_append.mp hc with z | z
   ·exact hl.wp c z
   ·rw [List.mem_singleton.mp z]; exact .inl rfl
 | leg i c f g y hc =>
  have hc:=aZ hc
  obtain ⟨w1,w2,w3⟩:=h.cs c hc
  have:=hl.set (i:=i) (c:=pC c g) (Nat.le_refl _) ⟨by show (c.way ++ [g]).length≤n + 1; rw [List.length_append]; exact Nat.succ_le_succ w1,w2,w3⟩ (hl.wp c hc)
  refine ⟨⟨fun d hd=>?_,this.lo,by show (V.legs ++ [_]).length≤n + 1; rw [List.length_append]; exact Nat.succ_le_succ h.le,this.ca,this.ps,this.cs,this.lp,this.wp⟩,rfl⟩
  rcases List.mem_append.mp hd with z | z
  ·exact h.lg d z
  ·rw [List.mem_singleton.mp z]; exact ⟨_,_,_,_,rfl⟩
 | next z k=>exact ⟨⟨hl.lg,hl.lo,hl.le,hl.ca,Nat.le_trans (ww _ _ _) (Nat.succ_le_succ h.ps),hl.cs,hl.lp,hl.wp⟩,rfl⟩
 | merge i j ci cj ms h1 h2 h3 h4 h5 =>
  have w1:=hl.cs ci (aZ h1)
  have w2:=hl.cs cj (aZ h2)
  have g1:=hl.set (i:=i) (c:=ci.over "merged") (Nat.le_refl _) ⟨w1.1,Nat.zero_le _,Nat.zero_le _⟩ (.inr ⟨_,rfl⟩)
  have g2:=g1.set (i:=j) (c:={ cj with ms:=ms }) (Nat.le_refl _) ⟨w2.1,w2.2.1,h5⟩ (hl.wp cj (aZ h2))
  refine ⟨⟨fun d hd=>?_,g2.lo,by show (V.legs.map _).length≤n + 1; rw [List.length_map]; exact hl.le,g2.ca,g2.ps,g2.cs,g2.lp,g2.wp⟩,rfl⟩
  obtain ⟨d0,hd0,rfl⟩:=List.mem_map.mp hd
  exact BO i j (h.lg d0 hd0)
 | asks x y z=>exact ⟨hl,rfl⟩
 | chg i c e c' hc hh =>
  have w:=hl.cs c (aZ hc)
  have x:=hl.wp c (aZ hc)
  cases hh with
  | rings ps hp=>exact ⟨hl.set (Nat.le_refl _) ⟨w.1,hp,w.2.2⟩ x,rfl⟩
  | talks ms hp=>exact ⟨hl.set (Nat.le_refl _) ⟨w.1,Nat.zero_le _,hp⟩ x,rfl⟩
  | held y=>exact ⟨hl.set (Nat.le_refl _) w x,rfl⟩
  | leaves y=>exact ⟨hl.set (Nat.le_refl _) ⟨w.1,Nat.le_trans (tE _ _) w.2.1,Nat.le_trans (tE _ _) w.2.2⟩ x,rfl⟩
  | over w0=>exact ⟨hl.set (Nat.le_refl _) ⟨w.1,Nat.zero_le _,Nat.zero_le _⟩ (.inr ⟨_,rfl⟩),rfl⟩
structure Cur (a:Ad) (M0 M:Mp) (b:Addr) (A:BdA) (V:BdV) (l:aD) (n:Nat):Prop where
 w:Wd a M0 M A V l
 b:A.b=b
 g:jA V n
section
variable {a:Ad} {M0 M M':Mp} {b:Addr} {A:BdA} {V:BdV} {l:aD} {n:Nat}
theorem Cur.at_ (c:Cur a M0 M b A V l n):M b=some (.ins a.c_Board (fk (.ref V.p) V.h V.t A.ca A.le A.nx A.on A.lo)):=c.b ▸ c.w.bd.at_
theorem Cur.sub (c:Cur a M0 M b A V l n) (s:L3.Sub M M'):Cur a M0 M' b A V l n:=⟨c.w.sub s,c.b,c.g⟩
theorem Cur.pl (c:Cur a M0 M b A V l n):bW a M V.p l:=c.w.pl.sub c.w.s0
theorem Cur.rd (c:Cur a M0 M b A V l n) (hn:n≤9000):Rd a M A V l:=⟨c.w.bd,Nat.le_trans c.g.ca (by omega),c.pl⟩
theorem Cur.call (c:Cur a M0 M b A V l n) {i:Nat} {v:ar} (h:V.calls[i]?=some v):∃ k,CI a M A V i k v:=by
 have hi:i < A.cs.length:=by rw [c.w.bd.len]; exact (List.getElem?_eq_some_iff.mp h).1
 exact ⟨A.cs[i],c.w.bd,List.getElem?_eq_getElem hi,h⟩
theorem Cur.after (c:Cur a M0 M b A V l n) {e:D} {V':BdV} {A':BdA} (ev:Ev (cJ V e) e V') (eb:A'.b=A.b) (st:bL A M A' M') (bd:az a M' A' V'):Cur a M0 M' b A' V' l (n + 1):=by
 obtain ⟨g',p'⟩:=xV c.g ev
 exact ⟨c.w.step st bd p',eb.trans c.b,g'⟩
end
end Z
namespace Z
open PySem PySem.Spec PyProof.Rows L2 L3
def lG (y:Str) (w:List Str):ar:=⟨"rings",y,w,[],[],none,0,.non⟩
theorem Cur.mono {a:Ad} {M0 M:Mp} {b:Addr} {A:BdA} {V:BdV} {l:aD} {n m:Nat} (c:Cur a M0 M b A V l n) (h:n≤m):Cur a M0 M b A V l m:=⟨c.w,c.b,c.g.mono h⟩
def nxP (ms:List Str) (x:Str):Int:=(((gW (.str x) (ms.map D.str)).getD 0:Nat) + 1) % (ms.length:Int)
def dD (l:aD) (V:BdV) (z x:Str):List (Str × Int):=if (l.manner z == "turns")=true then pK V.ps z (nxP (l.phonesOf z) x) else V.ps
def xY (a:Ad):Sp3:=fun ds M Q=>∃ M0 b A V l n i z r,ds=[.ref b,.int (i:Nat),.ref r]∧Cur a M0 M b A V l n∧n≤9000∧lstM M r=some [.tup [.str z,.tup []]]∧r ∉ A.foot∧∀ M' A' V',Cur a M0 M' b A' V' l (n + 1)→bL A M A' M'→V'.calls=V.calls→V'.ps=V.ps→Q .non M'
def xH (a:Ad):Sp3:=fun ds M Q=>∃ M0 b A V l n i c z ps x,ds=[.ref b,.int (i:Nat),.str z,.tup (ps.map D.str)]∧Cur a M0 M b A V l n∧n≤8000∧V.calls[i]?=some c∧ps.head?=some x∧ps.length≤100∧x∈l.phonesOf z∧(l.phonesOf z).length≤100∧∀ M' A' V',Cur a M0 M' b A' V' l (n + 2)→bL A M A' M'→V'.ps=dD l V z x→V'.calls=V.calls.set i (c.ring ps)→Q .non M'
def yz (z:Str) (ps:List Str):D:=if ps=[] then .tup [.str "engaged",.str z] else .tup [.str "rings",.str z,.tup (ps.map D.str)]
def rf (c:ar):List Str→ar
 | []=>c.over "engaged"
 | x :: r=>c.ring (x :: r)
def tJ (l:aD) (V:BdV) (z:Str):List Str→List (Str × Int)
 | []=>V.ps
 | x :: _=>dD l V z x
def ul (a:Ad):Sp3:=fun ds M Q=>∃ M0 b A V l n i c z ps,ds=[.ref b,.int (i:Nat),yz z ps]∧Cur a M0 M b A V l n∧n≤8000∧V.calls[i]?=some c∧ps.length≤100∧(∀ x∈ps,x∈l.phonesOf z)∧(l.phonesOf z).length≤100∧∀ M' A' V',Cur a M0 M' b A' V' l (n + 2)→bL A M A' M'→V'.ps=tJ l V z ps→V'.calls=V.calls.set i (rf c ps)→Q .non M'
def zB (a:Ad):Sp3:=fun ds M Q=>∃ M0 b A V l n i c z k,ds=[.ref b,.int (i:Nat)]∧Cur a M0 M b A V l n∧n≤7000∧V.calls[i]?=some c∧c.way=[z]∧Tgt l z∧iP l V z k∧∀ M' A' V',Cur a M0 M' b A' V' l (n + 3)→bL A M A' M'→V'.ps=tJ l V z (bx l V c.cr z k)→V'.calls=V.calls.set i (rf c (bx l V c.cr z k))→Q .non M'
def xJ (a:Ad):Sp3:=fun ds M Q=>∃ M0 b A V l n y z k,ds=[.ref b,.str y,.str z]∧Cur a M0 M b A V l n∧n≤6000∧Tgt l z∧iP l V z k∧∀ M' A' V',Cur a M0 M' b A' V' l (n + 5)→bL A M A' M'→V'.ps=tJ l V z (bx l V y z k)→V'.calls=V.calls ++ [rf (lG y [z]) (bx l V y z k)]→Q .non M'
theorem pZ {l:aD} {V:BdV} {c z:Str} {k:Nat}:(∀ x∈bx l V c z k,x∈l.phonesOf z)∧(bx l V c z k).length≤(l.phonesOf z).length:=by
 unfold bx
 split
 ·refine ⟨fun x hx=>?_,?_⟩
  ·have hx:=List.mem_of_mem_take hx
   have hx:=(List.mem_filter.mp hx).1
   unfold dQ at hx
   rcases List.mem_append.mp hx with z | z
   ·exact List.mem_of_mem_drop z
   ·exact List.mem_of_mem_take z
  ·cases e:(dQ (l.phonesOf z) k).filter fun x=>hasS (cM l V c z) x with
   | nil=>exact Nat.zero_le _
   | cons y r =>
    have hy:y∈dQ (l.phonesOf z) k:=(List.mem_filter.mp (by rw [e]; exact List.mem_cons_self)).1
    have hy:y∈l.phonesOf z:=by
     unfold dQ at hy
     rcases List.mem_append.mp hy with q | q
     ·exact List.mem_of_mem_drop q
     ·exact List.mem_of_mem_take q
    rw [List.length_take]
    have:=List.length_pos_of_mem hy
    omega
 ·exact ⟨fun x hx=>(List.mem_filter.mp hx).1,List.length_filter_le _ _⟩
theorem vZ {x:Str} {ms:List Str} (h:x∈ms):∃ j,gW (.str x) (ms.map D.str)=some j:=by
 have:(gW (.str x) (ms.map D.str)).isSome=true:=by
  rw [oB,List.any_map,List.any_eq_true]
  exact ⟨x,h,by show (x == x)=true; exact beq_self_eq_true x⟩
 exact Option.isSome_iff_exists.mp this
theorem vL {l:aD} {V V':BdV} {y z:Str} {w:List Str} (h:V'.calls=V.calls ++ [lG y w]):cM l V' y z=cM l V y z:=by
 unfold cM
 refine List.filter_congr fun x _=>?_
 cases e:x == y with
 | true=>rfl
 | false =>
  have:dX l V' x=dX l V x:=by
   unfold dX l0
   rw [h,List.filter_append,List.filter_cons_of_neg]
   ·rw [List.filter_nil,List.append_nil]
   ·show ¬ ((x == y) || false)=true
    rw [e]
    exact Bool.false_ne_true
  rw [this]
theorem xK {l:aD} {V V':BdV} {y z:Str} {k:Nat} {w:List Str} (h:V'.calls=V.calls ++ [lG y w]):bx l V' y z k=bx l V y z k:=by
 unfold bx
 rw [vL h]
section
variable {P:Program} {w:World} {K:PySem.W.Frag} {mg:Str→Option Value} {base:Heap} {a:Ad}
theorem zm (G:Gl K mg a):Fq P w K mg base 4 a.take_steps (xY a):=by
 have C_Board_apply:=ez (P:=P) (w:=w) (base:=base) G
 refine aX G.take_steps.toDG cK (fun ds M Q h=>?_) (fun cdv A outer s H E hr=>⟨_,(ah (aE (i:=3) cK.nd rfl (Or.inl rfl) b9)
 (ai (cZ PassesOwn.never rfl (aV (aa 2 (pv 2))) (d9 (n:=2) rfl (aT (aB (i:=4) cK.nd rfl (Or.inl rfl)) (aT (aB (i:=5) cK.nd rfl (Or.inl rfl)) dm)))
 (ah (aF (au (hu9 hr) (aa 3 (pv 3)) b9)
 (ai (aC (aJ (aa 0 (pv 0)) G.c_Board.toCls G.Board_apply C_Board_apply hr (ae (aI (ae ao (ae (aa 1 (pv 1)) (ae (aa 3 (pv 3)) (ae (aa 4 (pv 4)) (ae (aa 3 (pv 3)) ag)))))) ag))))
 ay)
 (ah (aC (aJ (aa 0 (pv 0)) G.c_Board.toCls G.Board_apply C_Board_apply hr (ae (aI (ae ao (ae (aa 1 (pv 1)) (ae (aa 4 (pv 4)) (ae (aa 5 (pv 5)) ag))))) ag)))
 (ai (aE (i:=3) cK.nd rfl (Or.inl rfl) (aa 4 (pv 4))))))))),?_⟩)
 ·obtain ⟨M0,b,A,V,l,n,i,z,r,rfl,_⟩:=h
  rfl
 ·rintro ds M Q ⟨M0,b,A,V,l,n,i,z,r,rfl,cu,hn,lr,nf,q⟩
  refine af lr (dW [.tup [.str z,.tup []]] (fun pre δ M'=>(pre=[]∧M'=M∧δ=[some (.ref b),some (.int (i:Nat)),some (.ref r),some .non,none,none])∨(pre=[.tup [.str z,.tup []]]∧∃ A' V',Cur a M0 M' b A' V' l (n + 1)∧bL A M A' M'∧V'.calls=V.calls∧V'.ps=V.ps)) (fun pre δ M' j=>?_) _ [] _ _ rfl (.inl ⟨rfl,rfl,rfl⟩) ?_ ?_)
  ·rcases j with ⟨_,rfl,_⟩ | ⟨_,A',V',c1,st,_⟩
   ·exact lr
   ·exact cx (st.1 r _ nf (aY lr))
  ·rintro pre d post e δ M' j nx hnx
   rcases j with ⟨rfl,rfl,rfl⟩ | ⟨rfl,_⟩
   ·cases e
    refine ⟨rfl,aj cu.at_ ⟨rfl,_,⟨rfl,rfl⟩,few rfl,b,A,V,_,_,rfl,cu.b,cu.w.bd,cu.g.lim (by omega),.asks _ _ [],fun M1 A1 eb st bd1=>?_⟩⟩
    have c1:=cu.after (.asks _ _ []) eb st bd1
    exact hnx _ _ (.inr ⟨rfl,A1,_,c1,st,rfl,rfl⟩)
   ·simp at e
  ·rintro δ M' j
   rcases j with ⟨e,_⟩ | ⟨_,A',V',c1,st,e1,e2⟩
   ·cases e
   ·exact ⟨M',.refl,q M' A' V' c1 st e1 e2⟩
theorem wA (G:Gl K mg a):Fq P w K mg base 4 a.start_ringing (xH a):=by
 have C_Board_apply:=ez (P:=P) (w:=w) (base:=base) G
 have C_Plan_manner:=gX (P:=P) (w:=w) (base:=base) G
 have C_Plan_phones_of:=de (P:=P) (w:=w) (base:=base) G
 refine aX G.start_ringing.toDG dA (fun ds M Q h=>?_) (fun cdv A outer s H E hr=>⟨_,(ah (aF (au (hu9 hr) (aJ (ap (aa 0 (pv 0))) G.c_Plan.toCls G.Plan_manner C_Plan_manner hr (ae (aa 2 (pv 2)) ag)) ao)
 (ah (aE (i:=4) dA.nd rfl (Or.inl rfl) (aJ (ap (aa 0 (pv 0))) G.c_Plan.toCls G.Plan_phones_of C_Plan_phones_of hr (ae (aa 2 (pv 2)) ag)))
 (ah (aE (i:=5) dA.nd rfl (Or.inl rfl) (aS (aS (gM (aa 4 (pv 4)) (ae (aA (aa 3 (pv 3)) ak) ag)) ak) (aH bn rfl G.no_len bi (ae (aa 4 (pv 4)) ag))))
 (ai (aC (aJ (aa 0 (pv 0)) G.c_Board.toCls G.Board_apply C_Board_apply hr (ae (aI (ae ao (ae (aa 2 (pv 2)) (ae (aa 5 (pv 5)) ag)))) ag))))))
 ay)
 (ai (aC (aJ (aa 0 (pv 0)) G.c_Board.toCls G.Board_apply C_Board_apply hr (ae (aI (ae ao (ae (aa 1 (pv 1)) (ae (aa 3 (pv 3)) ag)))) ag))))),?_⟩)
 ·obtain ⟨M0,b,A,V,l,n,i,c,z,ps,x,rfl,_⟩:=h
  rfl
 ·rintro ds M Q ⟨M0,b,A,V,l,n,i,c,z,ps,x,rfl,cu,hn,hc,hx,hps,hm,hml,q⟩
  obtain ⟨ph,gr,ws,pon,pr,gd,i1,_⟩:=cu.pl
  have pl:=cu.pl
  refine cut (t:=vH _ _ _) (fun δ M'=>(∃ A' V',Cur a M0 M' b A' V' l (n + 1)∧bL A M A' M'∧V'.ps=dD l V z x∧V'.calls=V.calls)∧∃ y1 y2,δ=[some (.ref b),some (.int (i:Nat)),some (.str z),some (.tup (ps.map D.str)),y1,y2]) (fun nx h=>?_) ?_
  ·refine aj cu.at_ (af rfl (aj i1 ⟨rfl,_,⟨rfl,rfl⟩,V.p,z,l,rfl,pl,?_⟩))
   refine bo (c:=l.manner z == "turns") (fun g=>?_) (fun g=>?_)
   ·refine aj cu.at_ (af rfl (aj i1 ⟨rfl,_,⟨rfl,rfl⟩,V.p,z,l,rfl,pl,fun p hp=>?_⟩))
    have t:=L3.Sub.new (c:=.lst ((l.phonesOf z).map D.str)) hp
    have lp:lstM (am M p (.lst ((l.phonesOf z).map D.str))) p=some ((l.phonesOf z).map D.str):=av
    have cu':=cu.sub t
    have st0:bL A M A (am M p (.lst ((l.phonesOf z).map D.str))):=.sub t
    generalize am M p (.lst ((l.phonesOf z).map D.str))=M1 at t lp cu' st0 ⊢
    obtain ⟨j,ej⟩:=vZ hm
    obtain ⟨ps',rfl⟩:∃ ps',ps=x :: ps':=by
     cases ps with
     | nil=>cases hx
     | cons y r=>cases hx; exact ⟨r,rfl⟩
    have lpos:0 < (l.phonesOf z).length:=List.length_pos_of_mem hm
    have el:(((l.phonesOf z).map D.str).length:Int)=(l.phonesOf z).length:=by rw [List.length_map]
    refine ⟨by show (lstM M1 p).isSome=true; rw [lp]; rfl,af (qq _ _) (af lp ⟨rfl,bt _,af ej (af lp ⟨by rw [el]; omega,?_⟩)⟩)⟩
    rw [el]
    have en:(((j:Nat):Int) + 1) % ((l.phonesOf z).length:Int)=nxP (l.phonesOf z) x:=by
     unfold nxP
     rw [ej]
     rfl
    rw [en]
    refine aj cu'.at_ ⟨rfl,_,⟨rfl,rfl⟩,few rfl,b,A,V,_,_,rfl,cu'.b,cu'.w.bd,cu'.g.lim (by omega),.next z (nxP (l.phonesOf z) x),fun M2 A2 eb st bd2=>?_⟩
    have c2:=cu'.after (.next z (nxP (l.phonesOf z) x)) eb st bd2
    refine h _ _ ⟨⟨A2,_,c2,st0.trans st,?_,rfl⟩,_,_,rfl⟩
    unfold dD
    rw [if_pos g]
    rfl
   ·refine h _ _ ⟨⟨A,V,cu.mono (by omega),.refl,?_,rfl⟩,_,_,rfl⟩
    unfold dD
    rw [if_neg g]
  rintro δ M1 ⟨⟨A1,V1,c1,st1,e1,e2⟩,y1,y2,rfl⟩
  have hc1:V1.calls[i]?=some c:=by rw [e2]; exact hc
  refine aj c1.at_ ⟨rfl,_,⟨rfl,rfl⟩,few rfl,b,A1,V1,_,_,rfl,c1.b,c1.w.bd,c1.g.lim (by omega),.chg i c _ _ hc1 (.rings ps hps),fun M2 A2 eb st2 bd2=>?_⟩
  have c2:=c1.after (.chg i c _ _ hc1 (.rings ps hps)) eb st2 bd2
  refine ⟨M2,.refl,q M2 A2 _ c2 (st1.trans st2) e1 ?_⟩
  show V1.calls.set i (c.ring ps)=_
  rw [e2]
theorem yH (G:Gl K mg a):Fq P w K mg base 5 a.come_to_end (ul a):=by
 have C_start_ringing:=wA (P:=P) (w:=w) (base:=base) G
 have C_Board_apply:=ez (P:=P) (w:=w) (base:=base) G
 refine aX G.come_to_end.toDG gB (fun ds M Q h=>?_) (fun cdv A outer s H E hr=>⟨_,(ah (aE (i:=3) gB.nd rfl (Or.inl rfl) (aA (aa 2 (pv 2)) ak))
 (ai (aF (au (hu9 hr) (aa 3 (pv 3)) ao)
 (ai (aC (ax C_start_ringing hr G.start_ringing (ae (aa 0 (pv 0)) (ae (aa 1 (pv 1)) (ae (aA (aa 2 (pv 2)) ak) (ae (aA (aa 2 (pv 2)) ak) ag)))))))
 (ai (aF (au (hu9 hr) (aa 3 (pv 3)) ao)
 (ai (aC (aJ (aa 0 (pv 0)) G.c_Board.toCls G.Board_apply C_Board_apply hr (ae (aI (ae ao (ae (aa 1 (pv 1)) (ae (aA (aa 2 (pv 2)) ak) ag)))) ag))))
 (ai (aF (au (hu9 hr) (aa 3 (pv 3)) ao)
 (ai bz)
 (ai (aC (aJ (aa 0 (pv 0)) G.c_Board.toCls G.Board_apply C_Board_apply hr (ae (aI (ae ao (ae (aa 1 (pv 1)) (ae (aa 3 (pv 3)) ag)))) ag))))))))))),?_⟩)
 ·obtain ⟨M0,b,A,V,l,n,i,c,z,ps,rfl,_⟩:=h
  rfl
 ·rintro ds M Q ⟨M0,b,A,V,l,n,i,c,z,ps,rfl,cu,hn,hc,hps,hm,hml,q⟩
  cases ps with
  | nil =>
   refine aj cu.at_ ⟨rfl,_,⟨rfl,rfl⟩,few rfl,b,A,V,_,_,rfl,cu.b,cu.w.bd,cu.g.lim (by omega),.chg i c _ _ hc (.over "engaged"),fun M2 A2 eb2 st2 bd2=>?_⟩
   exact ⟨M2,.refl,q M2 A2 _ ((cu.after (.chg i c _ _ hc (.over "engaged")) eb2 st2 bd2).mono (by omega)) st2 rfl rfl⟩
  | cons x r=>exact ⟨M0,b,A,V,l,n,i,c,z,x :: r,x,rfl,cu,hn,hc,rfl,hps,hm x List.mem_cons_self,hml,fun M' A' V' c1 st e1 e2=>⟨M',.refl,q M' A' V' c1 st e1 e2⟩⟩
theorem yT (G:Gl K mg a):Fq P w K mg base 8 a.go_on (zB a):=by
 have C_route:=wU (P:=P) (w:=w) (base:=base) G
 have C_take_steps:=zm (P:=P) (w:=w) (base:=base) G
 have C_come_to_end:=yH (P:=P) (w:=w) (base:=base) G
 have C_Board_apply:=ez (P:=P) (w:=w) (base:=base) G
 refine aX G.go_on.toDG fE (fun ds M Q h=>?_) (fun cdv A outer s H E hr=>⟨_,(ah (aE (i:=2) fE.nd rfl (Or.inl rfl) (aA (ap (aa 0 (pv 0))) (aa 1 (pv 1))))
 (ah (aE (i:=3) fE.nd rfl (Or.inl rfl) (ax C_route hr G.route (ae (aa 0 (pv 0)) (ae (ap (aa 2 (pv 2))) (ae (aA (ap (aa 2 (pv 2))) (rQ ak)) (ae (cq (ap (aa 2 (pv 2))) cY (di (rQ ak))) ag))))))
 (ah (aE (i:=4) fE.nd rfl (Or.inl rfl) (aA (aa 3 (pv 3)) ak))
 (ah (aE (i:=5) fE.nd rfl (Or.inl rfl) (aA (aa 3 (pv 3)) ak))
 (ah (aC (ax C_take_steps hr G.take_steps (ae (aa 0 (pv 0)) (ae (aa 1 (pv 1)) (ae (aa 5 (pv 5)) ag)))))
 (ah (aF (W3.b3 (fv (au (hu9 hr) (aA (aa 4 (pv 4)) ak) ao) (d4 (au (hu9 hr) (aH bn rfl G.no_len bi (ae (aa 5 (pv 5)) ag)) ak))))
 (ah (aE (i:=6) fE.nd rfl (Or.inl rfl) (aA (aA (aa 5 (pv 5)) (rQ ak)) ak))
 (ai (aC (aJ (aa 0 (pv 0)) G.c_Board.toCls G.Board_apply C_Board_apply hr (ae (aI (ae ao (ae (aa 1 (pv 1)) (ae (aa 6 (pv 6)) (ae (aA (aA (aa 4 (pv 4)) ak) ak) (ae (aa 6 (pv 6)) ag)))))) ag)))))
 ay)
 (ai (aC (ax C_come_to_end hr G.come_to_end (ae (aa 0 (pv 0)) (ae (aa 1 (pv 1)) (ae (aa 4 (pv 4)) ag)))))))))))),?_⟩)
 ·obtain ⟨M0,b,A,V,l,n,i,c,z,k,rfl,_⟩:=h
  rfl
 ·rintro ds M Q ⟨M0,b,A,V,l,n,i,c,z,k,rfl,cu,hn,hc,hw,tg,nx,q⟩
  obtain ⟨ka,ci⟩:=cu.call hc
  obtain ⟨ad,md,h1,h2,h3,h4,n1,n2⟩:=ci.cell
  rw [hw] at h2
  have h2:lstM M ka.wy=some [.str z]:=h2
  have ee:zb l V c.cr z k=yz z (bx l V c.cr z k):=rfl
  refine cut (t:=jW _ _) (fun δ M'=>M=M'∧δ=[some (.ref b),some (.int (i:Nat)),some (.ref ka.p),none,none,none,none]) (fun nx0 h=>aj cu.at_ (af rfl (af rfl (af ci.bd.ca (af (bV ci.e1) (h _ _ ⟨rfl,rfl⟩)))))) ?_
  rintro δ _ ⟨rfl,rfl⟩
  refine cut (t:=jW _ _) (fun δ M'=>L3.Sub M M'∧∃ r,M r=none∧lstM M' r=some [.tup [.str z,.tup []]]∧δ=[some (.ref b),some (.int (i:Nat)),some (.ref ka.p),some (.tup [yz z (bx l V c.cr z k),.ref r]),none,none,none]) (fun nx0 h=>?_) ?_
  ·refine aj h1 (af rfl (aj h1 (af rfl (af h2 (af rfl (aj h1 (af rfl (af h2 fun p hp=>?_))))))))
   have t:=L3.Sub.new (c:=.lst []) hp
   have lp:lstM (am M p (.lst [])) p=some []:=av
   refine ⟨A,V,l,c.cr,z,k,p,by rw [cu.b],(cu.rd (by omega)).sub t,tg,nx,lp,fun r M' s hr lr=>?_⟩
   rw [ee]
   exact h _ _ ⟨t.trans s,r,t.none hr,lr,rfl⟩
  rintro δ M1 ⟨s1,r,hr,lr,rfl⟩
  have cu1:=cu.sub s1
  refine ⟨M0,b,A,V,l,n,i,z,r,rfl,cu1,by omega,lr,cu.w.bd.notF hr,fun M2 A2 V2 c2 st2 f1 f2=>?_⟩
  have hc2:V2.calls[i]?=some c:=by rw [f1]; exact hc
  have rl:=(pZ (l:=l) (V:=V) (c:=c.cr) (z:=z) (k:=k))
  have tf:=tg.few
  have last:ul a [.ref b,.int (i:Nat),yz z (bx l V c.cr z k)] M2 fun _ M'=>∃ M'',L3.Sub M'' M'∧Q .non M'':=by
   refine ⟨M0,b,A2,V2,l,n + 1,i,c,z,bx l V c.cr z k,rfl,c2,by omega,hc2,by omega,rl.1,tf,fun M3 A3 V3 c3 st3 g1 g2=>⟨M3,.refl,q M3 A3 V3 c3 ((bL.sub s1).trans (st2.trans st3)) ?_ ?_⟩⟩
   ·rw [g1]
    cases bx l V c.cr z k with
    | nil=>exact f2
    | cons x r =>
     show dD l V2 z x=dD l V z x
     unfold dD
     rw [f2]
   ·rw [g2,f1]
  cases e:bx l V c.cr z k with
  | nil =>
   rw [e] at last
   exact last
  | cons x r =>
   rw [e] at last
   exact last
theorem we (G:Gl K mg a):Fq P w K mg base 9 a.make_call (xJ a):=by
 have C_go_on:=yT (P:=P) (w:=w) (base:=base) G
 have C_Board_apply:=ez (P:=P) (w:=w) (base:=base) G
 refine aX G.make_call.toDG jr (fun ds M Q h=>?_) (fun cdv A outer s H E hr=>⟨_,(ah (aE (i:=3) jr.nd rfl (Or.inl rfl) (aH bn rfl G.no_len bi (ae (ap (aa 0 (pv 0))) ag)))
 (ah (aC (aJ (aa 0 (pv 0)) G.c_Board.toCls G.Board_apply C_Board_apply hr (ae (aI (ae ao (ae (aa 3 (pv 3)) (ae (aa 1 (pv 1)) ag)))) ag)))
 (ah (aC (aJ (aa 0 (pv 0)) G.c_Board.toCls G.Board_apply C_Board_apply hr (ae (aI (ae ao (ae (aa 3 (pv 3)) (ae (aa 1 (pv 1)) (ae (aa 2 (pv 2)) (ae (aa 1 (pv 1)) ag)))))) ag)))
 (ai (aC (ax C_go_on hr G.go_on (ae (aa 0 (pv 0)) (ae (aa 3 (pv 3)) ag)))))))),?_⟩)
 ·obtain ⟨M0,b,A,V,l,n,y,z,k,rfl,_⟩:=h
  rfl
 ·rintro ds M Q ⟨M0,b,A,V,l,n,y,z,k,rfl,cu,hn,tg,nx,q⟩
  have lc:((A.cs.map fun k=>D.ref k.p).length:Int)=(V.calls.length:Nat):=by rw [List.length_map,cu.w.bd.len]
  refine aj cu.at_ (af rfl (af cu.w.bd.ca ?_))
  rw [lc]
  refine aj cu.at_ ⟨rfl,_,⟨rfl,rfl⟩,few rfl,b,A,V,_,_,rfl,cu.b,cu.w.bd,cu.g.lim (by omega),.new _ y,fun M1 A1 eb1 st1 bd1=>?_⟩
  have c1:=cu.after (.new _ y) eb1 st1 bd1
  have e1:(V.calls ++ [lu y])[V.calls.length]?=some (lu y):=by simp
  refine aj c1.at_ ⟨rfl,_,⟨rfl,rfl⟩,few rfl,b,A1,_,_,_,rfl,c1.b,c1.w.bd,c1.g.lim (by omega),.leg V.calls.length (lu y) _ z _ e1,fun M2 A2 eb2 st2 bd2=>?_⟩
  have c2:=c1.after (.leg V.calls.length (lu y) _ z _ e1) eb2 st2 bd2
  have es:(V.calls ++ [lu y]).set V.calls.length (pC (lu y) z)=V.calls ++ [lG y [z]]:=by
   rw [List.set_append_right _ _ (Nat.le_refl _),Nat.sub_self]
   rfl
  obtain ⟨V2,hV,hc,hp⟩:∃ V2:BdV,Cur a M0 M2 b A2 V2 l (n + 2)∧V2.calls=V.calls ++ [lG y [z]]∧V2.ps=V.ps:=⟨_,c2,by exact es,rfl⟩
  have e2:V2.calls[V.calls.length]?=some (lG y [z]):=by rw [hc]; simp
  have er:bx l V2 y z k=bx l V y z k:=xK hc
  have nx2:iP l V2 z k:=fun g=>by rw [hp]; exact nx g
  refine ⟨M0,b,A2,V2,l,n + 2,V.calls.length,_,z,k,rfl,hV,by omega,e2,rfl,tg,nx2,fun M3 A3 V3 c3 st3 f1 f2=>⟨M3,.refl,q M3 A3 V3 c3 (st1.trans (st2.trans st3)) ?_ ?_⟩⟩
  ·have f1:V3.ps=tJ l V2 z (bx l V2 y z k):=f1
   rw [f1,er]
   cases bx l V y z k with
   | nil=>exact hp
   | cons x r =>
    show dD l V2 z x=dD l V z x
    unfold dD
    rw [hp]
  ·have f2:V3.calls=V2.calls.set V.calls.length (rf (lG y [z]) (bx l V2 y z k)):=f2
   rw [f2,er,hc,List.set_append_right _ _ (Nat.le_refl _),Nat.sub_self]
   rfl
end
end Z
namespace Z
open PySem PySem.Spec PyProof.Rows L2 L3
def Al (c:ar):Prop:=(c.st="rings"∧c.ms=[]∧c.hd=none∧c.cr ∉ c.at_∧c.at_ ≠ [])∨(c.st="talks"∧c.ms.Nodup∧c.hd=none∧c.at_=[])∨(∃ x,c.st="held"∧c.ms.Nodup∧c.ms.length=2∧c.hd=some x∧x∈c.ms∧c.at_=[])∨(c.st="over"∧c.ms=[]∧c.hd=none∧c.at_=[])
structure lD (l:aD) (c:ar):Prop where
 sh:Al c
 cr:c.cr∈l.pn
 at_:∀ x∈c.at_,x∈l.pn
 ms:∀ x∈c.ms,x∈l.pn
def eng (c:ar) (x:Str):Prop:=c.bindsB x=true∨c.triedB x=true
structure WF (l:aD) (V:BdV):Prop where
 ok:∀ c∈V.calls,lD l c
 un:∀ (i j:Nat) ci cj x,V.calls[i]?=some ci→V.calls[j]?=some cj→eng ci x→eng cj x→i=j
def qW (c:ar) (x:Str):ar:=if c.triedB x=true then c.over "left" else if hasS c.at_ x=true then (if bC c.at_ x=[] then (c.drop x).over "refused" else c.drop x) else if 2 < c.ms.length then c.drop x else c.over "done"
inductive rm (l:aD) (V:BdV):D→List ar→Prop
 | call (y z:Str) (k:Nat) (h1:y∈l.pn) (h2:ib V y):rm l V (.tup [.str "call",.str y,.str z]) (V.calls ++ [rf (lG y [z]) (bx l V y z k)])
 | answer (x:Str) (i:Nat) (c:ar) (h1:V.calls[i]?=some c) (h2:hasS c.at_ x=true) (h3:ib V x):rm l V (.tup [.str "answer",.str x,.int (i:Nat)]) (V.calls.set i (c.talk [c.cr,x]))
 | hang (x:Str) (i:Nat) (c:ar) (h1:V.calls[i]?=some c) (h2:c.leaveB x=true):rm l V (.tup [.str "hang",.str x,.int (i:Nat)]) (V.calls.set i (qW c x))
 | hold (x:Str) (i:Nat) (c:ar) (h1:V.calls[i]?=some c) (h2:c.pairsB x=true):rm l V (.tup [.str "hold",.str x,.int (i:Nat)]) (V.calls.set i (c.hold x))
 | join (x:Str) (i j:Nat) (ci cj:ar) (y1 y2:Str) (h1:V.calls[i]?=some ci) (h2:V.calls[j]?=some cj) (h3:ci.hd=some x) (h4:cj.pairsB x=true) (h5:i ≠ j) (h6:y1∈bC ci.ms x) (h7:y2∈bC cj.ms x):rm l V (.tup [.str "join",.str x,.int (i:Nat),.int (j:Nat)]) ((V.calls.set i (ci.over "merged")).set j { cj with ms:=[x,y1,y2] })
theorem dg {ss:List Str} {x:Str}:hasS ss x=true ↔ x∈ss:=by
 unfold hasS
 rw [List.any_eq_true]
 exact ⟨fun ⟨y,hy,e⟩=>eq_of_beq e ▸ hy,fun h=>⟨x,h,beq_self_eq_true _⟩⟩
theorem dO {ss:List Str} {x y:Str}:y∈bC ss x ↔ y∈ss∧y ≠ x:=by
 unfold bC
 rw [List.mem_filter]
 simp
theorem g7 {c:ar} (h:c.st="rings") {x:Str}:eng c x ↔ x=c.cr:=by
 unfold eng ar.bindsB ar.triedB ar.talksB
 rw [h]
 simp (decide:=true)
theorem dE {c:ar} (h:c.st="talks") {x:Str}:eng c x ↔ x∈c.ms:=by
 unfold eng ar.bindsB ar.triedB ar.talksB
 rw [h,← dg]
 simp (decide:=true)
theorem jD {c:ar} (h:c.st="held") {x:Str}:eng c x ↔ x∈c.ms∧c.hd ≠ some x:=by
 unfold eng ar.bindsB ar.triedB
 rw [h,← dg]
 simp (decide:=true)
theorem eG {c:ar} (h:c.st="over") {x:Str}:¬ eng c x:=by
 unfold eng ar.bindsB ar.triedB ar.talksB
 rw [h]
 simp (decide:=true)
theorem lZ {V:BdV} {x:Str} (h:ib V x) {c:ar} (hc:c∈V.calls):¬ eng c x:=fun z=>by
 obtain ⟨h1,h2⟩:=h c hc
 rcases z with z | z
 ·rw [h1] at z; cases z
 ·rw [h2] at z; cases z
theorem kW {α:Type} {l:List α} {i j:Nat} {x y:α} (h:(l.set i x)[j]?=some y):(j=i∧y=x)∨(j ≠ i∧l[j]?=some y):=(se h).imp (fun h=>⟨h.1,h.2.1⟩) id
theorem WF.set {l:aD} {V V':BdV} {i:Nat} {c c':ar} (h:WF l V) (e:V'.calls=V.calls.set i c') (hc:V.calls[i]?=some c) (ok:lD l c') (hs:∀ x,eng c' x→eng c x∨ib V x):WF l V':=by
 have key:∀ (j:Nat) cj x,j ≠ i→V.calls[j]?=some cj→eng c' x→eng cj x→False:=fun j cj x hj e1 g1 g2=>by
  rcases hs x g1 with z | z
  ·exact hj (h.un j i cj c x e1 hc g2 z)
  ·exact lZ z (aZ e1) g2
 refine ⟨fun d hd=>?_,fun m n cm cn x e1 e2 g1 g2=>?_⟩
 ·rw [e] at hd
  rcases pA hd with z | z
  ·exact h.ok d z
  ·rw [z]; exact ok
 ·rw [e] at e1 e2
  rcases kW e1 with ⟨m1,m2⟩ | ⟨hm,f1⟩
  ·rcases kW e2 with ⟨n1,n2⟩ | ⟨hn,f2⟩
   ·exact m1.trans n1.symm
   ·rw [m2] at g1
    exact (key n cn x hn f2 g1 g2).elim
  ·rcases kW e2 with ⟨n1,n2⟩ | ⟨hn,f2⟩
   ·rw [n2] at g2
    exact (key m cm x hm f1 g2 g1).elim
   ·exact h.un m n cm cn x f1 f2 g1 g2
theorem zu {l:aD} {V:BdV} {y z:Str} {k:Nat}:y ∉ bx l V y z k:=fun h=>by
 have nr:y ∉ cM l V y z:=fun h=>by
  have:=(List.mem_filter.mp h).2
  rw [beq_self_eq_true] at this
  cases this
 unfold bx at h
 split at h
 ·exact nr (dg.mp (List.mem_filter.mp (List.mem_of_mem_take h)).2)
 ·exact nr h
theorem pE {l:aD} {c:ar} (h:lD l c) (w:Str):lD l (c.over w):=⟨.inr (.inr (.inr ⟨rfl,rfl,rfl,rfl⟩)),h.cr,(fun _ h=>by cases h),fun _ h=>by cases h⟩
theorem yC {l:aD} {V V':BdV} {e:D} {cs:List ar} (h:WF l V) (ht:∀ z x,x∈l.phonesOf z→z∈l.pn→x∈l.pn) (d:rm l V e cs) (ec:V'.calls=cs) (hz:∀ y z,e=.tup [.str "call",.str y,.str z]→z∈l.pn):WF l V':=by
 cases d with
 | call y z k h1 h2 =>
  have hz:=hz y z rfl
  have ok:lD l (rf (lG y [z]) (bx l V y z k)):=by
   cases er:bx l V y z k with
   | nil=>exact ⟨.inr (.inr (.inr ⟨rfl,rfl,rfl,rfl⟩)),h1,(fun _ h=>by cases h),fun _ h=>by cases h⟩
   | cons x r =>
    refine ⟨.inl ⟨rfl,rfl,rfl,?_,List.cons_ne_nil _ _⟩,h1,fun w hw=>ht z w (pZ.1 w (by rw [er]; exact hw)) hz,fun _ h=>by cases h⟩
    show y ∉ x :: r
    rw [← er]
    exact zu
  have en:∀ x,eng (rf (lG y [z]) (bx l V y z k)) x→x=y:=fun x hx=>by
   cases er:bx l V y z k with
   | nil=>rw [er] at hx; exact (eG rfl hx).elim
   | cons x' r=>rw [er] at hx; exact (g7 rfl).mp hx
  generalize rf (lG y [z]) (bx l V y z k)=c' at ok en ec
  have last:∀ (m:Nat) cm,(V.calls ++ [c'])[m]?=some cm→(m < V.calls.length∧V.calls[m]?=some cm)∨(m=V.calls.length∧cm=c'):=fun m cm hm=>by
   by_cases hl:m < V.calls.length
   ·rw [List.getElem?_append_left hl] at hm
    exact .inl ⟨hl,hm⟩
   ·have:=(List.getElem?_eq_some_iff.mp hm).1
    rw [List.length_append,List.length_singleton] at this
    have hm':m=V.calls.length:=by omega
    subst hm'
    rw [List.getElem?_append_right (Nat.le_refl _),Nat.sub_self] at hm
    exact .inr ⟨rfl,(Option.some.inj hm).symm⟩
  refine ⟨fun d hd=>?_,fun m n cm cn x e1 e2 g1 g2=>?_⟩
  ·rw [ec] at hd
   rcases List.mem_append.mp hd with z | z
   ·exact h.ok d z
   ·rw [List.mem_singleton.mp z]; exact ok
  ·rw [ec] at e1 e2
   rcases last m cm e1 with ⟨_,f1⟩ | ⟨m1,m2⟩
   ·rcases last n cn e2 with ⟨_,f2⟩ | ⟨n1,n2⟩
    ·exact h.un m n cm cn x f1 f2 g1 g2
    ·rw [n2] at g2
     rw [en x g2] at g1
     exact (lZ h2 (aZ f1) g1).elim
   ·rw [m2] at g1
    rcases last n cn e2 with ⟨_,f2⟩ | ⟨n1,_⟩
    ·rw [en x g1] at g2
     exact (lZ h2 (aZ f2) g2).elim
    ·exact m1.trans n1.symm
 | answer x i c h1 h2 h3 =>
  have co:=h.ok c (aZ h1)
  have hx:=dg.mp h2
  have hr:c.st="rings"∧c.cr ∉ c.at_:=by
   rcases co.sh with ⟨s,_,_,n,_⟩ | ⟨_,_,_,e⟩ | ⟨_,_,_,_,_,_,e⟩ | ⟨_,_,_,e⟩
   ·exact ⟨s,n⟩
   ·rw [e] at hx; cases hx
   ·rw [e] at hx; cases hx
   ·rw [e] at hx; cases hx
  have nd:[c.cr,x].Nodup:=by
   rw [List.nodup_cons,List.mem_singleton]
   exact ⟨fun z=>hr.2 (z ▸ hx),List.nodup_cons.mpr ⟨List.not_mem_nil,List.nodup_nil⟩⟩
  refine h.set ec h1 ⟨.inr (.inl ⟨rfl,nd,rfl,rfl⟩),co.cr,(fun _ h=>by cases h),fun y hy=>?_⟩ fun y hy=>?_
  ·rcases List.mem_cons.mp hy with rfl | hy
   ·exact co.cr
   ·rw [List.mem_singleton.mp hy]; exact co.at_ x hx
  ·rcases List.mem_cons.mp ((dE rfl).mp hy) with rfl | hy
   ·exact .inl ((g7 hr.1).mpr rfl)
   ·rw [List.mem_singleton.mp hy]; exact .inr h3
 | hold x i c h1 h2 =>
  have co:=h.ok c (aZ h1)
  unfold ar.pairsB ar.talksB at h2
  rw [Bool.and_eq_true,Bool.and_eq_true,beq_iff_eq,beq_iff_eq,dg] at h2
  obtain ⟨⟨hs,hx⟩,hl⟩:=h2
  have nd:c.ms.Nodup∧c.at_=[]:=by
   rcases co.sh with ⟨s,_⟩ | ⟨_,n,_,e⟩ | ⟨_,s,_⟩ | ⟨s,_⟩
   ·rw [hs] at s; exact absurd s (by decide)
   ·exact ⟨n,e⟩
   ·rw [hs] at s; exact absurd s (by decide)
   ·rw [hs] at s; exact absurd s (by decide)
  refine h.set ec h1 ⟨.inr (.inr (.inl ⟨x,rfl,nd.1,hl,rfl,hx,nd.2⟩)),co.cr,co.at_,co.ms⟩ fun y hy=>.inl ?_
  exact (dE hs).mpr ((jD rfl).mp hy).1
 | hang x i c h1 h2 =>
  have co:=h.ok c (aZ h1)
  have dsub:∀ y,eng (c.drop x) y→eng c y:=fun y hy=>by
   rcases co.sh with ⟨s,_⟩ | ⟨s,_⟩ | ⟨w,s,_⟩ | ⟨s,_⟩
   ·exact (g7 s).mpr ((g7 (c:=c.drop x) s).mp hy)
   ·exact (dE s).mpr (dO.mp ((dE (c:=c.drop x) s).mp hy)).1
   ·obtain ⟨y1,y2⟩:=(jD (c:=c.drop x) s).mp hy
    exact (jD s).mpr ⟨(dO.mp y1).1,y2⟩
   ·exact ((eG (c:=c.drop x) s) hy).elim
  have dat:∀ y∈(c.drop x).at_,y∈l.pn:=fun y hy=>co.at_ y (dO.mp hy).1
  have dms:∀ y∈(c.drop x).ms,y∈l.pn:=fun y hy=>co.ms y (dO.mp hy).1
  unfold qW at ec
  split at ec
  ·exact h.set ec h1 (pE co _) fun y hy=>(eG rfl hy).elim
  ·split at ec
   ·rename_i hat
    have hr:c.st="rings"∧c.ms=[]∧c.hd=none∧c.cr ∉ c.at_:=by
     have hx:=dg.mp hat
     rcases co.sh with s | ⟨_,_,_,e⟩ | ⟨_,_,_,_,_,_,e⟩ | ⟨_,_,_,e⟩
     ·exact ⟨s.1,s.2.1,s.2.2.1,s.2.2.2.1⟩
     ·rw [e] at hx; cases hx
     ·rw [e] at hx; cases hx
     ·rw [e] at hx; cases hx
    split at ec
    ·exact h.set ec h1 ⟨.inr (.inr (.inr ⟨rfl,rfl,rfl,rfl⟩)),co.cr,(fun _ h=>by cases h),fun _ h=>by cases h⟩ fun y hy=>(eG rfl hy).elim
    ·rename_i hne
     refine h.set ec h1 ⟨.inl ⟨hr.1,?_,hr.2.2.1,fun z=>hr.2.2.2 (dO.mp z).1,hne⟩,co.cr,dat,dms⟩ fun y hy=>.inl (dsub y hy)
     show bC c.ms x=[]
     rw [hr.2.1]
     rfl
   ·split at ec
    ·rename_i hat hl
     have hr:c.st="talks"∧c.ms.Nodup∧c.hd=none∧c.at_=[]:=by
      rcases co.sh with ⟨_,e,_⟩ | s | ⟨_,_,_,e,_⟩ | ⟨_,e,_⟩
      ·rw [e] at hl; cases hl
      ·exact s
      ·rw [e] at hl; exact absurd hl (by decide)
      ·rw [e] at hl; cases hl
     refine h.set ec h1 ⟨.inr (.inl ⟨hr.1,hr.2.1.filter _,hr.2.2.1,?_⟩),co.cr,dat,dms⟩ fun y hy=>.inl (dsub y hy)
     show bC c.at_ x=[]
     rw [hr.2.2.2]
     rfl
    ·exact h.set ec h1 (pE co _) fun y hy=>(eG rfl hy).elim
 | join x i j ci cj y1 y2 h1 h2 h3 h4 h5 h6 h7 =>
  have ci0:=h.ok ci (aZ h1)
  have cj0:=h.ok cj (aZ h2)
  obtain ⟨m1,n1⟩:=dO.mp h6
  obtain ⟨m2,n2⟩:=dO.mp h7
  unfold ar.pairsB ar.talksB at h4
  rw [Bool.and_eq_true,Bool.and_eq_true,beq_iff_eq,beq_iff_eq,dg] at h4
  obtain ⟨⟨hs,hx⟩,hl⟩:=h4
  have hi:ci.st="held":=by
   rcases ci0.sh with ⟨_,_,e,_⟩ | ⟨_,_,e,_⟩ | ⟨_,s,_⟩ | ⟨_,_,e,_⟩
   ·rw [h3] at e; cases e
   ·rw [h3] at e; cases e
   ·exact s
   ·rw [h3] at e; cases e
  have hj:cj.ms.Nodup∧cj.hd=none∧cj.at_=[]:=by
   rcases cj0.sh with ⟨s,_⟩ | ⟨_,n,e⟩ | ⟨_,s,_⟩ | ⟨s,_⟩
   ·rw [hs] at s; exact absurd s (by decide)
   ·exact ⟨n,e⟩
   ·rw [hs] at s; exact absurd s (by decide)
   ·rw [hs] at s; exact absurd s (by decide)
  have e1:eng ci y1:=(jD hi).mpr ⟨m1,fun z=>n1 (by rw [h3] at z; exact (Option.some.inj z).symm)⟩
  have e2:eng cj y2:=(dE hs).mpr m2
  have ex:eng cj x:=(dE hs).mpr hx
  have n12:y1 ≠ y2:=fun z=>h5 (h.un i j ci cj y1 h1 h2 e1 (z ▸ e2))
  let V1:BdV:={ V with calls:=V.calls.set i (ci.over "merged") }
  have w1:WF l V1:=h.set (V':=V1) rfl h1 (pE ci0 _) fun y hy=>(eG rfl hy).elim
  have hj1:V1.calls[j]?=some cj:=by
   show (V.calls.set i _)[j]?=_
   rw [List.getElem?_set_ne h5]
   exact h2
  have idl:ib V1 y1:=fun d hd=>by
   obtain ⟨m,hm,em⟩:=List.getElem_of_mem hd
   have em:V1.calls[m]?=some d:=by rw [List.getElem?_eq_getElem hm,em]
   have ne:¬ eng d y1:=by
    rcases kW em with ⟨_,rfl⟩ | ⟨hm,em⟩
    ·exact eG rfl
    ·exact fun z=>hm (h.un m i d ci y1 em h1 z e1)
   exact ⟨Bool.eq_false_iff.mpr fun z=>ne (.inl z),Bool.eq_false_iff.mpr fun z=>ne (.inr z)⟩
  refine w1.set (V':=V') ec hj1 ⟨.inr (.inl ⟨hs,?_,hj.2⟩),cj0.cr,cj0.at_,fun y hy=>?_⟩ fun y hy=>?_
  ·simp only [List.nodup_cons,List.mem_cons,List.not_mem_nil,or_false,not_or]
   exact ⟨⟨Ne.symm n1,Ne.symm n2⟩,n12,not_false,List.nodup_nil⟩
  ·simp only [List.mem_cons,List.not_mem_nil,or_false] at hy
   rcases hy with rfl | rfl | rfl
   ·exact cj0.ms _ hx
   ·exact ci0.ms _ m1
   ·exact cj0.ms _ m2
  ·have hy:=(dE (c:={ cj with ms:=[x,y1,y2] }) hs).mp hy
   simp only [List.mem_cons,List.not_mem_nil,or_false] at hy
   rcases hy with rfl | rfl | rfl
   ·exact .inl ex
   ·exact .inr idl
   ·exact .inl e2
end Z
namespace Z
open PySem PySem.Spec PyProof.Rows L2 L3
def x9 (a:Ad):Sp3:=fun ds M Q=>∃ M0 b A V l n x i c,ds=[.ref b,.str x,.int (i:Nat)]∧Cur a M0 M b A V l n∧n≤8000∧V.calls[i]?=some c∧∀ M' A' V',Cur a M0 M' b A' V' l (n + 2)→bL A M A' M'→V'.ps=V.ps→V'.calls=V.calls.set i (qW c x)→Q .non M'
def xx (a:Ad):Sp3:=fun ds M Q=>∃ M0 b A V l n,Cur a M0 M b A V l n∧((∃ x i c,ds=[.ref b,.tup [.str "answer",.str x,.int (i:Nat)]]∧V.calls[i]?=some c∧Q (.tup [.str "talks",.int (i:Nat),.tup [.str c.cr,.str x]]) M)∨(∃ x i c,ds=[.ref b,.tup [.str "hold",.str x,.int (i:Nat)]]∧V.calls[i]?=some c∧Q (.tup [.str "held",.int (i:Nat),.str x]) M) ∨
 ∃ x i j ci cj y1 r1 y2 r2,ds=[.ref b,.tup [.str "join",.str x,.int (i:Nat),.int (j:Nat)]]∧V.calls[i]?=some ci∧V.calls[j]?=some cj∧bC ci.ms x=y1 :: r1∧bC cj.ms x=y2 :: r2∧Q (.tup [.str "merge",.int (i:Nat),.int (j:Nat),.tup [.str x,.str y1,.str y2]]) M)
def qm (l:aD) (V:BdV) (e:D):Prop:=(∃ y z k,e=.tup [.str "call",.str y,.str z]∧Tgt l z∧iP l V z k∧(l.manner z == "turns")=false)∨∃ wd x ns,e=.tup (.str wd :: .str x :: List.map D.int ns)∧((sX wd∧ns.length=1)∨(wd="join"∧ns.length=2))
def w6 (a:Ad) (M0 M:Mp) (b:Addr) (A:BdA) (V:BdV) (l:aD) (n:Nat) (e:D) (Q:Mp→Prop):Prop:=∀ M' A' V',Cur a M0 M' b A' V' l (n + 5)→bL A M A' M'→V'.ps=V.ps→rm l V e V'.calls→Q M'
def Fit (l:aD) (V:BdV) (e:D):Prop:=(∃ y z,e=.tup [.str "call",.str y,.str z]∧y∈l.pn∧ib V y)∨∃ wd x ns cs,e=.tup (.str wd :: .str x :: List.map D.int ns)∧iG V ns cs∧ko wd x cs=true∧(wd="answer"→ib V x)
def xb (a:Ad):Sp3:=fun ds M Q=>∃ M0 b A V l n e,ds=[.ref b,e]∧Cur a M0 M b A V l n∧n≤5000∧WF l V∧qm l V e∧Fit l V e∧w6 a M0 M b A V l n e (Q .non)
def Cw (a:Ad):qI:=fun ds M Q R=>∃ M0 b A V l n e,ds=[.ref b,e]∧Cur a M0 M b A V l n∧n≤5000∧WF l V∧l.phones.length≤100∧l.groups.length≤100∧qm l V e∧w6 a M0 M b A V l n e (fun M'=>∀ r,Q (.ref r) M')∧R a.c_NoDeed M
def tZ (a:Ad):Sp3:=fun ds M Q=>∃ M0 b A V l n e,ds=[.ref b,e]∧Cur a M0 M b A V l n∧n≤5000∧WF l V∧l.phones.length≤100∧l.groups.length≤100∧qm l V e∧w6 a M0 M b A V l n e (Q (.bl true))∧Q (.bl false) M
theorem WF.nw {l:aD} {V:BdV} (h:WF l V):sy V:=fun c hc=>by
 rcases (h.ok c hc).sh with ⟨s,_⟩ | ⟨s,_⟩ | ⟨_,s,_⟩ | ⟨s,_⟩ <;> rw [s] <;> decide
theorem pJ {V:BdV} {ns:List Int} {cs:List ar} (h:iG V ns cs) (hl:ns.length=1):∃ (i:Nat) (c:ar),ns=[(i:Int)]∧cs=[c]∧V.calls[i]?=some c:=by
 cases h with
 | nil=>cases hl
 | cons i c ns cs h r =>
  cases r with
  | nil=>exact ⟨i,c,rfl,rfl,h⟩
  | cons _ _ _ _ _ _=>cases hl
theorem Bh {V:BdV} {ns:List Int} {cs:List ar} (h:iG V ns cs) (hl:ns.length=2):∃ (i j:Nat) (c d:ar),ns=[(i:Int),(j:Int)]∧cs=[c,d]∧V.calls[i]?=some c∧V.calls[j]?=some d:=by
 cases h with
 | nil=>cases hl
 | cons i c ns cs h r =>
  obtain ⟨j,d,rfl,rfl,e⟩:=pJ r (Nat.succ.inj hl)
  exact ⟨i,j,c,d,rfl,rfl,h,e⟩
theorem qa {ms:List Str} {x:Str} (nd:ms.Nodup) (hl:ms.length=2) (hx:x∈ms):∃ y r,bC ms x=y :: r:=by
 match ms,hl with
 | [u,v],_ =>
  rw [List.nodup_cons,List.mem_singleton] at nd
  cases e:bC [u,v] x with
  | cons y r=>exact ⟨y,r,rfl⟩
  | nil =>
   have h1:∀ y,y∈[u,v]→y=x:=fun y hy=>Classical.byContradiction fun z=>by
    have:y∈bC [u,v] x:=dO.mpr ⟨hy,z⟩
    rw [e] at this
    cases this
   exact absurd ((h1 u (by simp)).trans (h1 v (by simp)).symm) nd.1
section
variable {P:Program} {w:World} {K:PySem.W.Frag} {mg:Str→Option Value} {base:Heap} {a:Ad}
theorem zq (G:Gl K mg a):Fq P w K mg base 4 a.hang_up (x9 a):=by
 have C_Board_apply:=ez (P:=P) (w:=w) (base:=base) G
 have C_Call_is_tried_by:=me (P:=P) (w:=w) (base:=base) G
 refine aX G.hang_up.toDG lz (fun ds M Q h=>?_) (fun cdv A outer s H E hr=>⟨_,(ah (aE (i:=3) lz.nd rfl (Or.inl rfl) (aA (ap (aa 0 (pv 0))) (aa 2 (pv 2))))
 (ai (aF (e9 (aJ (aa 3 (pv 3)) G.c_Call.toCls G.Call_is_tried_by C_Call_is_tried_by hr (ae (aa 1 (pv 1)) ag)))
 (ai (aC (aJ (aa 0 (pv 0)) G.c_Board.toCls G.Board_apply C_Board_apply hr (ae (aI (ae ao (ae (aa 2 (pv 2)) (ae ao ag)))) ag))))
 (ai (aF (au (hu9 hr) (aa 1 (pv 1)) (ap (aa 3 (pv 3))))
 (ah (aC (aJ (aa 0 (pv 0)) G.c_Board.toCls G.Board_apply C_Board_apply hr (ae (aI (ae ao (ae (aa 2 (pv 2)) (ae (aa 1 (pv 1)) ag)))) ag)))
 (ai (aF (au (hu9 hr) (aH bn rfl G.no_len bi (ae (ap (aa 3 (pv 3))) ag)) ak)
 (ai (aC (aJ (aa 0 (pv 0)) G.c_Board.toCls G.Board_apply C_Board_apply hr (ae (aI (ae ao (ae (aa 2 (pv 2)) (ae ao ag)))) ag))))
 ay)))
 (ai (aF (au (hu9 hr) (aH bn rfl G.no_len bi (ae (ap (aa 3 (pv 3))) ag)) ak)
 (ai (aC (aJ (aa 0 (pv 0)) G.c_Board.toCls G.Board_apply C_Board_apply hr (ae (aI (ae ao (ae (aa 2 (pv 2)) (ae (aa 1 (pv 1)) ag)))) ag))))
 (ai (aC (aJ (aa 0 (pv 0)) G.c_Board.toCls G.Board_apply C_Board_apply hr (ae (aI (ae ao (ae (aa 2 (pv 2)) (ae ao ag)))) ag))))))))))),?_⟩)
 ·obtain ⟨M0,b,A,V,l,n,x,i,c,rfl,_⟩:=h
  rfl
 ·rintro ds M Q ⟨M0,b,A,V,l,n,x,i,c,rfl,cu,hn,hc,q⟩
  obtain ⟨ka,ci⟩:=cu.call hc
  obtain ⟨ad,md,h1,h2,h3,h4,n1,n2⟩:=ci.cell
  refine aj cu.at_ (af rfl (af rfl (af ci.bd.ca (af (bV ci.e1) ?_))))
  refine aj h1 ⟨rfl,_,⟨rfl,rfl⟩,_,ka,c,x,rfl,ci.cell,?_⟩
  have over:∀ (w0:Str),qW c x=c.over w0→∀ (M1:Mp) (A1:BdA),A1.b=A.b→bL A M A1 M1→az a M1 A1 (gw (cJ V (.tup [.str "over",.int (i:Nat),.str w0])) i (c.over w0))→∃ M'',L3.Sub M'' M1∧Q .non M'':=fun w0 e0 M1 A1 eb st bd=>⟨M1,.refl,q M1 A1 _ ((cu.after (.chg i c _ _ hc (.over w0)) eb st bd).mono (by omega)) st rfl (by rw [e0]; rfl)⟩
  unfold qW at over q
  refine bo (c:=c.triedB x) (fun g=>?_) (fun g=>?_)
  ·rw [if_pos g] at over
   exact aj cu.at_ ⟨rfl,_,⟨rfl,rfl⟩,few rfl,b,A,V,_,_,rfl,cu.b,cu.w.bd,cu.g.lim (by omega),.chg i c _ _ hc (.over "left"),over "left" rfl⟩
  rw [if_neg g] at q over
  refine aj h1 (af rfl (af h3 ⟨rfl,bt _,?_⟩))
  show if inD (.str x) (c.at_.map D.str)=true then _ else _
  rw [dj]
  refine bo (c:=hasS c.at_ x) (fun g2=>?_) (fun g2=>?_)
  ·rw [if_pos g2] at q
   refine aj cu.at_ ⟨rfl,_,⟨rfl,rfl⟩,few rfl,b,A,V,_,_,rfl,cu.b,cu.w.bd,cu.g.lim (by omega),.chg i c _ _ hc (.leaves x),fun M1 A1 eb st bd=>?_⟩
   have c1:=cu.after (.chg i c _ _ hc (.leaves x)) eb st bd
   generalize hV:gw (cJ V (.tup [.str "leaves",.int (i:Nat),.str x])) i (c.drop x)=V1 at c1 bd
   have hp:V1.ps=V.ps:=by rw [← hV]; rfl
   have hi:=(List.getElem?_eq_some_iff.mp hc).1
   have hcs:V1.calls=V.calls.set i (c.drop x):=by rw [← hV]; rfl
   have hc1:V1.calls[i]?=some (c.drop x):=by
    rw [hcs,List.getElem?_set_self hi]
   have ek:=st.2.2 i ka ci.e1
   obtain ⟨ad',md',g1,g2',g3,g4,_⟩:=c1.w.bd.cs i ka _ ek hc1
   have le0:((((c.drop x).at_.map D.str).length:Int) == 0)=decide (bC c.at_ x=[]):=by
    rw [List.length_map,Bool.eq_iff_iff,beq_iff_eq,decide_eq_true_eq]
    show ((bC c.at_ x).length:Int)=0 ↔ _
    rw [← List.length_eq_zero_iff]
    omega
   refine aj g1 (af rfl (af g3 ?_))
   refine bo (c:=(((c.drop x).at_.map D.str).length:Int) == 0) (fun g5=>?_) (fun g5=>?_)
   ·rw [le0,decide_eq_true_eq] at g5
    rw [if_pos g5] at q
    refine aj c1.at_ ⟨rfl,_,⟨rfl,rfl⟩,few rfl,b,A1,V1,_,_,rfl,c1.b,c1.w.bd,c1.g.lim (by omega),.chg i (c.drop x) _ _ hc1 (.over "refused"),fun M2 A2 eb2 st2 bd2=>?_⟩
    refine ⟨M2,.refl,q M2 A2 _ (c1.after (.chg i (c.drop x) _ _ hc1 (.over "refused")) eb2 st2 bd2) (st.trans st2) hp ?_⟩
    show V1.calls.set i _=_
    rw [hcs,List.set_set]
   ·rw [le0,decide_eq_true_eq] at g5
    rw [if_neg g5] at q
    exact ⟨M1,.refl,q M1 A1 V1 (c1.mono (by omega)) st hp hcs⟩
  ·rw [if_neg g2] at q over
   refine aj h1 (af rfl (af h4 ?_))
   have lm:decide ((2:Int) < ((c.ms.map D.str).length:Int))=decide (2 < c.ms.length):=by
    rw [List.length_map,Bool.eq_iff_iff,decide_eq_true_eq,decide_eq_true_eq]
    omega
   refine bo (c:=decide ((2:Int) < ((c.ms.map D.str).length:Int))) (fun g3=>?_) (fun g3=>?_)
   ·rw [lm,decide_eq_true_eq] at g3
    rw [if_pos g3] at q
    refine aj cu.at_ ⟨rfl,_,⟨rfl,rfl⟩,few rfl,b,A,V,_,_,rfl,cu.b,cu.w.bd,cu.g.lim (by omega),.chg i c _ _ hc (.leaves x),fun M1 A1 eb st bd=>?_⟩
    exact ⟨M1,.refl,q M1 A1 _ ((cu.after (.chg i c _ _ hc (.leaves x)) eb st bd).mono (by omega)) st rfl rfl⟩
   ·rw [lm,decide_eq_true_eq] at g3
    rw [if_neg g3] at over
    exact aj cu.at_ ⟨rfl,_,⟨rfl,rfl⟩,few rfl,b,A,V,_,_,rfl,cu.b,cu.w.bd,cu.g.lim (by omega),.chg i c _ _ hc (.over "done"),over "done" rfl⟩
theorem xQ (G:Gl K mg a):Fq P w K mg base 2 a.event_of (xx a):=by
 have C_Call_other_than:=wu (P:=P) (w:=w) (base:=base) G
 refine aX G.event_of.toDG cw (fun ds M Q h=>?_) (fun cdv A outer s H E hr=>⟨_,(ah (aE (i:=2) cw.nd rfl (Or.inl rfl) (aA (aa 1 (pv 1)) ak))
 (ah (aF (au (hu9 hr) (aa 2 (pv 2)) (aI (ae ao (ae ao ag))))
 (ai (aw (aI (ae (aa 2 (pv 2)) (ae (aA (aa 1 (pv 1)) ak) ag)))))
 ay)
 (ah (aE (i:=3) cw.nd rfl (Or.inl rfl) (aA (aa 1 (pv 1)) ak))
 (ah (aE (i:=4) cw.nd rfl (Or.inl rfl) (aA (aa 1 (pv 1)) ak))
 (ah (aE (i:=5) cw.nd rfl (Or.inl rfl) (aA (ap (aa 0 (pv 0))) (aa 4 (pv 4))))
 (ah (aF (au (hu9 hr) (aa 2 (pv 2)) ao)
 (ai (aw (aI (ae ao (ae (aa 4 (pv 4)) (ae (aI (ae (ap (aa 5 (pv 5))) (ae (aa 3 (pv 3)) ag))) ag))))))
 ay)
 (ah (aF (au (hu9 hr) (aa 2 (pv 2)) ao)
 (ai (aw (aI (ae ao (ae (aa 4 (pv 4)) (ae (aa 3 (pv 3)) ag))))))
 ay)
 (ah (aF (au (hu9 hr) (aa 2 (pv 2)) ao)
 (ai (aw (aI (ae ao (ae (aa 4 (pv 4)) (ae (aP bU rfl G.no_tuple bT (ae (ap (aa 5 (pv 5))) ag)) ag))))))
 ay)
 (ah (aE (i:=6) cw.nd rfl (Or.inl rfl) (aA (aa 1 (pv 1)) ak))
 (ah (aE (i:=7) cw.nd rfl (Or.inl rfl) (aI (ae (aJ (aa 5 (pv 5)) G.c_Call.toCls G.Call_other_than C_Call_other_than hr (ae (aa 3 (pv 3)) ag)) (ae (aJ (aA (ap (aa 0 (pv 0))) (aa 6 (pv 6))) G.c_Call.toCls G.Call_other_than C_Call_other_than hr (ae (aa 3 (pv 3)) ag)) ag))))
 (ah (aF (au (hu9 hr) (aa 2 (pv 2)) ao)
 (ai (aw (aI (ae ao (ae (aa 4 (pv 4)) (ae (aa 6 (pv 6)) (ae (aa 7 (pv 7)) ag)))))))
 ay)
 (ai (aw (aI (ae ao (ae (aa 4 (pv 4)) (ae (aa 6 (pv 6)) (ae (aS (aI (ae (aa 3 (pv 3)) ag)) (aa 7 (pv 7))) ag)))))))))))))))))),?_⟩)
 ·obtain ⟨M0,b,A,V,l,n,_,⟨x,i,c,rfl,_⟩ | ⟨x,i,c,rfl,_⟩ | ⟨x,i,j,ci,cj,y1,r1,y2,r2,rfl,_⟩⟩:=h <;> rfl
 ·rintro ds M Q ⟨M0,b,A,V,l,n,cu,⟨x,i,c,rfl,hc,q⟩ | ⟨x,i,c,rfl,hc,q⟩ | ⟨x,i,j,c,cj,y1,r1,y2,r2,rfl,hc,hj,e1,e2,q⟩⟩
  ·obtain ⟨ka,ci⟩:=cu.call hc
   obtain ⟨ad,md,h1,h2,h3,h4,n1,n2⟩:=ci.cell
   refine ⟨few rfl,rfl,rfl,?_⟩
   refine aj cu.at_ (af rfl (af rfl (af ci.bd.ca (af (bV ci.e1) ?_))))
   exact aj h1 (af rfl ⟨few rfl,few rfl,M,.refl,q⟩)
  ·obtain ⟨ka,ci⟩:=cu.call hc
   refine ⟨few rfl,rfl,rfl,?_⟩
   refine aj cu.at_ (af rfl (af rfl (af ci.bd.ca (af (bV ci.e1) ?_))))
   exact ⟨few rfl,M,.refl,q⟩
  ·obtain ⟨ka,ci⟩:=cu.call hc
   obtain ⟨kb,cb⟩:=cu.call hj
   obtain ⟨ad,md,h1,h2,h3,h4,n1,n2⟩:=ci.cell
   obtain ⟨ad',md',f1,_⟩:=cb.cell
   refine ⟨few rfl,rfl,rfl,?_⟩
   refine aj cu.at_ (af rfl (af rfl (af ci.bd.ca (af (bV ci.e1) ?_))))
   refine aj h1 ⟨rfl,_,⟨rfl,rfl⟩,_,ka,c,x,y1,r1,rfl,ci.cell,(cu.g.cs c (aZ hc)).2.2,e1,?_⟩
   refine aj cu.at_ (af rfl (af rfl (af ci.bd.ca (af (bV cb.e1) ?_))))
   refine aj f1 ⟨rfl,_,⟨rfl,rfl⟩,_,kb,cj,x,y2,r2,rfl,cb.cell,(cu.g.cs cj (aZ hj)).2.2,e2,?_⟩
   exact ⟨few rfl,few rfl,List.cons_ne_nil _ _,by show 1 + 2≤sizeLine; have hz:sizeLine=16777216:=sizeLine_eq; omega,few rfl,M,.refl,q⟩
end
end Z
namespace Z
open PySem PySem.Spec PyProof.Rows L2 L3
theorem tj:∀ {xs ys:List Int},xs.map D.int=ys.map D.int→xs=ys
 | [],[],_=>rfl
 | [],_ :: _,h=>by cases h
 | _ :: _,[],h=>by cases h
 | x :: xs,y :: ys,h=>by
  rw [List.map_cons,List.map_cons] at h
  injection h with h1 h2
  rw [D.int.inj h1,tj h2]
section
variable {P:Program} {w:World} {K:PySem.W.Frag} {mg:Str→Option Value} {base:Heap} {a:Ad}
theorem Bl (G:Gl K mg a):Fq P w K mg base 10 a.act (xb a):=by
 have C_Board_apply:=ez (P:=P) (w:=w) (base:=base) G
 have C_event_of:=xQ (P:=P) (w:=w) (base:=base) G
 have C_make_call:=we (P:=P) (w:=w) (base:=base) G
 have C_hang_up:=zq (P:=P) (w:=w) (base:=base) G
 refine aX G.act.toDG xh (fun ds M Q h=>?_) (fun cdv A outer s H E hr=>⟨_,(ah (aE (i:=2) xh.nd rfl (Or.inl rfl) (aA (aa 1 (pv 1)) ak))
 (ai (aF (au (hu9 hr) (aa 2 (pv 2)) ao)
 (ai (aC (ax C_make_call hr G.make_call (ae (aa 0 (pv 0)) (ae (aA (aa 1 (pv 1)) ak) (ae (aA (aa 1 (pv 1)) ak) ag))))))
 (ai (aF (au (hu9 hr) (aa 2 (pv 2)) ao)
 (ai (aC (ax C_hang_up hr G.hang_up (ae (aa 0 (pv 0)) (ae (aA (aa 1 (pv 1)) ak) (ae (aA (aa 1 (pv 1)) ak) ag))))))
 (ai (aF (au (hu9 hr) (aa 2 (pv 2)) ao)
 (ai bz)
 (ai (aC (aJ (aa 0 (pv 0)) G.c_Board.toCls G.Board_apply C_Board_apply hr (ae (ax C_event_of hr G.event_of (ae (aa 0 (pv 0)) (ae (aa 1 (pv 1)) ag))) ag))))))))))),?_⟩)
 ·obtain ⟨M0,b,A,V,l,n,e,rfl,_⟩:=h
  rfl
 ·rintro ds M Q ⟨M0,b,A,V,l,n,e,rfl,cu,hn,wf,hd,hf,q⟩
  rcases hd with ⟨y,z,k,rfl,tg,nx,hm⟩ | ⟨wd,x,ns,rfl,hw⟩
  ·have fy:y∈l.pn∧ib V y:=by
    rcases hf with ⟨y',z',e,h⟩ | ⟨wd,x,ns,cs,e,hc,hs,_⟩
    ·cases e; exact h
    ·match ns,e with
     | [_],e=>cases e
   refine ⟨M0,b,A,V,l,n,y,z,k,rfl,cu,by omega,tg,nx,fun M' A' V' c1 st e1 e2=>⟨M',.refl,q M' A' V' c1 st ?_ ?_⟩⟩
   ·rw [e1]
    cases bx l V y z k with
    | nil=>rfl
    | cons x r =>
     show dD l V z x=V.ps
     unfold dD
     rw [hm]
     rfl
   ·rw [e2]
    exact .call y z k fy.1 fy.2
  ·obtain ⟨cs,hcs,hs,hid⟩:∃ cs,iG V ns cs∧ko wd x cs=true∧(wd="answer"→ib V x):=by
    rcases hf with ⟨y',z',e,h⟩ | ⟨wd',x',ns',cs,e,hc,hs,hi⟩
    ·match ns,e with
     | [_],e=>cases e
    ·simp only [D.tup.injEq,List.cons.injEq,D.str.injEq] at e
     obtain ⟨rfl,rfl,e⟩:=e
     have:ns=ns':=tj e
     subst this
     exact ⟨cs,hc,hs,hi⟩
   rcases hw with ⟨rfl | rfl | rfl,hl⟩ | ⟨rfl,hl⟩
   ·obtain ⟨j,c,rfl,rfl,hc⟩:=pJ hcs hl
    refine aj cu.at_ ⟨rfl,_,⟨rfl,rfl⟩,M0,b,A,V,l,n,cu,.inl ⟨x,j,c,rfl,hc,b,A,V,_,_,rfl,cu.b,cu.w.bd,cu.g.lim (by omega),.chg j c _ _ hc (.talks [c.cr,x] (by show 2≤100; decide)),fun M1 A1 eb st bd=>?_⟩⟩
    exact ⟨M1,.refl,q M1 A1 _ ((cu.after (.chg j c _ _ hc (.talks [c.cr,x] (by show 2≤100; decide))) eb st bd).mono (by omega)) st rfl (.answer x j c hc hs (hid rfl))⟩
   ·obtain ⟨j,c,rfl,rfl,hc⟩:=pJ hcs hl
    exact ⟨M0,b,A,V,l,n,x,j,c,rfl,cu,by omega,hc,fun M' A' V' c1 st e e2=>⟨M',.refl,q M' A' V' (c1.mono (by omega)) st e (by rw [e2]; exact .hang x j c hc hs)⟩⟩
   ·obtain ⟨j,c,rfl,rfl,hc⟩:=pJ hcs hl
    refine aj cu.at_ ⟨rfl,_,⟨rfl,rfl⟩,M0,b,A,V,l,n,cu,.inr (.inl ⟨x,j,c,rfl,hc,b,A,V,_,_,rfl,cu.b,cu.w.bd,cu.g.lim (by omega),.chg j c _ _ hc (.held x),fun M1 A1 eb st bd=>?_⟩)⟩
    exact ⟨M1,.refl,q M1 A1 _ ((cu.after (.chg j c _ _ hc (.held x)) eb st bd).mono (by omega)) st rfl (.hold x j c hc hs)⟩
   ·obtain ⟨i,j,c,d,rfl,rfl,hc,hd⟩:=Bh hcs hl
    have hs:((c.hd == some x) && d.pairsB x)=true:=hs
    rw [Bool.and_eq_true,beq_iff_eq] at hs
    obtain ⟨s1,s2⟩:=hs
    have s3:=s2
    unfold ar.pairsB ar.talksB at s3
    rw [Bool.and_eq_true,Bool.and_eq_true,beq_iff_eq,beq_iff_eq,dg] at s3
    obtain ⟨⟨dt,dx⟩,dl⟩:=s3
    have co:=(wf.ok c (aZ hc)).sh
    have do':=(wf.ok d (aZ hd)).sh
    have hcx:c.st="held"∧c.ms.Nodup∧c.ms.length=2∧x∈c.ms:=by
     rcases co with ⟨_,_,e,_⟩ | ⟨_,_,e,_⟩ | ⟨u,s,n,m,e,v,_⟩ | ⟨_,_,e,_⟩
     ·rw [s1] at e; cases e
     ·rw [s1] at e; cases e
     ·rw [s1] at e; cases e; exact ⟨s,n,m,v⟩
     ·rw [s1] at e; cases e
    have hdn:d.ms.Nodup:=by
     rcases do' with ⟨s,_⟩ | ⟨_,n,_⟩ | ⟨_,s,_⟩ | ⟨s,_⟩
     ·rw [dt] at s; exact absurd s (by decide)
     ·exact n
     ·rw [dt] at s; exact absurd s (by decide)
     ·rw [dt] at s; exact absurd s (by decide)
    obtain ⟨y1,r1,e1⟩:=qa hcx.2.1 hcx.2.2.1 hcx.2.2.2
    obtain ⟨y2,r2,e2⟩:=qa hdn dl dx
    have nij:i ≠ j:=fun z=>by
     subst z
     rw [hc] at hd
     cases hd
     rw [dt] at hcx
     exact absurd hcx.1 (by decide)
    have ev:∀ V1:BdV,V1.calls=V.calls→V1.legs=V.legs→Ev V1 (.tup [.str "merge",.int (i:Nat),.int (j:Nat),.tup [.str x,.str y1,.str y2]]) (sU V1 i j c d [x,y1,y2]):=fun V1 f1 f2=>.merge i j c d [x,y1,y2] (by rw [f1]; exact hc) (by rw [f1]; exact hd) nij (by rw [f2]; exact cu.g.lg) (by show 3≤100; decide)
    refine aj cu.at_ ⟨rfl,_,⟨rfl,rfl⟩,M0,b,A,V,l,n,cu,.inr (.inr ⟨x,i,j,c,d,y1,r1,y2,r2,rfl,hc,hd,e1,e2,b,A,V,_,_,rfl,cu.b,cu.w.bd,cu.g.lim (by omega),ev _ rfl rfl,fun M1 A1 eb st bd=>?_⟩)⟩
    exact ⟨M1,.refl,q M1 A1 _ ((cu.after (ev _ rfl rfl) eb st bd).mono (by omega)) st rfl (.join x i j c d y1 y2 hc hd s1 s2 nij (by rw [e1]; exact List.mem_cons_self) (by rw [e2]; exact List.mem_cons_self))⟩
theorem vh (G:Gl K mg a):gx P w K mg base (CX1 P w) 1 a.NoDeed_init.f a.NoDeed_init.d a.NoDeed_init.p (fG K "word") :=
 wO G.NoDeed_init.toDG lH fun cdv A outer s H E=>tD (yu (pv 0) (pv 1))
theorem Cj (G:Gl K mg a):Fqx P w K mg base 11 a.do_ (Cw a):=by
 have C_refusal:=rJ (P:=P) (w:=w) (base:=base) G
 have C_act:=Bl (P:=P) (w:=w) (base:=base) G
 have C_NoDeed_init:=vh (P:=P) (w:=w) (base:=base) G
 refine Co G.do_.toDG sG (fun ds M Q R h=>?_) (fun cdv A outer s H E R hr hR=>⟨_,(ah (aE (i:=2) sG.nd rfl (Or.inl rfl) (ax C_refusal hr G.refusal (ae (aa 0 (pv 0)) (ae (aa 1 (pv 1)) ag))))
 (ah (aF (au (hu9 hr) (aa 2 (pv 2)) b9)
 (ai (uS G.xn_NoDeed C_NoDeed_init (hr.mono (by first | decide | omega)) G.NoDeed_init.b G.xs_NoDeed G.NoDeed_init.at_ rfl G.mg_NoDeed hR (ae (aa 2 (pv 2)) ag)))
 ay)
 (ah (aE (i:=3) sG.nd rfl (Or.inl rfl) (aH bn rfl G.no_len bi (ae (ap (aa 0 (pv 0))) ag)))
 (ah (aC (ax C_act hr G.act (ae (aa 0 (pv 0)) (ae (aa 1 (pv 1)) ag))))
 (ai (aw (cq (ap (aa 0 (pv 0))) (di (aa 3 (pv 3))) cY))))))),?_⟩)
 ·obtain ⟨M0,b,A,V,l,n,e,rfl,_⟩:=h
  rfl
 ·rintro ds M Q ⟨M0,b,A,V,l,n,e,rfl,cu,hn,wf,hp,hg,hd,q,rr⟩
  have okc:Fit l V e→dw (jW (gl Bd (cz (xk "log" (v3 0)) cO)) (fq 3)) (dw (v1 (gl (xb a) (cz (v3 0) (cz (v3 1) cO)))) (AJ (s3 (xk "log" (v3 0)) (z5 (v3 3)) tw))) { nx:=fun _ M'=>∃ M'',L3.Sub M'' M'∧Q .non M'',rt:=fun d M'=>∃ M'',L3.Sub M'' M'∧Q d M'' } [some (.ref b),some e,some .non,none] M:=fun hf=>by
   refine aj cu.at_ (af rfl (af cu.w.bd.lo ?_))
   refine ⟨M0,b,A,V,l,n,e,rfl,cu,hn,wf,hd,hf,fun M' A' V' c1 st e1 e2=>?_⟩
   exact aj c1.at_ (af rfl (af c1.w.bd.lo fun p hp=>⟨M',.new hp,q M' A' V' c1 st e1 e2 p⟩))
  refine ⟨A,V,l,e,by rw [cu.b],cu.rd (by omega),wf.nw,hp,hg,fun w0=>⟨rfl,rr⟩,?_⟩
  rcases hd with ⟨y,z,k,rfl,tg,nx,hm⟩ | ⟨wd,x,ns,rfl,hw⟩
  ·exact .inl ⟨y,z,rfl,fun h1 h2 h3=>okc (.inl ⟨y,z,rfl,h1,h3⟩)⟩
  ·exact .inr ⟨wd,x,ns,rfl,hw,fun cs h1 h2 h3=>okc (.inr ⟨wd,x,ns,cs,rfl,h1,h2,h3⟩)⟩
theorem ui (G:Gl K mg a):Fq P w K mg base 12 a.law_done (tZ a):=by
 have C_do_:=Cj (P:=P) (w:=w) (base:=base) G
 refine aX G.law_done.toDG gH (fun ds M Q h=>?_) (fun cdv A outer s H E hr=>⟨_,(ah (aE (i:=2) gH.nd rfl (Or.inl rfl) eJ)
 (ah (yf (wK C_do_ (hr.mono (by first | decide | omega)) rfl G.do_.mg G.do_.toDG.kp G.do_.b (ae (aa 0 (pv 0)) (ae (aa 1 (pv 1)) ag))) rfl rfl rfl G.mg_NoDeed (fun ev E' =>
 (ai (aE (i:=2) gH.nd rfl (Or.inl rfl) eJ))))
 (ai (aw (aa 2 (pv 2)))))),?_⟩)
 ·obtain ⟨M0,b,A,V,l,n,e,rfl,_⟩:=h
  rfl
 ·rintro ds M Q ⟨M0,b,A,V,l,n,e,rfl,cu,hn,wf,hp,hg,hd,q,qf⟩
  refine ⟨fun C M'=>C=a.c_NoDeed∧M=M',?_,?_⟩
  ·exact ⟨M0,b,A,V,l,n,e,rfl,cu,hn,wf,hp,hg,hd,fun M' A' V' c1 st e1 e2 r=>⟨M',.refl,q M' A' V' c1 st e1 e2⟩,rfl,rfl⟩
  ·rintro C M' ⟨rfl,rfl⟩
   exact ⟨G.ex_NoDeed_NoDeed,M,.refl,qf⟩
end
end Z
namespace Z
open PySem PySem.Spec PyProof.Rows L2 L3
def fi (g:cU):Bool:=g.2.1 == ("turns":Str)
def eQ (l:aD):List (Str × Int):=(l.groups.filter fi).map fun g=>(g.1,0)
def V0 (p:Addr) (h:Int) (l:aD):BdV:=⟨p,h,0,[],[],eQ l,[]⟩
def oM (a:Ad):Sp3:=fun ds M Q=>∃ b p h,∃ l:aD,ds=[.ref b,.ref p,.int h]∧M b=some (.ins a.c_Board [])∧bW a M p l∧mL l∧p ≠ b∧∀ M' A,A.b=b→ck b M M'→(∀ x∈A.foot,x=b∨M x=none)→az a M' A (V0 p h l)→Q .non M'
def vU (g:D):Bool:=match g with
 | .tup (_ :: .str m :: _)=>m == "turns"
 | _=>false
def z7 (d:D):D:=.tup [nA d,.int 0]
theorem rC (gs:List cU):((gs.map bp).filter vU).map z7=(gs.filter fi).map fun g=>D.tup [.str g.1,.int 0]:=by
 rw [List.filter_map,List.map_map]
 rfl
theorem ut (l:aD):((l.groups.filter fi).map fun g=>((Sum.inr g.1:Key),D.int 0))=bA (eQ l):=by
 unfold bA eQ
 rw [List.map_map]
 rfl
section
variable {P:Program} {w:World} {K:PySem.W.Frag} {mg:Str→Option Value} {base:Heap} {a:Ad}
theorem vN (G:Gl K mg a):Fq P w K mg base 1 a.Board_init (oM a):=by
 refine aX G.Board_init.toDG mQ (fun ds M Q h=>?_) (fun cdv A outer s H E hr=>⟨_,(ah (aO (aa 0 (pv 0)) (aa 1 (pv 1)))
 (ah (aO (aa 0 (pv 0)) (aa 2 (pv 2)))
 (ah (aO (aa 0 (pv 0)) ak)
 (ah (aO (aa 0 (pv 0)) (bY ag))
 (ah (aO (aa 0 (pv 0)) (bY ag))
 (ah (aO (aa 0 (pv 0)) (aP (pi rfl) rfl G.no_dict pj (ae (be rfl (bH (ix:=[none]) (N':=["group"]) (by kernel_rfl)) (aV (ap (aa 1 (pv 1)))) (fun C s0 H0 ex=>(aB (i:=0) (show List.Nodup (["group"]:List Str) by decide +kernel) rfl (Or.inl rfl))) (fun C s0 H0 ex=>(gz (au (hu9 hr) (aA (aa 0 (pv 0)) ak) ao))) (fun C s0 H0 ex=>(aI (ae (aA (aa 0 (pv 0)) ak) (ae ak ag))))) ag)))
 (ah (aO (aa 0 (pv 0)) (aP dH rfl G.no_list dN (ae (ap (aa 1 (pv 1))) ag)))
 (ai (aO (aa 0 (pv 0)) (bY ag)))))))))),?_⟩)
 ·obtain ⟨b,p,h,l,rfl,_⟩:=h
  rfl
 ·rintro ds M Q ⟨b,p,h,l,rfl,hb,⟨ph,gr,ws,on,pr,gd,i1,i2,i3,i4,i5,i6,i7⟩,ok,nbp,q⟩
  have hz:sizeLine=16777216:=sizeLine_eq
  have l2:=ok.g3
  refine aj hb ⟨(G.n_Board "plan" rfl),by show 0 < 1000; decide,?_⟩
  have k1:ck b M (am M b (.ins a.c_Board [("plan",.ref p)])):=.put
  have b1:am M b (.ins a.c_Board [("plan",.ref p)]) b=some (.ins a.c_Board [("plan",.ref p)]):=aL
  show dw _ _ _ _ (am M b (.ins a.c_Board [("plan",.ref p)]))
  generalize am M b (.ins a.c_Board [("plan",.ref p)])=N1 at k1 b1 ⊢
  refine aj b1 ⟨(G.n_Board "hour" rfl),by show 1 < 1000; decide,?_⟩
  have k2:=k1.trans (ck.put (p:=b) (c:=.ins a.c_Board [("plan",.ref p),("hour",.int h)]))
  have b2:am N1 b (.ins a.c_Board [("plan",.ref p),("hour",.int h)]) b=some (.ins a.c_Board [("plan",.ref p),("hour",.int h)]):=aL
  show dw _ _ _ _ (am N1 b (.ins a.c_Board [("plan",.ref p),("hour",.int h)]))
  generalize am N1 b (.ins a.c_Board [("plan",.ref p),("hour",.int h)])=N2 at k2 b2 ⊢
  refine aj b2 ⟨(G.n_Board "turn" rfl),by show 2 < 1000; decide,?_⟩
  have k3:=k2.trans (ck.put (p:=b) (c:=.ins a.c_Board [("plan",.ref p),("hour",.int h),("turn",.int 0)]))
  have b3:am N2 b (.ins a.c_Board [("plan",.ref p),("hour",.int h),("turn",.int 0)]) b=some (.ins a.c_Board [("plan",.ref p),("hour",.int h),("turn",.int 0)]):=aL
  show dw _ _ _ _ (am N2 b (.ins a.c_Board [("plan",.ref p),("hour",.int h),("turn",.int 0)]))
  generalize am N2 b (.ins a.c_Board [("plan",.ref p),("hour",.int h),("turn",.int 0)])=N3 at k3 b3 ⊢
  clear k1 k2 b1 b2
  refine ⟨few rfl,fun ca hca=>?_⟩
  obtain ⟨n4,e4,k4,c4,b4⟩:=cf (fs':=[("plan",.ref p),("hour",.int h),("turn",.int 0),("calls",.ref ca)]) (c:=.lst []) b3 hca
  refine aj e4 ⟨(G.n_Board "calls" rfl),by show 3 < 1000; decide,?_⟩
  show dw _ _ _ _ (am (am N3 ca (.lst [])) b (.ins a.c_Board [("plan",.ref p),("hour",.int h),("turn",.int 0),("calls",.ref ca)]))
  generalize am (am N3 ca (.lst [])) b (.ins a.c_Board [("plan",.ref p),("hour",.int h),("turn",.int 0),("calls",.ref ca)])=N4 at k4 c4 b4 ⊢
  have kk4:=k3.trans k4
  have z1:M ca=none:=bE k3 b3 hca
  have lc4:lstM N4 ca=some []:=cx c4
  refine ⟨few rfl,fun le hle=>?_⟩
  obtain ⟨n5,e5,k5,c5,b5⟩:=cf (fs':=[("plan",.ref p),("hour",.int h),("turn",.int 0),("calls",.ref ca),("legs",.ref le)]) (c:=.lst []) b4 hle
  refine aj e5 ⟨(G.n_Board "legs" rfl),by show 4 < 1000; decide,?_⟩
  show dw _ _ _ _ (am (am N4 le (.lst [])) b (.ins a.c_Board [("plan",.ref p),("hour",.int h),("turn",.int 0),("calls",.ref ca),("legs",.ref le)]))
  generalize am (am N4 le (.lst [])) b (.ins a.c_Board [("plan",.ref p),("hour",.int h),("turn",.int 0),("calls",.ref ca),("legs",.ref le)])=N5 at k5 c5 b5 ⊢
  have kk5:=kk4.trans k5
  have z2:M le=none:=bE kk4 b4 hle
  have le5:lstM N5 le=some []:=cx c5
  have mcl:le ≠ ca:=fun z=>by rw [z,aY lc4] at hle; cases hle
  have lc5:=k5.lst (aG lc4 b4) lc4
  have p5:=kk5 _ _ nbp i1
  have g5:=kk5.lst (aG i3 hb) i3
  clear k3 k4 k5 kk4 lc4 c4 c5 e4 e5 b3 b4
  refine aj p5 (af rfl (af g5 ?_))
  refine cX (f:=z7) (t:=vU) g5 _ [] _ (by rw [List.length_map]; simp only [List.length_nil]; omega) (fun d hd k hk=>?_) (fun d hd _ k hk=>?_) fun q1 hq1=>?_
  ·obtain ⟨v,_,rfl⟩:=List.mem_map.mp hd
   exact hk
  ·obtain ⟨v,_,rfl⟩:=List.mem_map.mp hd
   exact ⟨few rfl,hk⟩
  rw [List.nil_append,rC]
  have sq1:=L3.Sub.new (c:=.lst ((l.groups.filter fi).map fun g=>D.tup [.str g.1,.int 0])) hq1
  refine af av (af (fS (fun g:cU=>g.1) (fun _=>D.int 0) _) ⟨iO (List.Nodup.sublist (List.Sublist.map _ List.filter_sublist) (List.Nodup.sublist (List.sublist_append_right _ _) ok.nd)),fun nx hnx=>?_⟩)
  have z3:M nx=none:=bE kk5 b5 (sq1.none hnx)
  obtain ⟨n6,e6,k6,c6,b6⟩:=cf (fs':=[("plan",.ref p),("hour",.int h),("turn",.int 0),("calls",.ref ca),("legs",.ref le),("nexts",.ref nx)]) (c:=.dk ((l.groups.filter fi).map fun g=>((Sum.inr g.1:Key),D.int 0))) (sq1 _ _ b5) hnx
  refine aj e6 ⟨(G.n_Board "nexts" rfl),by show 5 < 1000; decide,?_⟩
  have k6:=sq1.keep.trans k6
  have eput:gv "nexts" (.ref nx) [("plan",.ref p),("hour",.int h),("turn",.int 0),("calls",.ref ca),("legs",.ref le)]=([("plan",.ref p),("hour",.int h),("turn",.int 0),("calls",.ref ca),("legs",.ref le),("nexts",.ref nx)]:List (Str × D)):=rfl
  rw [eput]
  generalize am (am (am N5 q1 (.lst ((l.groups.filter fi).map fun g=>D.tup [.str g.1,.int 0]))) nx (.dk ((l.groups.filter fi).map fun g=>((Sum.inr g.1:Key),D.int 0)))) b (.ins a.c_Board [("plan",.ref p),("hour",.int h),("turn",.int 0),("calls",.ref ca),("legs",.ref le),("nexts",.ref nx)])=N6 at k6 b6 c6 ⊢
  have x6:dkM N6 nx=some ((l.groups.filter fi).map fun g=>((Sum.inr g.1:Key),D.int 0)):=j9 c6
  have kk6:=kk5.trans k6
  have lc6:=k6.lst (aG lc5 b5) lc5
  have le6:=k6.lst (aG le5 b5) le5
  have p6:=kk6 _ _ nbp i1
  have o6:=kk6.lst (aG i5 hb) i5
  clear kk5 k6 lc5 p5 g5 e6 c6
  refine aj p6 (af rfl (af o6 fun on2 hon=>?_))
  have z4:M on2=none:=bE kk6 b6 hon
  obtain ⟨n7,e7,k7,c7,b7⟩:=cf (fs':=[("plan",.ref p),("hour",.int h),("turn",.int 0),("calls",.ref ca),("legs",.ref le),("nexts",.ref nx),("on",.ref on2)]) (c:=.lst []) b6 hon
  refine aj e7 ⟨(G.n_Board "on" rfl),by show 6 < 1000; decide,?_⟩
  have eput:gv "on" (.ref on2) [("plan",.ref p),("hour",.int h),("turn",.int 0),("calls",.ref ca),("legs",.ref le),("nexts",.ref nx)]=([("plan",.ref p),("hour",.int h),("turn",.int 0),("calls",.ref ca),("legs",.ref le),("nexts",.ref nx),("on",.ref on2)]:List (Str × D)):=rfl
  rw [eput]
  generalize am (am N6 on2 (.lst [])) b (.ins a.c_Board [("plan",.ref p),("hour",.int h),("turn",.int 0),("calls",.ref ca),("legs",.ref le),("nexts",.ref nx),("on",.ref on2)])=N7 at k7 b7 c7 ⊢
  have kk7:=kk6.trans k7
  have lc7:=k7.lst (aG lc6 b6) lc6
  have le7:=k7.lst (aG le6 b6) le6
  have x7:=k7.dk (oz x6 b6) x6
  have lo7:lstM N7 on2=some []:=cx c7
  refine ⟨few rfl,fun lg hlg=>?_⟩
  obtain ⟨n8,e8,k8,c8,b8⟩:=cf (fs':=fk (.ref p) h 0 ca le nx on2 lg) (c:=.lst []) b7 hlg
  refine aj e8 ⟨(G.n_Board "log" rfl),by show 7 < 1000; decide,_,.refl,?_⟩
  have apart:∀ {N:Mp} {x y:Addr} {ds:List D},N x=none→lstM N y=some ds→x ≠ y:=fun {N x y ds} h1 h2 z=>by
   have:=aY h2
   rw [← z,h1] at this
   cases this
  have y5:=bE kk7 b7 hlg
  refine q _ ⟨b,ca,le,nx,on2,lg,[]⟩ rfl (kk7.trans k8) (fun x hx=>?_) ⟨b8,k8.lst (aG lc7 b7) lc7,k8.lst (aG le7 b7) le7,?_,k8.lst (aG lo7 b7) lo7,cx c8,rfl,fun i k c e=>by simp at e,?_,List.nodup_cons.mpr ⟨List.not_mem_nil,List.nodup_nil⟩⟩
  ·have hx:x∈[b,nx,ca,le,on2,lg]:=by
    unfold BdA.foot BdA.lists at hx
    simpa using hx
   simp only [List.mem_cons,List.not_mem_nil,or_false] at hx
   rcases hx with rfl | rfl | rfl | rfl | rfl | rfl
   ·exact .inl rfl
   ·exact .inr z3
   ·exact .inr z1
   ·exact .inr z2
   ·exact .inr z4
   ·exact .inr y5
  ·show dkM _ nx=some (bA (eQ l))
   rw [← ut]
   exact k8.dk (oz x7 b7) x7
  ·have m1:=apart hlg lc7
   have m2:=apart hlg le7
   have m3:=apart hlg lo7
   have m4:=apart hon lc6
   have m5:=apart hon le6
   show [ca,le,on2,lg].Nodup
   simp only [List.nodup_cons,List.mem_cons,List.not_mem_nil,or_false,not_or,not_false_eq_true,List.nodup_nil,and_true]
   exact ⟨⟨Ne.symm mcl,Ne.symm m4,Ne.symm m1⟩,⟨Ne.symm m5,Ne.symm m2⟩,Ne.symm m3⟩
end
end Z
namespace Z
open PySem PySem.Spec PyProof.Rows L2 L3
def yD:List Int:=[1,1,2,2,3]
def zH:List Int:=[0,1,1,2,5,9]
def sH:List Str:=["all","turns"]
def kQ (t:List Int) (i:Int):Int:=t.getD i.toNat 0
def fu (s:Int) (i:Nat):bZ:=(gS s (0 + (i:Nat)),kQ yD (cD (s + 17 * (0 + (i:Nat)) * (0 + (i:Nat))) 16807 5),kQ zH (cD (s + 17 * (0 + (i:Nat)) * (0 + (i:Nat))) 39373 6))
def dq (s m:Int):Nat:=(2 + cD s 48271 (m - 1)).toNat
def dJ (s m:Int):List bZ:=(List.range (dq s m)).map (fu s)
theorem qK {ts:List Int} {i:Int} (h0:0≤i) (h1:i < ts.length):atI (ts.map D.int) i=some (D.int (kQ ts i)):=by
 obtain ⟨n,rfl⟩:=Int.eq_ofNat_of_zero_le h0
 have hn':n < ts.length:=by omega
 refine hU ?_
 rw [List.getElem?_map,List.getElem?_eq_getElem hn']
 simp [kQ,hn']
theorem qu {n:Nat} {pre post:List D} {d:D} (e:pre ++ d :: post=(List.range n).map fun i=>D.int (0 + (i:Nat))):d=.int (0 + (pre.length:Nat))∧pre.length < n:=by
 have h:((List.range n).map fun i=>D.int (0 + (i:Nat)))[pre.length]?=some d:=by rw [← e]; simp
 have hl:pre.length < n:=by
  have:=(List.getElem?_eq_some_iff.mp h).1
  simpa using this
 rw [List.getElem?_map,List.getElem?_range hl] at h
 exact ⟨(Option.some.inj h).symm,hl⟩
theorem qt {α β:Type} (f:Nat→α) (g:α→β) (n:Nat):((List.range n).map f).map g ++ [g (f n)]=((List.range (n + 1)).map f).map g:=by
 rw [List.range_succ,List.map_append,List.map_append]
 rfl
def rR:Sp3:=fun ds M Q=>∃ s m,ds=[.int s,.int m]∧2≤m∧m≤100∧∀ q,M q=none→Q (.ref q) (am M q (.lst ((dJ s m).map bb)))
theorem rA {s m:Int} (h2:2≤m) (h:m≤100):dq s m≤100∧2≤dq s m:=by
 have d0:=cg (c:=s) (f:=48271) (m:=m - 1) (by omega)
 have d1:=bS (c:=s) (f:=48271) (m:=m - 1) (by omega)
 unfold dq
 omega
section
variable {P:Program} {w:World} {K:PySem.W.Frag} {mg:Str→Option Value} {base:Heap} {a:Ad}
theorem sV (G:Gl K mg a):Fq P w K mg base 2 a.law_phones rR:=by
 have C_law_draw:=kU (P:=P) (w:=w) (base:=base) G
 have C_law_word:=tq (P:=P) (w:=w) (base:=base) G
 refine aX G.law_phones.toDG dL (fun ds M Q h=>?_) (fun cdv A outer s H E hr=>⟨_,(ah (aE (i:=2) dL.nd rfl (Or.inl rfl) (bY ag))
 (ah (cZ PassesOwn.never rfl (jS rfl G.no_range (ae (aS ak (ax C_law_draw hr G.law_draw (ae (aa 0 (pv 0)) (ae ak (ae (aS (aa 1 (pv 1)) ak) ag))))) ag)) (aB (i:=3) dL.nd rfl (Or.inl rfl))
 (ah (aE (i:=4) dL.nd rfl (Or.inl rfl) (aA (aI (ae ak (ae ak (ae ak (ae ak (ae ak ag)))))) (ax C_law_draw hr G.law_draw (ae (aS (aa 0 (pv 0)) (aS (aS ak (aa 3 (pv 3))) (aa 3 (pv 3)))) (ae ak (ae ak ag))))))
 (ai (aC (bM (aa 2 (pv 2)) (ae (aI (ae (ax C_law_word hr G.law_word (ae (aa 0 (pv 0)) (ae (aa 3 (pv 3)) ag))) (ae (aa 4 (pv 4)) (ae (aA (aI (ae ak (ae ak (ae ak (ae ak (ae ak (ae ak ag))))))) (ax C_law_draw hr G.law_draw (ae (aS (aa 0 (pv 0)) (aS (aS ak (aa 3 (pv 3))) (aa 3 (pv 3)))) (ae ak (ae ak ag))))) ag)))) ag))))))
 (ai (aw (aa 2 (pv 2)))))),?_⟩)
 ·obtain ⟨s,m,rfl,_⟩:=h
  rfl
 ·rintro ds M Q ⟨s,m,rfl,h2,h100,q⟩
  have hz:sizeLine=16777216:=sizeLine_eq
  have d0:=cg (c:=s) (f:=48271) (m:=m - 1) (by omega)
  have d1:=bS (c:=s) (f:=48271) (m:=m - 1) (by omega)
  have nl:=(rA (s:=s) h2 h100).1
  refine ⟨few rfl,fun r hr=>⟨s,_,_,rfl,by show 0 < m - 1; omega,rfl,⟨?_,?_⟩,?_⟩⟩
  ·show -(2 ^ 62)≤2 + cD s 48271 (m - 1)
   omega
  ·show 2 + cD s 48271 (m - 1) < 2 ^ 62
   omega
  refine dW ((List.range (dq s m)).map fun i=>D.int (0 + (i:Nat))) (fun pre δ M'=>M'=am M r (.lst (((List.range pre.length).map (fu s)).map bb))∧∃ x y,δ=[some (.int s),some (.int m),some (.ref r),x,y]) (fun _ _ _ _=>trivial) _ [] _ _ rfl ⟨rfl,none,none,rfl⟩ ?_ ?_
  ·rintro pre d post e δ M' ⟨rfl,x,y,rfl⟩ nx hnx
   obtain ⟨rfl,hlt⟩:=qu e
   generalize hi:pre.length=i at hlt hnx ⊢
   have cm:mR (17 * (0 + (i:Int))) (0 + (i:Int)):=.inr ⟨by omega,by omega⟩
   have c17:mR 17 (0 + (i:Int)):=.inl ⟨by decide,by decide⟩
   have t5:atI [D.int 1,.int 1,.int 2,.int 2,.int 3] (cD (s + 17 * (0 + (i:Int)) * (0 + (i:Int))) 16807 5)=some (.int (fu s i).2.1):=qK (ts:=yD) (cg (by decide)) (bS (by decide))
   have t6:atI [D.int 0,.int 1,.int 1,.int 2,.int 5,.int 9] (cD (s + 17 * (0 + (i:Int)) * (0 + (i:Int))) 39373 6)=some (.int (fu s i).2.2):=qK (ts:=zH) (cg (by decide)) (bS (by decide))
   refine ⟨few rfl,c17,cm,_,_,_,rfl,by decide,af t5 ?_⟩
   refine ⟨by show (lstM _ r).isSome=true; rw [av]; rfl,s,_,rfl,few rfl,c17,cm,_,_,_,rfl,by decide,af t6 ⟨few rfl,af av ⟨?_,?_⟩⟩⟩
   ·rw [List.length_map,List.length_map,List.length_range]
    omega
   ·refine hnx _ _ ⟨?_,_,_,rfl⟩
    rw [g8,List.length_append,hi]
    show am M r (.lst (_ ++ [bb (fu s i)]))=_
    rw [qt]
    rfl
  ·rintro δ M' ⟨rfl,x,y,rfl⟩
   refine ⟨_,.refl,?_⟩
   rw [List.length_map,List.length_range]
   exact q r hr
end
theorem mx (x:Array Nat):∀ (n:Nat) (acc:Array Nat),((List.replicate n x).foldl (· ++ ·) acc).toList=acc.toList ++ (List.replicate n x.toList).flatten
 | 0,acc=>by simp
 | n + 1,acc=>by
  rw [List.replicate_succ,List.foldl_cons,mx x n (acc ++ x),List.replicate_succ,List.flatten_cons,Array.toList_append,List.append_assoc]
theorem qH (c:Nat):∀ n:Nat,(List.replicate n [c]).flatten=List.replicate n c
 | 0=>rfl
 | n + 1=>by rw [List.replicate_succ,List.flatten_cons,qH c n,List.replicate_succ]; rfl
theorem n9 (i n:Int):(iK (cT i) n).cps.toList=List.replicate n.toNat (97 + i.toNat):=by
 show ((List.replicate n.toNat (cT i).cps).foldl (· ++ ·) #[]:Array Nat).toList=_
 rw [mx]
 show [] ++ (List.replicate n.toNat [97 + i.toNat]).flatten=_
 rw [List.nil_append,qH]
theorem hJ (s v:Int):(gS s v).cps.toList=List.replicate (du s).toNat (97 + (s / 36 % 26).toNat) ++ (97 + ((s / 936 + v) % 26).toNat) :: List.replicate (size s - 1 - du s).toNat (97 + (s / 36 % 26).toNat):=by
 show ((iK (cT (s / 36 % 26)) (du s)).cps ++ (cT ((s / 936 + v) % 26)).cps ++ (iK (cT (s / 36 % 26)) (size s - 1 - du s)).cps).toList=_
 rw [Array.toList_append,Array.toList_append,n9,n9]
 show _ ++ [97 + ((s / 936 + v) % 26).toNat] ++ _=_
 rw [List.append_assoc]
 rfl
theorem l6 (s v:Int):1≤(gS s v).length∧(gS s v).length≤6:=by
 have e:(gS s v).length=(gS s v).cps.toList.length:=by simp [Str.length]
 rw [e,hJ,List.length_append,List.length_cons,List.length_replicate,List.length_replicate]
 have h1:=q9 s
 have h2:=ug s
 have h3:0≤du s:=Int.emod_nonneg _ (by omega)
 have h4:du s < size s:=Int.emod_lt_of_pos _ h1
 omega
theorem xA {i:Int} (h0:0≤i) (h1:i < 26):nB ⟨#[97 + i.toNat]⟩ df=true:=by
 obtain ⟨n,rfl⟩:=Int.eq_ofNat_of_zero_le h0
 have hn:n < 26:=by omega
 have key:∀ n:_root_.Fin 26,nB ⟨#[97 + n.val]⟩ df=true:=by decide +kernel
 exact key ⟨n,hn⟩
theorem oo (s v:Int):dn (gS s v)=true:=by
 obtain ⟨h1,h2⟩:=l6 s v
 unfold dn
 rw [decide_eq_true (show (1:Int)≤(gS s v).length by omega),decide_eq_true (show ((gS s v).length:Int)≤6 by omega),Bool.true_and,Bool.true_and,List.all_eq_true]
 intro c hc
 rw [hJ] at hc
 have k1:=xA (Int.emod_nonneg (s / 36) (show (26:Int) ≠ 0 by decide)) (Int.emod_lt_of_pos (s / 36) (by decide))
 have k2:=xA (Int.emod_nonneg (s / 936 + v) (show (26:Int) ≠ 0 by decide)) (Int.emod_lt_of_pos (s / 936 + v) (by decide))
 rcases List.mem_append.mp hc with z | z
 ·rw [List.eq_of_mem_replicate z]; exact k1
 ·rcases List.mem_cons.mp z with z | z
  ·rw [z]; exact k2
  ·rw [List.eq_of_mem_replicate z]; exact k1
theorem lP {s u v:Int} (hu:0≤u) (hu':u < 26) (hv:0≤v) (hv':v < 26) (e:gS s u=gS s v):u=v:=by
 have e':(gS s u).cps.toList=(gS s v).cps.toList:=by rw [e]
 rw [hJ,hJ] at e'
 have:=(List.append_cancel_left e')
 have:=(List.cons.inj this).1
 have a1:=Int.emod_nonneg (s / 936 + u) (show (26:Int) ≠ 0 by decide)
 have a2:=Int.emod_nonneg (s / 936 + v) (show (26:Int) ≠ 0 by decide)
 have h:(s / 936 + u) % 26=(s / 936 + v) % 26:=by omega
 omega
theorem AN {ss:List Str} {x:Str} (h:x∈ss):Df ss x:=List.any_eq_true.mpr ⟨x,h,by simp⟩
theorem k9 {row:List Str} {i:Int} (h0:0≤i) (h1:i < row.length):at0 row i∈row:=by
 obtain ⟨n,rfl⟩:=Int.eq_ofNat_of_zero_le h0
 have hn:n < row.length:=by omega
 have:at0 row (n:Int)=row[n]:=by simp [at0,hn]
 rw [this]
 exact List.getElem_mem hn
theorem zN {row:List Str} {i j:Int} (nd:row.Nodup) (h0:0≤i) (h1:i < row.length) (g0:0≤j) (g1:j < row.length) (e:at0 row i=at0 row j):i=j:=by
 obtain ⟨n,rfl⟩:=Int.eq_ofNat_of_zero_le h0
 obtain ⟨k,rfl⟩:=Int.eq_ofNat_of_zero_le g0
 have hn:n < row.length:=by omega
 have hk:k < row.length:=by omega
 have e1:at0 row (n:Int)=row[n]:=by simp [at0,hn]
 have e2:at0 row (k:Int)=row[k]:=by simp [at0,hk]
 rw [e1,e2] at e
 have pw:=List.pairwise_iff_getElem.mp nd
 rcases Nat.lt_trichotomy n k with z | z | z
 ·exact absurd e (pw n k hn hk z)
 ·rw [z]
 ·exact absurd e.symm (pw k n hk hn z)
theorem jY {α:Type} (f:Nat→α) (n:Nat) (h:∀ i j,i < n→j < n→f i=f j→i=j):((List.range n).map f).Nodup:=by
 refine List.pairwise_iff_getElem.mpr fun i j hi hj hlt e=>?_
 rw [List.length_map,List.length_range] at hi hj
 rw [List.getElem_map,List.getElem_map,List.getElem_range,List.getElem_range] at e
 have:=h i j hi hj e
 omega
theorem jd {row:List Str} {c m:Int} (hr:row ≠ []) (hm:0 < m):1≤fg row c m∧(fg row c m:Int)≤m∧fg row c m≤row.length:=by
 have hl:0 < row.length:=List.length_pos_iff.mpr hr
 have d0:=cg (c:=c) (f:=40692) (m:=if (row.length:Int) < m then (row.length:Int) else m) (by split <;> omega)
 have d1:=bS (c:=c) (f:=40692) (m:=if (row.length:Int) < m then (row.length:Int) else m) (by split <;> omega)
 unfold fg
 by_cases h:(row.length:Int) < m
 ·rw [if_pos h] at d0 d1 ⊢
  omega
 ·rw [if_neg h] at d0 d1 ⊢
  omega
theorem jf {row:List Str} {c:Int} (hr:row ≠ []) (j:Nat):0≤(cD c 69621 row.length + (0 + (j:Nat))) % (row.length:Int)∧(cD c 69621 row.length + (0 + (j:Nat))) % (row.length:Int) < row.length:=by
 have hl:0 < row.length:=List.length_pos_iff.mpr hr
 exact ⟨Int.emod_nonneg _ (by omega),Int.emod_lt_of_pos _ (by omega)⟩
theorem zT {d n i j:Int} (hn:0 < n) (hi:0≤i) (hi':i < n) (hj:0≤j) (hj':j < n) (e:(d + i) % n=(d + j) % n):i=j:=by
 have h1:=Int.emod_add_mul_ediv (d + i) n
 have h2:=Int.emod_add_mul_ediv (d + j) n
 generalize (d + i) / n=a at h1
 generalize (d + j) / n=b at h2
 have h3:i - j=n * (a - b):=by rw [Int.mul_sub]; omega
 rcases Int.lt_trichotomy (a - b) 0 with z | z | z
 ·have:n * (a - b)≤n * (-1):=Int.mul_le_mul_of_nonneg_left (by omega) (by omega)
  omega
 ·rw [z] at h3; omega
 ·have:n * 1≤n * (a - b):=Int.mul_le_mul_of_nonneg_left (by omega) (by omega)
  omega
theorem rW {row:List Str} {c m:Int} (nd:row.Nodup) (hr:row ≠ []) (hm:0 < m):(dZ row c m).Nodup:=by
 have hl:0 < row.length:=List.length_pos_iff.mpr hr
 obtain ⟨_,_,l3⟩:=jd (c:=c) hr hm
 refine jY _ _ fun i j hi hj e=>?_
 obtain ⟨a0,a1⟩:=jf (c:=c) hr i
 obtain ⟨b0,b1⟩:=jf (c:=c) hr j
 have e':=zN nd a0 a1 b0 b1 e
 have:=zT (d:=cD c 69621 row.length) (n:=row.length) (i:=0 + (i:Nat)) (j:=0 + (j:Nat)) (by omega) (by omega) (by omega) (by omega) (by omega) e'
 omega
theorem re {row:List Str} {c m k:Int} (nd:row.Nodup) (hr:row ≠ []) (hm:0 < m) (hk:m≤k):dF (dZ row c m) row k=true:=by
 obtain ⟨l1,l2,l3⟩:=jd (c:=c) hr hm
 have el:(dZ row c m).length=fg row c m:=by unfold dZ; rw [List.length_map,List.length_range]
 unfold dF
 rw [el,decide_eq_true (show (1:Int)≤fg row c m by omega),decide_eq_true (show (fg row c m:Int)≤k by omega),ow (rW nd hr hm),Bool.true_and,Bool.true_and,Bool.true_and,List.all_eq_true]
 intro x hx
 unfold dZ at hx
 obtain ⟨j,_,rfl⟩:=List.mem_map.mp hx
 obtain ⟨a0,a1⟩:=jf (c:=c) hr j
 exact AN (k9 a0 a1)
theorem wZ {row:List Str} {c m:Int} (hr:row ≠ []) (hm:0 < m) (h:m≤100):(dZ row c m).length < 4000:=by
 obtain ⟨l1,l2,l3⟩:=jd (c:=c) hr hm
 have el:(dZ row c m).length=fg row c m:=by unfold dZ; rw [List.length_map,List.length_range]
 omega
theorem xN (s:Int) (i:Nat):pL (fu s i):=by
 have t0:=cg (c:=s + 17 * (0 + (i:Nat)) * (0 + (i:Nat))) (f:=16807) (m:=5) (by decide)
 have t1:=bS (c:=s + 17 * (0 + (i:Nat)) * (0 + (i:Nat))) (f:=16807) (m:=5) (by decide)
 have u0:=cg (c:=s + 17 * (0 + (i:Nat)) * (0 + (i:Nat))) (f:=39373) (m:=6) (by decide)
 have u1:=bS (c:=s + 17 * (0 + (i:Nat)) * (0 + (i:Nat))) (f:=39373) (m:=6) (by decide)
 have a:1≤(fu s i).2.1∧(fu s i).2.1≤3:=by
  show 1≤kQ yD (cD (s + 17 * (0 + (i:Nat)) * (0 + (i:Nat))) 16807 5)∧kQ yD (cD (s + 17 * (0 + (i:Nat)) * (0 + (i:Nat))) 16807 5)≤3
  generalize cD (s + 17 * (0 + (i:Nat)) * (0 + (i:Nat))) 16807 5=d at t0 t1
  have:d=0∨d=1∨d=2∨d=3∨d=4:=by omega
  rcases this with z | z | z | z | z <;> (subst z; decide)
 have b:0≤(fu s i).2.2∧(fu s i).2.2≤9:=by
  show 0≤kQ zH (cD (s + 17 * (0 + (i:Nat)) * (0 + (i:Nat))) 39373 6)∧kQ zH (cD (s + 17 * (0 + (i:Nat)) * (0 + (i:Nat))) 39373 6)≤9
  generalize cD (s + 17 * (0 + (i:Nat)) * (0 + (i:Nat))) 39373 6=d at u0 u1
  have:d=0∨d=1∨d=2∨d=3∨d=4∨d=5:=by omega
  rcases this with z | z | z | z | z | z <;> (subst z; decide)
 exact ⟨Nat.le_trans (l6 s (0 + (i:Nat))).2 (by decide),oo _ _,a.1,a.2,b.1,b.2⟩
theorem wG (s m:Int):(dJ s m).map (·.1)=(List.range (dq s m)).map fun i=>gS s (0 + (i:Nat)):=by
 unfold dJ
 rw [List.map_map]
 rfl
def lT (s:Int) (own:List Str) (i:Nat):cU:=(gS s (8 + (0 + (i:Nat))),at0 sH (cD (s + 5 * (0 + (i:Nat))) 742938285 2),dZ own (s + 11 * (0 + (i:Nat))) 4)
def jv (s:Int):Nat:=(cD s 69621 3).toNat
def oX (s:Int) (own:List Str):List cU:=(List.range (jv s)).map (lT s own)
def so:Sp3:=fun ds M Q=>∃ s o own,ds=[.int s,.ref o]∧lstM M o=some (own.map D.str)∧own ≠ []∧own.length≤64∧∀ q,M q=none→Q (.ref q) (am M q (.lst ((oX s own).map bp)))
theorem my {s:Int}:jv s≤3:=by
 have d0:=cg (c:=s) (f:=69621) (m:=3) (by decide)
 have d1:=bS (c:=s) (f:=69621) (m:=3) (by decide)
 unfold jv
 omega
section
variable {P:Program} {w:World} {K:PySem.W.Frag} {mg:Str→Option Value} {base:Heap} {a:Ad}
theorem r0 (G:Gl K mg a):Fq P w K mg base 3 a.law_groups so:=by
 have C_law_draw:=kU (P:=P) (w:=w) (base:=base) G
 have C_law_word:=tq (P:=P) (w:=w) (base:=base) G
 have C_law_some:=kY (P:=P) (w:=w) (base:=base) G
 refine aX G.law_groups.toDG dG (fun ds M Q h=>?_) (fun cdv A outer s H E hr=>⟨_,(ah (aE (i:=2) dG.nd rfl (Or.inl rfl) (bY ag))
 (ah (cZ PassesOwn.never rfl (jS rfl G.no_range (ae (ax C_law_draw hr G.law_draw (ae (aa 0 (pv 0)) (ae ak (ae ak ag)))) ag)) (aB (i:=3) dG.nd rfl (Or.inl rfl))
 (ah (aE (i:=4) dG.nd rfl (Or.inl rfl) (aA (aI (ae ao (ae ao ag))) (ax C_law_draw hr G.law_draw (ae (aS (aa 0 (pv 0)) (aS ak (aa 3 (pv 3)))) (ae ak (ae ak ag))))))
 (ai (aC (bM (aa 2 (pv 2)) (ae (aI (ae (ax C_law_word hr G.law_word (ae (aa 0 (pv 0)) (ae (aS ak (aa 3 (pv 3))) ag))) (ae (aa 4 (pv 4)) (ae (ax C_law_some hr G.law_some (ae (aa 1 (pv 1)) (ae (aS (aa 0 (pv 0)) (aS ak (aa 3 (pv 3)))) (ae ak ag)))) ag)))) ag))))))
 (ai (aw (aa 2 (pv 2)))))),?_⟩)
 ·obtain ⟨s,o,own,rfl,_⟩:=h
  rfl
 ·rintro ds M Q ⟨s,o,own,rfl,ho,hne,h64,q⟩
  have hz:sizeLine=16777216:=sizeLine_eq
  have d0:=cg (c:=s) (f:=69621) (m:=3) (by decide)
  have d1:=bS (c:=s) (f:=69621) (m:=3) (by decide)
  have nl:=my (s:=s)
  refine ⟨few rfl,fun r hr=>⟨s,_,_,rfl,by decide,rfl,⟨?_,?_⟩,?_⟩⟩
  ·show -(2 ^ 62)≤cD s 69621 3
   omega
  ·show cD s 69621 3 < 2 ^ 62
   omega
  have nor:o ≠ r:=fun z=>by rw [z] at ho; unfold lstM at ho; rw [hr] at ho; cases ho
  refine dW ((List.range (jv s)).map fun i=>D.int (0 + (i:Nat))) (fun pre δ M'=>M'=am M r (.lst (((List.range pre.length).map (lT s own)).map bp))∧∃ x y,δ=[some (.int s),some (.ref o),some (.ref r),x,y]) (fun _ _ _ _=>trivial) _ [] _ _ rfl ⟨rfl,none,none,rfl⟩ ?_ ?_
  ·rintro pre d post e δ M' ⟨rfl,x,y,rfl⟩ nx hnx
   obtain ⟨rfl,hlt⟩:=qu e
   generalize hi:pre.length=i at hlt hnx ⊢
   have c5:mR 5 (0 + (i:Int)):=.inl ⟨by decide,by decide⟩
   have c11:mR 11 (0 + (i:Int)):=.inl ⟨by decide,by decide⟩
   have tm:atI [D.str "all",.str "turns"] (cD (s + 5 * (0 + (i:Int))) 742938285 2)=some (.str (lT s own i).2.1):=vY (row:=sH) (cg (by decide)) (bS (by decide))
   have ho':lstM (am M r (.lst (((List.range i).map (lT s own)).map bp))) o=some (own.map D.str):=by
    unfold lstM
    rw [cR nor]
    exact ho
   refine ⟨few rfl,c5,_,_,_,rfl,by decide,af tm ?_⟩
   refine ⟨by show (lstM _ r).isSome=true; rw [av]; rfl,s,_,rfl,c11,o,_,_,own,rfl,ho',hne,by decide,h64,few rfl,af av ⟨?_,?_⟩⟩
   ·rw [List.length_map,List.length_map,List.length_range]
    omega
   ·refine hnx _ _ ⟨?_,_,_,rfl⟩
    rw [g8,List.length_append,hi]
    show am M r (.lst (_ ++ [bp (lT s own i)]))=_
    rw [qt]
    rfl
  ·rintro δ M' ⟨rfl,x,y,rfl⟩
   refine ⟨_,.refl,?_⟩
   rw [List.length_map,List.length_range]
   exact q r hr
end
def dU (s:Int):List Str:=(dJ s 6).map (·.1)
def dI (s:Int):List cU:=oX s (dU s)
def cP (s:Int):aD:=⟨dJ s 6,dI s⟩
theorem jQ (s:Int):(dU s).Nodup∧2≤(dU s).length∧(dU s).length≤6:=by
 have d1:=bS (c:=s) (f:=48271) (m:=6 - 1) (by decide)
 have d0:=cg (c:=s) (f:=48271) (m:=6 - 1) (by decide)
 have p8:dq s 6≤6∧2≤dq s 6:=by unfold dq; omega
 have e:=wG s 6
 unfold dU
 rw [e]
 refine ⟨jY _ _ fun i j hi hj e=>?_,?_,?_⟩
 ·have:=lP (by omega) (by omega) (by omega) (by omega) e
  omega
 ·rw [List.length_map,List.length_range]; omega
 ·rw [List.length_map,List.length_range]; omega
theorem vR (s:Int):∀ g∈dI s,oE (dU s) g∧g.2.2 ≠ []∧g.2.2.length≤4∧∀ x∈g.2.2,x∈dU s:=by
 obtain ⟨nd,o2,o8⟩:=jQ s
 have ne:dU s ≠ []:=fun z=>by rw [z] at o2; cases o2
 intro g hg
 obtain ⟨i,_,rfl⟩:=List.mem_map.mp hg
 have tm:at0 sH (cD (s + 5 * (0 + (i:Nat))) 742938285 2)∈sH:=k9 (cg (by decide)) (bS (by decide))
 have tm:at0 sH (cD (s + 5 * (0 + (i:Nat))) 742938285 2)="all"∨at0 sH (cD (s + 5 * (0 + (i:Nat))) 742938285 2)="turns":=by
  unfold sH at tm ⊢
  simpa using tm
 have sl:=jd (row:=dU s) (c:=s + 11 * (0 + (i:Nat))) (m:=4) ne (by decide)
 have lw:(dZ (dU s) (s + 11 * (0 + (i:Nat))) 4).length=fg (dU s) (s + 11 * (0 + (i:Nat))) 4:=by unfold dZ; rw [List.length_map,List.length_range]
 refine ⟨⟨Nat.le_trans (l6 s _).2 (by decide),oo _ _,tm,wZ ne (by decide) (by decide),re nd ne (by decide) (by decide)⟩,fun z=>?_,by show (dZ (dU s) (s + 11 * (0 + (i:Nat))) 4).length≤4; omega,fun x hx=>?_⟩
 ·have z:dZ (dU s) (s + 11 * (0 + (i:Nat))) 4=[]:=z
  rw [z] at lw
  have:0=fg (dU s) (s + 11 * (0 + (i:Nat))) 4:=lw
  omega
 ·obtain ⟨j,_,rfl⟩:=List.mem_map.mp hx
  obtain ⟨i0,i1⟩:=jf (c:=s + 11 * (0 + (i:Nat))) ne j
  exact k9 i0 i1
theorem sr (s:Int):(dI s).map (·.1)=(List.range (jv s)).map fun i=>gS s (8 + (0 + (i:Nat))):=by
 unfold dI oX
 rw [List.map_map]
 rfl
theorem wg (s:Int):mL (cP s):=by
 obtain ⟨nd,o2,o8⟩:=jQ s
 have ol:(dU s).length=(dJ s 6).length:=by unfold dU; rw [List.length_map]
 have gn:=my (s:=s)
 have g3:(dI s).length≤3:=by
  have:=congrArg List.length (sr s)
  rw [List.length_map,List.length_map,List.length_range] at this
  rw [this]
  exact gn
 refine ⟨by show 1≤(dJ s 6).length; omega,by show (dJ s 6).length≤8; omega,fun p hp=>?_,g3,fun g hg=>(vR s g hg).1,?_⟩
 ·obtain ⟨i,_,rfl⟩:=List.mem_map.mp hp
  exact xN _ i
 ·show (dU s ++ (dI s).map (·.1)).Nodup
  have d1:=bS (c:=s) (f:=48271) (m:=6 - 1) (by decide)
  have p8:dq s 6≤6:=by unfold dq; omega
  rw [List.nodup_append]
  refine ⟨nd,?_,fun x hx y hy e=>?_⟩
  ·rw [sr]
   refine jY _ _ fun i j hi hj e=>?_
   have:=lP (by omega) (by omega) (by omega) (by omega) e
   omega
  ·rw [sr] at hy
   unfold dU at hx
   rw [wG] at hx
   obtain ⟨i,hi,rfl⟩:=List.mem_map.mp hx
   obtain ⟨j,hj,rfl⟩:=List.mem_map.mp hy
   have hi:=List.mem_range.mp hi
   have hj:=List.mem_range.mp hj
   have:=lP (by omega) (by omega) (by omega) (by omega) e
   omega
end Z
namespace Z
open PySem PySem.Spec PyProof.Rows L2 L3
structure St (a:Ad) (M0 M:Mp) (b:Addr) (A:BdA) (V:BdV) (l:aD) (n:Nat) (ps:List (Str × Int)):Prop where
 cu:Cur a M0 M b A V l n
 wf:WF l V
 ps:V.ps=ps
structure fZ (l:aD):Prop where
 gr:∀ z∈l.pn,l.group z=none
 p:l.phones.length≤100
 g:l.groups.length≤100
section
variable {a:Ad} {M0 M M':Mp} {b:Addr} {A A':BdA} {V V':BdV} {l:aD} {n:Nat} {ps:List (Str × Int)}
theorem St.sub (h:St a M0 M b A V l n ps) (s:L3.Sub M M'):St a M0 M' b A V l n ps:=⟨h.cu.sub s,h.wf,h.ps⟩
theorem St.mono (h:St a M0 M b A V l n ps) {m:Nat} (hm:n≤m):St a M0 M b A V l m ps:=⟨h.cu.mono hm,h.wf,h.ps⟩
theorem pX (g:fZ l) {z:Str} (hz:z∈l.pn):l.phonesOf z=[z]∧l.manner z="one":=by
 unfold aD.phonesOf aD.manner
 rw [g.gr z hz]
 exact ⟨rfl,rfl⟩
theorem uV (g:fZ l) {y z:Str} (hz:z∈l.pn):qm l V (.tup [.str "call",.str y,.str z]):=by
 obtain ⟨e1,e2⟩:=pX g hz
 refine .inl ⟨y,z,0,rfl,⟨fun x hx=>?_,by rw [e1]; show 1≤100; decide⟩,fun h=>?_,by rw [e2]; decide⟩
 ·rw [e1,List.mem_singleton] at hx
  subst hx
  exact bR hz
 ·rw [e2] at h
  exact absurd h (by decide)
theorem St.done (h:St a M0 M b A V l n ps) (g:fZ l) {e:D} {m:Nat} (c1:Cur a M0 M' b A' V' l m) (e1:V'.ps=V.ps) (d:rm l V e V'.calls) (hz:∀ y z,e=.tup [.str "call",.str y,.str z]→z∈l.pn):St a M0 M' b A' V' l m ps:=⟨c1,yC h.wf (fun z x hx hz=>by
 rw [(pX g hz).1,List.mem_singleton] at hx
 exact hx ▸ hz) d rfl hz,e1.trans h.ps⟩
end
def Fin (a:Ad) (M0 M:Mp) (b:Addr) (A:BdA) (l:aD) (m:Nat) (ps:List (Str × Int)) (Q:Mp→Prop):Prop:=∀ M' A' V',St a M0 M' b A' V' l m ps→bL A M A' M'→Q M'
def qT (a:Ad):Sp3:=fun ds M Q=>∃ M0 b A V l n ps x y,ds=[.ref b,.str x,.str y]∧St a M0 M b A V l n ps∧n≤4900∧fZ l∧y∈l.pn∧Fin a M0 M b A l (n + 10) ps (Q .non)
def xf (a:Ad):Sp3:=fun ds M Q=>∃ M0 b A V l n ps c r own,ds=[.ref b,.int c,.ref r]∧St a M0 M b A V l n ps∧n≤4500∧fZ l∧lstM M0 r=some (List.map D.str own)∧(∀ x∈own,x∈l.pn)∧own ≠ []∧own.length≤100∧Fin a M0 M b A l (n + 35) ps (Q .non)
section
variable {P:Program} {w:World} {K:PySem.W.Frag} {mg:Str→Option Value} {base:Heap} {a:Ad}
theorem gG {M0 M:Mp} {b:Addr} {A:BdA} {V:BdV} {l:aD} {n:Nat} {ps:List (Str × Int)} {e:D} {Q:DK} (h:St a M0 M b A V l n ps) (hn:n≤5000) (g:fZ l) (hf:qm l V e) (hz:∀ y z,e=.tup [.str "call",.str y,.str z]→z∈l.pn) (q:∀ bl,Fin a M0 M b A l (n + 5) ps (Q (.bl bl))):tZ a [.ref b,e] M Q :=
 ⟨M0,b,A,V,l,n,e,rfl,h.cu,hn,h.wf,g.p,g.g,hf,fun M' A' V' c1 st e1 e2=>q true M' A' V' (h.done g c1 e1 e2 hz) st,q false M A V (h.mono (by omega)) .refl⟩
theorem pY (G:Gl K mg a):Fq P w K mg base 13 a.law_answered (qT a):=by
 have C_law_done:=ui (P:=P) (w:=w) (base:=base) G
 refine aX G.law_answered.toDG gb (fun ds M Q h=>?_) (fun cdv A outer s H E hr=>⟨_,(ah (aC (ax C_law_done hr G.law_done (ae (aa 0 (pv 0)) (ae (aI (ae ao (ae (aa 1 (pv 1)) (ae (aa 2 (pv 2)) ag)))) ag))))
 (ah (aE (i:=3) gb.nd rfl (Or.inl rfl) (aS (aH bn rfl G.no_len bi (ae (ap (aa 0 (pv 0))) ag)) ak))
 (ai (aF (W3.b3 (fv (au (hu9 hr) (aa 3 (pv 3)) ak) (d4 (au (hu9 hr) (ap (aA (ap (aa 0 (pv 0))) (aa 3 (pv 3)))) ao))))
 (ai (aC (ax C_law_done hr G.law_done (ae (aa 0 (pv 0)) (ae (aI (ae ao (ae (aA (ap (aA (ap (aa 0 (pv 0))) (aa 3 (pv 3)))) ak) (ae (aa 3 (pv 3)) ag)))) ag)))))
 ay)))),?_⟩)
 ·obtain ⟨M0,b,A,V,l,n,ps,x,y,rfl,_⟩:=h
  rfl
 ·rintro ds M Q ⟨M0,b,A,V,l,n,ps,x,y,rfl,h,hn,g,hy,q⟩
  refine ⟨few rfl,?_⟩
  dsimp only [cO]
  refine gG h (by omega) g (uV g hy) (fun _ _ e=>by cases e; exact hy) fun _ M1 A1 V1 h1 st1=>?_
  have lc:((A1.cs.map fun k=>D.ref k.p).length:Int)=(V1.calls.length:Nat):=by rw [List.length_map,h1.cu.w.bd.len]
  refine aj h1.cu.at_ (af rfl (af h1.cu.w.bd.ca ?_))
  rw [lc]
  have skip:∃ M'',L3.Sub M'' M1∧Q .non M'':=⟨M1,.refl,q M1 A1 V1 (h1.mono (by omega)) st1⟩
  refine bo (c:=decide ((0:Int)≤(V1.calls.length:Int) - 1)) (fun z=>?_) (fun _=>skip)
  have hl:0 < V1.calls.length:=by
   have:=of_decide_eq_true z
   omega
  obtain ⟨m,hm⟩:∃ m,V1.calls.length=m + 1:=⟨V1.calls.length - 1,by omega⟩
  have ek:((V1.calls.length:Nat):Int) - 1=(m:Nat):=by omega
  rw [ek]
  have hc:V1.calls[m]?=some (V1.calls[m]'(by omega)):=List.getElem?_eq_getElem (by omega)
  generalize V1.calls[m]'(by omega)=c at hc
  obtain ⟨ka,ci⟩:=h1.cu.call hc
  obtain ⟨ad,md,c1,c2,c3,c4,n1,n2⟩:=ci.cell
  refine aj h1.cu.at_ (af rfl (af rfl (af ci.bd.ca (af (bV ci.e1) (aj c1 (af rfl ?_))))))
  refine bo (c:=c.st == "rings") (fun z=>?_) (fun _=>skip)
  have hat:∃ u r,c.at_=u :: r:=by
   have es:=eq_of_beq z
   rcases (h1.wf.ok c (aZ hc)).sh with ⟨_,_,_,_,s⟩ | ⟨s,_⟩ | ⟨_,s,_⟩ | ⟨s,_⟩
   ·exact List.exists_cons_of_ne_nil s
   ·rw [es] at s; exact absurd s (by decide)
   ·rw [es] at s; exact absurd s (by decide)
   ·rw [es] at s; exact absurd s (by decide)
  obtain ⟨u,r,eat⟩:=hat
  rw [eat] at c3
  have c3:lstM M1 ad=some (.str u :: r.map D.str):=c3
  refine aj h1.cu.at_ (af rfl (af rfl (af ci.bd.ca (af (bV ci.e1) (aj c1 (af rfl (af c3 (af (qq _ _) ?_))))))))
  refine ⟨few rfl,?_⟩
  dsimp only [cO]
  refine gG h1 (by omega) g (.inr ⟨"answer",u,[(m:Nat)],rfl,.inl ⟨.inl rfl,rfl⟩⟩) (fun _ _ e=>by cases e) fun _ M2 A2 V2 h2 st2=>?_
  exact ⟨M2,.refl,q M2 A2 V2 (h2.mono (by omega)) (st1.trans st2)⟩
theorem wa (G:Gl K mg a):Fq P w K mg base 14 a.law_talks (xf a):=by
 have C_law_done:=ui (P:=P) (w:=w) (base:=base) G
 have C_law_draw:=kU (P:=P) (w:=w) (base:=base) G
 have C_law_answered:=pY (P:=P) (w:=w) (base:=base) G
 have C_Board_talk_of:=lM (P:=P) (w:=w) (base:=base) G
 refine aX G.law_talks.toDG d6 (fun ds M Q h=>?_) (fun cdv A outer s H E hr=>⟨_,(ah (aE (i:=3) d6.nd rfl (Or.inl rfl) (aA (aa 2 (pv 2)) (ax C_law_draw hr G.law_draw (ae (aa 1 (pv 1)) (ae ak (ae (aH bn rfl G.no_len bi (ae (aa 2 (pv 2)) ag)) ag))))))
 (ah (aC (ax C_law_answered hr G.law_answered (ae (aa 0 (pv 0)) (ae (aa 3 (pv 3)) (ae (aA (aa 2 (pv 2)) (ax C_law_draw hr G.law_draw (ae (aa 1 (pv 1)) (ae ak (ae (aH bn rfl G.no_len bi (ae (aa 2 (pv 2)) ag)) ag))))) ag)))))
 (ah (aE (i:=4) d6.nd rfl (Or.inl rfl) (aJ (aa 0 (pv 0)) G.c_Board.toCls G.Board_talk_of C_Board_talk_of hr (ae (aa 3 (pv 3)) ag)))
 (ah (aF (W3.b3 (fv (au (hu9 hr) (aa 4 (pv 4)) b9) (d4 (au (hu9 hr) (ax C_law_draw hr G.law_draw (ae (aa 1 (pv 1)) (ae ak (ae ak ag)))) ak))))
 (ah (aC (ax C_law_done hr G.law_done (ae (aa 0 (pv 0)) (ae (aI (ae ao (ae (aa 3 (pv 3)) (ae (aa 4 (pv 4)) ag)))) ag))))
 (ah (aC (ax C_law_answered hr G.law_answered (ae (aa 0 (pv 0)) (ae (aa 3 (pv 3)) (ae (aA (aa 2 (pv 2)) (ax C_law_draw hr G.law_draw (ae (aa 1 (pv 1)) (ae ak (ae (aH bn rfl G.no_len bi (ae (aa 2 (pv 2)) ag)) ag))))) ag)))))
 (ah (aE (i:=5) d6.nd rfl (Or.inl rfl) (aJ (aa 0 (pv 0)) G.c_Board.toCls G.Board_talk_of C_Board_talk_of hr (ae (aa 3 (pv 3)) ag)))
 (ai (aF (W3.b3 (fv (au (hu9 hr) (aa 5 (pv 5)) b9) (d4 (au (hu9 hr) (ax C_law_draw hr G.law_draw (ae (aa 1 (pv 1)) (ae ak (ae ak ag)))) ak))))
 (ai (aC (ax C_law_done hr G.law_done (ae (aa 0 (pv 0)) (ae (aI (ae ao (ae (aa 3 (pv 3)) (ae (aa 4 (pv 4)) (ae (aa 5 (pv 5)) ag))))) ag)))))
 ay)))))
 ay)
 (ai (aF (au (hu9 hr) (ax C_law_draw hr G.law_draw (ae (aa 1 (pv 1)) (ae ak (ae ak ag)))) ak)
 (ai (aC (ax C_law_done hr G.law_done (ae (aa 0 (pv 0)) (ae (aI (ae ao (ae (aa 3 (pv 3)) (ae (ax C_law_draw hr G.law_draw (ae (aa 1 (pv 1)) (ae ak (ae (aS (aH bn rfl G.no_len bi (ae (ap (aa 0 (pv 0))) ag)) ak) ag)))) ag)))) ag)))))
 ay)))))),?_⟩)
 ·obtain ⟨M0,b,A,V,l,n,ps,c,r,own,rfl,_⟩:=h
  rfl
 ·rintro ds M Q ⟨M0,b,A,V,l,n,ps,c,r,own,rfl,h,hn,g,lr,hin,hne,hl,q⟩
  have lo:∀ {M' A' V' m},St a M0 M' b A' V' l m ps→lstM M' r=some (own.map D.str):=fun h'=>h'.cu.w.s0.lst lr
  have ll:((own.map D.str).length:Int)=own.length:=by rw [List.length_map]
  have lp:0 < own.length:=List.length_pos_iff.mpr hne
  have kQ:∀ (f:Int) (k:DK) (M':Mp),(∀ x∈own,k (.str x) M')→(atI (own.map D.str) (cD c f own.length)).elim False fun d=>k d M':=fun f k M' hk=>by
   have i0:=cg (c:=c) (f:=f) (m:=(own.length:Int)) (by omega)
   have i1:=bS (c:=c) (f:=f) (m:=(own.length:Int)) (by omega)
   exact af (vY i0 i1) (hk _ (k9 i0 i1))
  refine af (lo h) ⟨_,_,_,rfl,by rw [ll]; omega,af (lo h) ?_⟩
  rw [ll]
  refine kQ 16807 _ M fun x hx=>?_
  refine af (lo h) ⟨_,_,_,rfl,by rw [ll]; omega,af (lo h) ?_⟩
  rw [ll]
  refine kQ 39373 _ M fun y hy=>?_
  dsimp only [cO]
  refine ⟨M0,b,A,V,l,n,ps,x,y,rfl,h,by omega,g,hin y hy,fun M1 A1 V1 h1 st1=>?_⟩
  have talk:∀ {M' A' V' m} {Q':DK},St a M0 M' b A' V' l m ps→m≤9000→(∀ d,(d=.non∨∃ j:Nat,d=.int j)→Q' d M')→gu a [.ref b,.str x] M' Q':=fun {M' A' V' m Q'} h' hm hq=>⟨A',V',x,by rw [h'.cu.b],h'.cu.w.bd,Nat.le_trans h'.cu.g.ca (by omega),hq _ ((iN _).imp (fun z=>z.1) id)⟩
  refine aj h1.cu.at_ ⟨rfl,_,⟨rfl,rfl⟩,?_⟩
  dsimp only [cz,v3,cO]
  refine af rfl (talk h1 (by omega) fun kd hkd=>?_)
  refine cut (t:=vH _ _ _) (fun δ M'=>(∃ A' V',St a M0 M' b A' V' l (n + 30) ps∧bL A M A' M')∧∃ y5,δ=[some (.ref b),some (.int c),some (.ref r),some (.str x),some kd,y5]) (fun nx hh=>?_) ?_
  ·have skip:=hh _ M1 ⟨⟨A1,V1,h1.mono (by omega),st1⟩,none,rfl⟩
   rcases hkd with rfl | ⟨k,rfl⟩
   ·exact skip
   refine ⟨_,_,_,rfl,by decide,bo (fun _=>?_) (fun _=>skip)⟩
   refine ⟨few rfl,?_⟩
   dsimp only [cO]
   refine gG h1 (by omega) g (.inr ⟨"hold",x,[(k:Nat)],rfl,.inl ⟨.inr (.inr rfl),rfl⟩⟩) (fun _ _ e=>by cases e) fun _ M2 A2 V2 h2 st2=>?_
   refine af (lo h2) ⟨_,_,_,rfl,by rw [ll]; omega,af (lo h2) ?_⟩
   rw [ll]
   refine kQ 742938285 _ M2 fun y2 hy2=>?_
   dsimp only [cO]
   refine ⟨M0,b,A2,V2,l,n + 15,ps,x,y2,rfl,h2,by omega,g,hin y2 hy2,fun M3 A3 V3 h3 st3=>?_⟩
   have st03:=st1.trans (st2.trans st3)
   refine aj h3.cu.at_ ⟨rfl,_,⟨rfl,rfl⟩,?_⟩
   dsimp only [cz,v3,cO]
   refine af rfl (talk h3 (by omega) fun md hmd=>?_)
   have skip:=hh _ M3 ⟨⟨A3,V3,h3.mono (by omega),st03⟩,some md,rfl⟩
   rcases hmd with rfl | ⟨m,rfl⟩
   ·exact skip
   refine ⟨_,_,_,rfl,by decide,bo (fun _=>?_) (fun _=>skip)⟩
   refine ⟨few rfl,?_⟩
   dsimp only [cO]
   refine gG h3 (by omega) g (.inr ⟨"join",x,[(k:Nat),(m:Nat)],rfl,.inr ⟨rfl,rfl⟩⟩) (fun _ _ e=>by cases e) fun _ M4 A4 V4 h4 st4=>?_
   exact hh _ M4 ⟨⟨A4,V4,h4.mono (by omega),st03.trans st4⟩,_,rfl⟩
  rintro δ M2 ⟨⟨A2,V2,h2,st2⟩,y5,rfl⟩
  have skip:∃ M'',L3.Sub M'' M2∧Q .non M'':=⟨M2,.refl,q M2 A2 V2 (h2.mono (by omega)) st2⟩
  refine ⟨_,_,_,rfl,by decide,bo (fun _=>?_) (fun _=>skip)⟩
  refine aj h2.cu.at_ (af rfl (af h2.cu.w.bd.ca ?_))
  refine ⟨_,_,_,rfl,by omega,few rfl,?_⟩
  dsimp only [cO]
  refine gG h2 (by omega) g (.inr ⟨"hang",x,[_],rfl,.inl ⟨.inr (.inl rfl),rfl⟩⟩) (fun _ _ e=>by cases e) fun _ M4 A4 V4 h4 st4=>?_
  exact ⟨M4,.refl,q M4 A4 V4 h4 (st2.trans st4)⟩
end
end Z
namespace Z
open PySem PySem.Spec PyProof.Rows L2 L3
def oC (x:Str):D:=.tup [.str "breaks",.str x]
def eR (x:Str):List (Str × D):=[("form",oC x),("phone",.str x)]
def cN (l:aD) (x:Str):Int:=(l.phone x).elim 0 fun v=>v.2.2
def qZ (l:aD) (x:Str) (ms:List Str):Bool:=ms.all fun m=>decide (cN l m < cN l x)
def gL (l:aD) (V:BdV) (c z:Str):Bool:=(cM l V c z).isEmpty
def nW (V:BdV) (z:Str):Option ar:=V.calls.find? fun c=>c.talksB z
def uC (l:aD) (V:BdV) (x c z:Str):Bool:=if (!(c == x) || (z == x))=true then false else if (!(hasS l.pn z) || !(gL l V c z))=true then false else (nW V z).elim false fun k=>(k.ms.length == 2) && qZ l x k.ms
def yj (a:Ad):Sp3:=fun ds M Q=>∃ A V l c z,ds=[.ref A.b,.str c,.str z]∧Rd a M A V l∧Tgt l z∧Q (.bl (gL l V c z)) M
def wS (K:PySem.W.Frag):Sp3:=fun ds M Q=>∃ p d C,ds=[.ref p,d]∧M p=some (.ins C [])∧fC K C "form"∧Q .non (am M p (.ins C [("form",d)]))
def mP (a:Ad):Sp3:=fun ds M Q=>∃ p x,ds=[.ref p,oC x]∧M p=some (.ins a.c_Breaks [])∧Q .non (am M p (.ins a.c_Breaks (eR x)))
def sF (a:Ad):Sp3:=fun ds M Q=>∃ x,ds=[oC x]∧∀ p,M p=none→Q (.ref p) (am M p (.ins a.c_Breaks (eR x)))
def js (a:Ad):Sp3:=fun ds M Q=>∃ p x q l r ms,ds=[.ref p,.ref q,.ref r]∧M p=some (.ins a.c_Breaks (eR x))∧bW a M q l∧lstM M r=some (List.map D.str ms)∧ms.length≤100∧x∈l.pn∧(∀ m∈ms,m∈l.pn)∧Q (.bl (qZ l x ms)) M
theorem pf {l:aD} {x:Str} {v:bZ} (h:l.phone x=some v):cN l x=v.2.2:=by
 unfold cN
 rw [h]
 rfl
section
variable {P:Program} {w:World} {K:PySem.W.Frag} {mg:Str→Option Value} {base:Heap} {a:Ad}
theorem ym (G:Gl K mg a):Fq P w K mg base 5 a.is_busy (yj a):=by
 have C_Board_ringable:=ke (P:=P) (w:=w) (base:=base) G
 refine aX G.is_busy.toDG sv (fun ds M Q h=>?_) (fun cdv A outer s H E hr=>⟨_,(ai (aw (ba (hu9 hr) (aH bn rfl G.no_len bi (ae (aJ (aa 0 (pv 0)) G.c_Board.toCls G.Board_ringable C_Board_ringable hr (ae (aa 1 (pv 1)) (ae (aa 2 (pv 2)) ag))) ag)) ak))),?_⟩)
 ·obtain ⟨A,V,l,c,z,rfl,_⟩:=h
  rfl
 ·rintro ds M Q ⟨A,V,l,c,z,rfl,rd,tg,q⟩
  refine aj rd.bd.at_ ⟨rfl,_,⟨rfl,rfl⟩,A,V,c,z,l,rfl,rd.bd,rd.k,rd.pl,tg.ph,tg.few,fun q1 M1 s1 hq1 e1=>af e1 ⟨M,s1,?_⟩⟩
  have e:((((cM l V c z).map D.str).length:Int) == 0)=gL l V c z:=by
   unfold gL
   rw [List.length_map,Bool.eq_iff_iff,beq_iff_eq,List.isEmpty_iff,← List.length_eq_zero_iff]
   omega
  show Q (.bl ((((cM l V c z).map D.str).length:Int) == 0)) M
  rw [e]
  exact q
theorem w9 (G:Gl K mg a):Fq P w K mg base 1 a.Wish_init (wS K):=by
 refine aX G.Wish_init.toDG pS (fun ds M Q h=>?_) (fun cdv A outer s H E hr=>⟨_,(ai (aO (aa 0 (pv 0)) (aa 1 (pv 1)))),?_⟩)
 ·obtain ⟨p,d,C,rfl,_⟩:=h
  rfl
 ·rintro ds M Q ⟨p,d,C,rfl,hp,hn,q⟩
  exact aj hp ⟨hn,by show 0 < 1000; decide,_,.refl,q⟩
theorem uW (G:Gl K mg a):Fq P w K mg base 2 a.Breaks_init (mP a):=by
 have C_Wish_init:=w9 (P:=P) (w:=w) (base:=base) G
 refine aX G.Breaks_init.toDG lA (fun ds M Q h=>?_) (fun cdv A outer s H E hr=>⟨_,(ah (aC (AT G.cm_Wish_init C_Wish_init hr G.c_Wish G.Wish_init.toDG (ae (aa 0 (pv 0)) (ae (aa 1 (pv 1)) ag))))
 (ai (aO (aa 0 (pv 0)) (aA (aa 1 (pv 1)) ak)))),?_⟩)
 ·obtain ⟨p,x,rfl,_⟩:=h
  rfl
 ·rintro ds M Q ⟨p,x,rfl,hp,q⟩
  refine ⟨p,_,_,rfl,hp,(G.n_Breaks "form" rfl),aj aL ⟨(G.n_Breaks "phone" rfl),by show 1 < 1000; decide,_,?_,q⟩⟩
  rw [g8]
  exact .refl
theorem rY (G:Gl K mg a):Fq P w K mg base 4 a.wish_of (sF a):=by
 have C_Breaks_init:=uW (P:=P) (w:=w) (base:=base) G
 refine aX G.wish_of.toDG lB (fun ds M Q h=>?_) (fun cdv A outer s H E hr=>⟨_,(ah (aE (i:=1) lB.nd rfl (Or.inl rfl) (aA (aa 0 (pv 0)) ak))
 (ah (aF (au (hu9 hr) (aa 1 (pv 1)) ao)
 (ai bz)
 ay)
 (ah (aF (au (hu9 hr) (aa 1 (pv 1)) ao)
 (ai bz)
 ay)
 (ah (aF (au (hu9 hr) (aa 1 (pv 1)) ao)
 (ai bz)
 ay)
 (ah (aF (au (hu9 hr) (aa 1 (pv 1)) ao)
 (ai bz)
 ay)
 (ah (aF (au (hu9 hr) (aa 1 (pv 1)) ao)
 (ai bz)
 ay)
 (ah (aF (au (hu9 hr) (aa 1 (pv 1)) ao)
 (ai bz)
 ay)
 (ah (aF (au (hu9 hr) (aa 1 (pv 1)) ao)
 (ai bz)
 ay)
 (ah (aF (au (hu9 hr) (aa 1 (pv 1)) ao)
 (ai (aw (pD C_Breaks_init hr G.c_Breaks G.i_Breaks G.Breaks_init.toDG (ae (aa 0 (pv 0)) ag))))
 ay)
 (ai bz)))))))))),?_⟩)
 ·obtain ⟨x,rfl,_⟩:=h
  rfl
 ·rintro ds M Q ⟨x,rfl,q⟩
  refine fun p hp=>⟨p,x,rfl,aL,rfl,_,.refl,?_⟩
  rw [g8]
  exact q p hp
theorem rb (G:Gl K mg a):Fq P w K mg base 2 a.Breaks_outranks (js a):=by
 have C_Plan_rank:=o1 (P:=P) (w:=w) (base:=base) G
 refine aX G.Breaks_outranks.toDG eL (fun ds M Q h=>?_) (fun cdv A outer s H E hr=>⟨_,(ah (aE (i:=3) eL.nd rfl (Or.inr rfl) (aJ (aa 1 (pv 1)) G.c_Plan.toCls G.Plan_rank C_Plan_rank hr (ae (ap (aa 0 (pv 0))) ag)))
 (ai (aw (aH (pU rfl) rfl G.no_all pG (ae (be rfl (bH (ix:=[none,some 1,some 3]) (N':=["member","plan","rank"]) (by kernel_rfl)) (aV (aa 2 (pv 2))) (fun C s0 H0 ex=>(aB (i:=0) (show List.Nodup (["member","plan","rank"]:List Str) by decide +kernel) rfl (Or.inl rfl))) (fun C s0 H0 ex=>bK) (fun C s0 H0 ex=>(ba (hu9 hr) (aJ (aa 1 (pv 1)) G.c_Plan.toCls G.Plan_rank C_Plan_rank hr (ae (aa 0 (pv 0)) ag)) (aa 2 (pv 2))))) ag))))),?_⟩)
 ·obtain ⟨p,x,q,l,r,ms,rfl,_⟩:=h
  rfl
 ·rintro ds M Q ⟨p,x,q,l,r,ms,rfl,hp,pl,lr,h100,hx,hm,k⟩
  have hz:sizeLine=16777216:=sizeLine_eq
  obtain ⟨v,hv⟩:=bR hx
  have ip:=pl
  obtain ⟨ph,gr,ws,pon,pr,gd,i1,_⟩:=ip
  refine aj i1 ⟨rfl,_,⟨rfl,rfl⟩,aj hp (af rfl ⟨q,x,v,l,rfl,pl,hv,?_⟩)⟩
  refine af lr (br (f:=fun d=>match d with | .str m=>.bl (decide (cN l m < cN l x)) | _=>.non) lr _ [] _ (by rw [List.length_map]; show 0 + ms.length≤sizeLine; omega) (fun d hd k0 hk=>?_) fun p1 hp1=>?_)
  ·obtain ⟨m,hmm,rfl⟩:=List.mem_map.mp hd
   obtain ⟨u,hu⟩:=bR (hm m hmm)
   have hk:k0 (.bl (decide (cN l m < cN l x))) M:=hk
   rw [pf hu,pf hv] at hk
   exact aj i1 ⟨rfl,_,⟨rfl,rfl⟩,q,m,u,l,rfl,pl,hu,hk⟩
  ·have em:[] ++ (ms.map D.str).map (fun d=>match d with | .str m=>.bl (decide (cN l m < cN l x)) | _=>.non)=ms.map fun m=>D.bl (decide (cN l m < cN l x)):=by
    rw [List.nil_append,List.map_map]
    rfl
   rw [em]
   refine af av (af (jn (fun m=>decide (cN l m < cN l x)) ms) ⟨M,.new hp1,?_⟩)
   unfold qZ at k
   rw [mD]
   exact k
end
end Z
namespace Z
open PySem PySem.Spec PyProof.Rows L2 L3
theorem qS {α:Type} (f:α→Bool):∀ cs:List α,(gW (.bl true) ((cs.map f).map D.bl)=none∧cs.find? f=none)∨∃ (j:Nat) (c:α),gW (.bl true) ((cs.map f).map D.bl)=some j∧cs[j]?=some c∧cs.find? f=some c
 | []=>.inl ⟨rfl,rfl⟩
 | c :: r=>by
  rw [List.map_cons,List.map_cons,List.find?_cons]
  unfold gW
  cases e:f c with
  | true =>
   rw [if_pos (show eqF (.bl true) (.bl true)=true from rfl)]
   exact .inr ⟨0,c,rfl,rfl,rfl⟩
  | false =>
   rw [if_neg (show ¬ eqF (.bl false) (.bl true)=true from by decide)]
   rcases qS f r with ⟨h1,h2⟩ | ⟨j,d,h1,h2,h3⟩
   ·rw [h1]
    exact .inl ⟨rfl,h2⟩
   ·rw [h1]
    exact .inr ⟨j + 1,d,rfl,by rw [List.getElem?_cons_succ]; exact h2,h3⟩
theorem sk {α:Type} (f:α→Bool) (cs:List α):(eF (cs.map f)=.non∧cs.find? f=none)∨∃ (j:Nat) (c:α),eF (cs.map f)=.int (j:Nat)∧cs[j]?=some c∧cs.find? f=some c:=by
 unfold eF
 rcases qS f cs with ⟨h1,h2⟩ | ⟨j,c,h1,h2,h3⟩
 ·rw [h1]
  exact .inl ⟨rfl,h2⟩
 ·rw [h1]
  exact .inr ⟨j,c,rfl,h2,h3⟩
theorem BN {l:aD} (g:fZ l) {z:Str} (hz:z∈l.pn):Tgt l z:=by
 obtain ⟨e1,_⟩:=pX g hz
 refine ⟨fun x hx=>?_,by rw [e1]; show 1≤100; decide⟩
 rw [e1,List.mem_singleton] at hx
 subst hx
 exact bR hz
def nF (a:Ad):Sp3:=fun ds M Q=>∃ p x A V l c z,ds=[.ref p,.ref A.b,.str c,.str z]∧M p=some (.ins a.c_Breaks (eR x))∧Rd a M A V l∧fZ l∧WF l V∧(∀ k∈V.calls,k.ms.length≤100)∧x∈l.pn∧Q (.bl (uC l V x c z)) M
section
variable {P:Program} {w:World} {K:PySem.W.Frag} {mg:Str→Option Value} {base:Heap} {a:Ad}
theorem yG (G:Gl K mg a):Fq P w K mg base 6 a.Breaks_fits (nF a):=by
 have C_Board_talk_of:=lM (P:=P) (w:=w) (base:=base) G
 have C_Plan_phone_names:=cI (P:=P) (w:=w) (base:=base) G
 have C_is_busy:=ym (P:=P) (w:=w) (base:=base) G
 have C_Breaks_outranks:=rb (P:=P) (w:=w) (base:=base) G
 refine aX G.Breaks_fits.toDG eK (fun ds M Q h=>?_) (fun cdv A outer s H E hr=>⟨_,(ah (aF (W3.b3 (mK (au (hu9 hr) (aa 2 (pv 2)) (ap (aa 0 (pv 0)))) (ld (au (hu9 hr) (aa 3 (pv 3)) (ap (aa 0 (pv 0)))))))
 (ai (aw eJ))
 ay)
 (ah (aF (W3.b3 (mK (au (hu9 hr) (aa 3 (pv 3)) (lb (ap (aa 1 (pv 1))) G.c_Plan.toCls G.Plan_phone_names C_Plan_phone_names hr)) (ld (fW (e9 (ax C_is_busy hr G.is_busy (ae (aa 1 (pv 1)) (ae (aa 2 (pv 2)) (ae (aa 3 (pv 3)) ag)))))))))
 (ai (aw eJ))
 ay)
 (ah (aE (i:=4) eK.nd rfl (Or.inl rfl) (aJ (aa 1 (pv 1)) G.c_Board.toCls G.Board_talk_of C_Board_talk_of hr (ae (aa 3 (pv 3)) ag)))
 (ah (aF (au (hu9 hr) (aa 4 (pv 4)) b9)
 (ai (aw eJ))
 ay)
 (ah (aE (i:=5) eK.nd rfl (Or.inl rfl) (ap (aA (ap (aa 1 (pv 1))) (aa 4 (pv 4)))))
 (ai (aw (dB (ba (hu9 hr) (aH bn rfl G.no_len bi (ae (aa 5 (pv 5)) ag)) ak) (cV (aJ (aa 0 (pv 0)) G.c_Breaks.toCls G.Breaks_outranks C_Breaks_outranks hr (ae (ap (aa 1 (pv 1))) (ae (aa 5 (pv 5)) ag)))))))))))),?_⟩)
 ·obtain ⟨p,x,A,V,l,c,z,rfl,_⟩:=h
  rfl
 ·rintro ds M Q ⟨p,x,A,V,l,c,z,rfl,hp,rd,g,wf,hms,hx,q⟩
  obtain ⟨ph,gr,ws,pon,pr,gd,i1,_⟩:=rd.pl
  unfold uC at q
  refine aj hp (af rfl ?_)
  refine bo (c:=!(c == x)) (fun h1=>?_) (fun h1=>?_)
  ·rw [h1,Bool.true_or] at q
   exact ⟨M,.refl,q⟩
  rw [show (!(c == x))=false from Bool.eq_false_iff.mpr h1,Bool.false_or] at q
  refine aj hp (af rfl ?_)
  refine bo (c:=z == x) (fun h2=>?_) (fun h2=>?_)
  ·rw [h2] at q
   exact ⟨M,.refl,q⟩
  rw [if_neg h2] at q
  refine aj rd.bd.at_ (af rfl (aj i1 ⟨rfl,_,⟨rfl,rfl⟩,V.p,l,rfl,rd.pl,g.p,fun q1 hq1=>af av ⟨rfl,bt _,?_⟩⟩))
  have t:=L3.Sub.new (c:=.lst (l.pn.map D.str)) hq1
  have rd':=rd.sub t
  generalize am M q1 (.lst (l.pn.map D.str))=M1 at t rd' ⊢
  show if (!(inD (.str z) (l.pn.map D.str)))=true then _ else _
  rw [dj]
  refine bo (c:=!(hasS l.pn z)) (fun h3=>?_) (fun h3=>?_)
  ·rw [h3,Bool.true_or] at q
   exact ⟨M,t,q⟩
  have hz:z∈l.pn:=dg.mp (by simpa using h3)
  rw [show (!(hasS l.pn z))=false from Bool.eq_false_iff.mpr h3,Bool.false_or] at q
  refine ⟨A,V,l,c,z,rfl,rd',BN g hz,?_⟩
  refine bo (c:=!(gL l V c z)) (fun h4=>?_) (fun h4=>?_)
  ·rw [h4] at q
   exact ⟨M,t,q⟩
  rw [if_neg h4] at q
  refine aj rd'.bd.at_ ⟨rfl,_,⟨rfl,rfl⟩,A,V,z,rfl,rd'.bd,rd'.k,?_⟩
  unfold nW at q
  rcases sk (fun k:ar=>k.talksB z) V.calls with ⟨e1,e2⟩ | ⟨j,k,e1,e2,e3⟩
  ·rw [e2] at q
   rw [e1]
   exact ⟨M,t,q⟩
  ·rw [e3] at q
   rw [e1]
   have hj:j < A.cs.length:=by rw [rd.bd.len]; exact (List.getElem?_eq_some_iff.mp e2).1
   have ek:A.cs[j]?=some A.cs[j]:=List.getElem?_eq_getElem hj
   obtain ⟨ad,md,f1,f2,f3,f4,_⟩:=rd'.bd.cs j _ k ek e2
   refine aj rd'.bd.at_ (af rfl (af rfl (af rd'.bd.ca (af (bV ek) (aj f1 (af rfl ?_))))))
   refine af f4 ?_
   have el:((((k.ms.map D.str).length:Nat):Int) == 2)=(k.ms.length == 2):=by
    rw [List.length_map,Bool.eq_iff_iff,beq_iff_eq,beq_iff_eq]
    omega
   show if ((((k.ms.map D.str).length:Nat):Int) == 2)=true then _ else _
   rw [el]
   have q:Q (.bl ((k.ms.length == 2) && qZ l x k.ms)) M:=q
   refine bo (c:=k.ms.length == 2) (fun h5=>?_) (fun h5=>?_)
   ·rw [h5,Bool.true_and] at q
    refine aj (t _ _ hp) ⟨rfl,_,⟨rfl,rfl⟩,aj rd'.bd.at_ (af rfl ⟨p,x,V.p,l,md,k.ms,rfl,t _ _ hp,rd'.pl,f4,hms k (aZ e2),hx,(wf.ok k (aZ e2)).ms,M,t,q⟩)⟩
   ·rw [show (k.ms.length == 2)=false from Bool.eq_false_iff.mpr h5,Bool.false_and] at q
    exact ⟨M,t,q⟩
end
end Z
namespace Z
open PySem PySem.Spec PyProof.Rows L2 L3
def AY (a:Ad):Sp3:=fun ds M Q=>∃ L k c x,ds=[.ref k.p,.str x]∧bQ a M L k c∧Al c∧Q (.bl (c.hasB x)) M
def iF (M:Mp) (l:aD) (d:D):Prop:=∃ r1 r2 r3,d=.tup [.ref r1,.ref r2,.ref r3]∧lstM M r1=some (l.phones.map bb)∧lstM M r2=some (l.groups.map bp)
theorem iF.sub {M M':Mp} {l:aD} {d:D} (h:iF M l d) (s:L3.Sub M M'):iF M' l d:=by
 obtain ⟨r1,r2,r3,e,h1,h2⟩:=h
 exact ⟨r1,r2,r3,e,s.lst h1,s.lst h2⟩
def vX (a:Ad):Sp3:=fun ds M Q=>∃ A V l d c z,ds=[.ref A.b,d,.str c,.str z]∧iF M l d∧Rd a M A V l∧fZ l∧WF l V∧(l.pn).Nodup∧z∈l.pn∧Q (.bl (gL l V c z)) M
section
variable {P:Program} {w:World} {K:PySem.W.Frag} {mg:Str→Option Value} {base:Heap} {a:Ad}
theorem Bc (G:Gl K mg a):Fq P w K mg base 1 a.law_in (AY a):=by
 refine aX G.law_in.toDG uI (fun ds M Q h=>?_) (fun cdv A outer s H E hr=>⟨_,(ah (aF (au (hu9 hr) (ap (aa 0 (pv 0))) ao)
 (ai (aw (uh (ba (hu9 hr) (aa 1 (pv 1)) (ap (aa 0 (pv 0)))) (cV (ba (hu9 hr) (aa 1 (pv 1)) (ap (aa 0 (pv 0))))))))
 ay)
 (ah (aF (au (hu9 hr) (ap (aa 0 (pv 0))) ao)
 (ai (aw (ba (hu9 hr) (aa 1 (pv 1)) (ap (aa 0 (pv 0))))))
 ay)
 (ai (aw (ba (hu9 hr) (aa 1 (pv 1)) (ap (aa 0 (pv 0)))))))),?_⟩)
 ·obtain ⟨L,k,c,x,rfl,_⟩:=h
  rfl
 ·rintro ds M Q ⟨L,k,c,x,rfl,⟨ad,md,h1,h2,h3,h4,_⟩,st,q⟩
  unfold ar.hasB at q
  refine aj h1 (af rfl ?_)
  refine bo (c:=c.st == "rings") (fun g=>?_) (fun g=>?_)
  ·rw [if_pos g] at q
   refine aj h1 (af rfl (bo (c:=x == c.cr) (fun g2=>?_) (fun g2=>?_)))
   ·rw [g2] at q
    exact ⟨M,.refl,q⟩
   ·rw [show (x == c.cr)=false from Bool.eq_false_iff.mpr g2,Bool.false_or] at q
    exact aj h1 (af rfl (ku h3 ⟨M,.refl,q⟩))
  ·rw [if_neg g] at q
   refine aj h1 (af rfl ?_)
   refine bo (c:=c.st == "waits") (fun g2=>?_) (fun g2=>?_)
   ·rw [if_pos g2] at q
    exact aj h1 (af rfl ⟨M,.refl,q⟩)
   ·rw [if_neg g2] at q
    refine aj h1 (af rfl (ku h4 ⟨M,.refl,?_⟩))
    rcases st with ⟨e,_⟩ | ⟨e,_⟩ | ⟨_,e,_⟩ | ⟨e,e2,_⟩
    ·exact absurd (by rw [e]; rfl) g
    ·rw [e] at q
     exact q
    ·rw [e] at q
     exact q
    ·rw [e2]
     rw [e,e2] at q
     exact q
theorem wl (G:Gl K mg a):Fq P w K mg base 2 a.law_is_busy (vX a):=by
 have C_law_in:=Bc (P:=P) (w:=w) (base:=base) G
 refine aX G.law_is_busy.toDG bq (fun ds M Q h=>?_) (fun cdv A outer s H E hr=>⟨_,(ah (aE (i:=4) bq.nd rfl (Or.inl rfl) (bY (ae (aa 3 (pv 3)) ag)))
 (ah (cZ PassesOwn.never rfl (aV (aA (aa 1 (pv 1)) ak)) (d9 (n:=3) rfl (aT (aB (i:=5) bq.nd rfl (Or.inr rfl)) (aT (aB (i:=6) bq.nd rfl (Or.inl rfl)) (aT (aB (i:=7) bq.nd rfl (Or.inl rfl)) dm))))
 (ai (aF (au (hu9 hr) (aa 5 (pv 5)) (aa 3 (pv 3)))
 (ai (aE (i:=4) bq.nd rfl (Or.inl rfl) (aP dH rfl G.no_list dN (ae (aa 7 (pv 7)) ag))))
 ay)))
 (ah (cZ PassesOwn.never rfl (aV (aA (aa 1 (pv 1)) ak)) (d9 (n:=3) rfl (aT (aB (i:=5) bq.nd rfl (Or.inr rfl)) (aT (aB (i:=8) bq.nd rfl (Or.inl rfl)) (aT (aB (i:=9) bq.nd rfl (Or.inl rfl)) dm))))
 (ai (aF (W3.b3 (fv (au (hu9 hr) (aa 5 (pv 5)) (aa 4 (pv 4))) (d4 (au (hu9 hr) (aa 5 (pv 5)) (aa 2 (pv 2))))))
 (ai (aF (au (hu9 hr) (aH bn rfl G.no_len bi (ae (be rfl (bH (ix:=[none,some 5]) (N':=["_law_call","_law_name"]) (by kernel_rfl)) (aV (ap (aa 0 (pv 0)))) (fun C s0 H0 ex=>(aB (i:=0) (show List.Nodup (["_law_call","_law_name"]:List Str) by decide +kernel) rfl (Or.inl rfl))) (fun C s0 H0 ex=>(gz (e9 (ax C_law_in hr G.law_in (ae (aa 0 (pv 0)) (ae (aa 1 (pv 1)) ag)))))) (fun C s0 H0 ex=>(aa 0 (pv 0)))) ag)) (aa 8 (pv 8)))
 (ai (aw eJ))
 ay))
 ay)))
 (ai (aw eJ))))),?_⟩)
 ·obtain ⟨A,V,l,d,c,z,rfl,_⟩:=h
  rfl
 ·rintro ds M Q ⟨A,V,l,d,c,z,rfl,⟨r1,r2,r3,rfl,m1,m2⟩,rd,g,wf,nd,hz,q⟩
  have hzz:sizeLine=16777216:=sizeLine_eq
  have hgn:∀ gr∈l.groups,(gr.1 == z)=false:=fun gr hgr=>Bool.eq_false_iff.mpr fun e=>by
   have h0:=g.gr z hz
   unfold aD.group at h0
   exact absurd (eq_of_beq e) (by simpa using List.find?_eq_none.mp h0 gr hgr)
  refine ⟨few rfl,fun p hp=>?_⟩
  have t:=L3.Sub.new (c:=.lst [D.str z]) hp
  have lp:lstM (am M p (.lst [D.str z])) p=some [D.str z]:=av
  have rd':=rd.sub t
  have m1':=t.lst m1
  have m2':=t.lst m2
  generalize am M p (.lst [D.str z])=M1 at t lp rd' m1' m2' ⊢
  dsimp only [fq]
  refine cut (t:=yW _ _ _) (fun δ M'=>M1=M'∧∃ y5 y6 y7,δ=[some (.ref A.b),some (.tup [.ref r1,.ref r2,.ref r3]),some (.str c),some (.str z),some (.ref p),y5,y6,y7,none,none]) (fun nx h=>?_) ?_
  ·refine af m2' ?_
   refine dW (l.groups.map bp) (fun pre δ M'=>M1=M'∧∃ y5 y6 y7,δ=[some (.ref A.b),some (.tup [.ref r1,.ref r2,.ref r3]),some (.str c),some (.str z),some (.ref p),y5,y6,y7,none,none]) (fun _ _ M' j=>by rw [← j.1]; exact m2') _ [] _ _ rfl ⟨rfl,none,none,none,rfl⟩ ?_ ?_
   ·rintro pre d post e δ M' ⟨rfl,y5,y6,y7,rfl⟩ nx2 hnx
    have hd:d∈l.groups.map bp:=by rw [← e]; simp
    obtain ⟨gr,hgr,rfl⟩:=List.mem_map.mp hd
    refine ⟨rfl,?_⟩
    exact wN (c:=gr.1 == z) (hgn gr hgr) (hnx _ _ ⟨rfl,_,_,_,rfl⟩)
   ·rintro δ M' ⟨rfl,y5,y6,y7,rfl⟩
    exact h _ _ ⟨rfl,_,_,_,rfl⟩
  rintro δ _ ⟨rfl,y5,y6,y7,rfl⟩
  have fin:∀ (b:Bool) (M2:Mp),L3.Sub M1 M2→gL l V c z=b→∃ M'',L3.Sub M'' M2∧Q (.bl b) M'':=fun b M2 s e=>⟨M,t.trans s,e ▸ q⟩
  have eb:gL l V c z=((z == c) || !(dX l V z)):=by
   unfold gL cM
   rw [(pX g hz).1]
   cases h1:z == c <;> cases h2:dX l V z <;> simp [h1,h2,List.filter_cons]
  refine af m1' ?_
  refine dW (l.phones.map bb) (fun pre δ M'=>L3.Sub M1 M'∧(∀ d∈pre,∀ v:bZ,d=bb v→v.1=z→(z == c)=true∨dX l V z=false)∧∃ y5 y6 y7 y8 y9,δ=[some (.ref A.b),some (.tup [.ref r1,.ref r2,.ref r3]),some (.str c),some (.str z),some (.ref p),y5,y6,y7,y8,y9]) (fun _ _ M' j=>j.1.lst m1') _ [] _ _ rfl ⟨.refl,(fun d hd=>by cases hd),_,_,_,_,_,rfl⟩ ?_ ?_
  ·rintro pre d post e δ M' ⟨sM,hpre,y5,y6,y7,y8,y9,rfl⟩ nx2 hnx
   have lp:=sM.lst lp
   have rd':=rd'.sub sM
   have hd:d∈l.phones.map bb:=by rw [← e]; simp
   obtain ⟨v,hv,rfl⟩:=List.mem_map.mp hd
   have ei:inD (.str v.1) [.str z]=(z == v.1):=by
    rw [show [D.str z]=[z].map D.str from rfl,dj,List.any_cons,List.any_nil,Bool.or_false]
   have skip:∀ M2,L3.Sub M1 M2→(v.1=z→(z == c)=true∨dX l V z=false)→nx2 [some (.ref A.b),some (.tup [.ref r1,.ref r2,.ref r3]),some (.str c),some (.str z),some (.ref p),some (.str v.1),y6,y7,some (.int v.2.1),some (.int v.2.2)] M2:=fun M2 s2 h=>hnx _ _ ⟨s2,fun d hd u hu e1=>by
    rcases List.mem_append.mp hd with z1 | z1
    ·exact hpre d z1 u hu e1
    ·rw [List.mem_singleton.mp z1] at hu
     refine h (Eq.trans ?_ e1)
     injection hu with hu
     injection hu with hu _
     exact D.str.inj hu,_,_,_,_,_,rfl⟩
   refine ⟨rfl,af lp ⟨rfl,rfl,?_⟩⟩
   show if inD (.str v.1) [.str z]=true then _ else _
   rw [ei]
   refine bo (c:=z == v.1) (fun h1=>?_) (fun h1=>skip _ sM fun e=>absurd (by rw [e]; exact beq_self_eq_true z) h1)
   have e1:v.1=z:=(eq_of_beq h1).symm
   refine bo (c:=!(v.1 == c)) (fun h2=>?_) (fun h2=>skip _ sM fun _=>.inl (by rw [e1] at h2; simpa using h2))
   have hv1:l.phone z=some v:=by
    obtain ⟨u,hu⟩:=bR hz
    rw [hu]
    unfold aD.phone at hu
    have u1:u.1=z:=by simpa using List.find?_some hu
    obtain ⟨i,hi,ei⟩:=List.getElem_of_mem (List.mem_of_find?_eq_some hu)
    obtain ⟨j,hj,ej⟩:=List.getElem_of_mem hv
    have:=pT (f:=fun p:bZ=>p.1) nd (by rw [List.getElem?_eq_getElem hi,ei]) (by rw [List.getElem?_eq_getElem hj,ej]) (u1.trans e1.symm)
    subst this
    rw [← ei,← ej]
   have ef:dX l V z=decide ((l0 V z:Int) < v.2.1):=by
    unfold dX
    rw [hv1]
    rfl
   refine aj rd'.bd.at_ (af rfl (af rd'.bd.ca ?_))
   have h1000:=rd.k
   refine gZ (A.cs.map fun k=>D.ref k.p) (fun pre acc δ M2=>M'=M2∧acc.length=((V.calls.take pre.length).filter (·.hasB v.1)).length∧∃ y,δ=[y,some (.str v.1)]) (fun _ _ _ M' j=>by rw [← j.1]; exact rd'.bd.ca) _ [] [] _ _ rfl ?_ ⟨rfl,rfl,none,rfl⟩ ?_ ?_
   ·rw [List.length_map,rd.bd.len]
    simp only [List.length_nil]
    omega
   ·rintro pre d post e acc δ _ ⟨rfl,ha,y,rfl⟩ k k2 hk hk2
    obtain ⟨ka,c0,e3,e2,rfl,hc,et⟩:=fR rd'.bd e
    rw [List.length_append,List.length_singleton,et,List.filter_append] at hk hk2
    refine ⟨_,ka,c0,v.1,rfl,hc,(wf.ok c0 (aZ e2)).sh,?_⟩
    refine bo (c:=c0.hasB v.1) (fun g=>?_) (fun g=>?_)
    ·refine hk _ _ _ ⟨rfl,?_,_,rfl⟩
     rw [List.length_append,List.length_append,ha,List.filter_cons_of_pos (by exact g)]
     rfl
    ·refine hk2 _ _ ⟨rfl,?_,_,rfl⟩
     rw [List.length_append,ha,List.filter_cons_of_neg (by exact g)]
     rfl
   ·rintro acc δ _ ⟨rfl,ha,y,rfl⟩ p2 hp2
    rw [List.length_map,rd.bd.len,List.take_length] at ha
    have ha:acc.length=l0 V z:=by rw [ha,e1]; rfl
    refine af av ?_
    rw [ha]
    refine bo (c:=decide ((l0 V z:Int) < v.2.1)) (fun h3=>?_) (fun h3=>?_)
    ·refine fin false _ (sM.trans (.new hp2)) ?_
     rw [eb,ef,h3]
     rw [e1] at h2
     simpa using h2
    ·refine skip _ (sM.trans (.new hp2)) fun _=>.inr ?_
     rw [ef]
     exact Bool.eq_false_iff.mpr h3
  ·rintro δ M' ⟨sM,hall,y5,y6,y7,y8,y9,rfl⟩
   refine fin true _ sM ?_
   obtain ⟨v,hv⟩:=bR hz
   unfold aD.phone at hv
   have h1:v.1=z:=by simpa using List.find?_some hv
   have:=hall (bb v) (List.mem_map.mpr ⟨v,List.mem_of_find?_eq_some hv,rfl⟩) v rfl h1
   rw [eb]
   rcases this with z1 | z1 <;> rw [z1]
   ·rfl
   ·simp
end
end Z
namespace Z
open PySem PySem.Spec PyProof.Rows L2 L3
def zg:Sp3:=fun ds M Q=>∃ x,ds=[.bl x,.bl x]∧Q (.bl true) M
def eB (vs:List bZ):List (Str × Int):=vs.map fun v=>(v.1,v.2.2)
theorem qg (l:aD) (x:Str):dR (bA (eB l.phones)) (.inr x)=(l.phone x).map fun v=>D.int v.2.2:=by
 unfold bA eB
 rw [List.map_map]
 exact hW (fun p:bZ=>p.1) (fun p=>D.int p.2.2) x l.phones
theorem vO {l:aD} (nd:l.pn.Nodup) {n:Nat} {v:bZ} (h:l.phones[n]?=some v):pK (eB (l.phones.take n)) v.1 v.2.2=eB (l.phones.take (n + 1)):=by
 unfold pK
 rw [if_neg]
 ·unfold eB
  rw [List.take_add_one,h,List.map_append]
  rfl
 ·intro z
  obtain ⟨p,hp,e⟩:=List.any_eq_true.mp z
  obtain ⟨u,hu,rfl⟩:=List.mem_map.mp hp
  have e:u.1=v.1:=of_decide_eq_true e
  obtain ⟨i,hi,ei⟩:=List.getElem_of_mem hu
  have hi':i < n∧i < l.phones.length:=by rw [List.length_take] at hi; omega
  have ei:l.phones[i]?=some u:=by
   rw [List.getElem_take] at ei
   rw [List.getElem?_eq_getElem hi'.2,ei]
  have:=pT (f:=fun p:bZ=>p.1) nd ei h e
  omega
def uN (a:Ad):Sp3:=fun ds M Q=>∃ A V l d x c z,ds=[.ref A.b,d,.str x,.str c,.str z]∧iF M l d∧Rd a M A V l∧fZ l∧WF l V∧(l.pn).Nodup∧(∀ k∈V.calls,k.ms.length≤100)∧x∈l.pn∧Q (.bl (uC l V x c z)) M
section
variable {P:Program} {w:World} {K:PySem.W.Frag} {mg:Str→Option Value} {base:Heap} {a:Ad}
theorem yE (G:Gl K mg a):Fq P w K mg base 1 a.law_flag zg:=by
 refine aX G.law_flag.toDG qA (fun ds M Q h=>?_) (fun cdv A outer s H E hr=>⟨_,(ai (aw (dB (aH vj rfl G.no_isinstance nC (ae (aa 0 (pv 0)) (ae (BT rfl G.no_bool zn) ag))) (cV (ba (hu9 hr) (aa 0 (pv 0)) (aa 1 (pv 1))))))),?_⟩)
 ·obtain ⟨x,rfl,_⟩:=h
  rfl
 ·rintro ds M Q ⟨x,rfl,q⟩
  refine ⟨fun C z=>(by cases z),af G.ki_bool_bool (wv ⟨M,.refl,?_⟩)⟩
  show Q (.bl (x == x)) M
  rw [beq_self_eq_true]
  exact q
theorem um (G:Gl K mg a):Fq P w K mg base 3 a.law_may_break (uN a):=by
 have C_law_is_busy:=wl (P:=P) (w:=w) (base:=base) G
 refine aX G.law_may_break.toDG bF (fun ds M Q h=>?_) (fun cdv A outer s H E hr=>⟨_,(ah (aE (i:=5) bF.nd rfl (Or.inr rfl) yh)
 (ah (cZ PassesOwn.never rfl (aV (aA (aa 1 (pv 1)) ak)) (d9 (n:=3) rfl (aT (aB (i:=6) bF.nd rfl (Or.inl rfl)) (aT (aB (i:=7) bF.nd rfl (Or.inl rfl)) (aT (aB (i:=8) bF.nd rfl (Or.inl rfl)) dm))))
 (ai (tP (hu9 hr) (aa 5 (pv 5)) (aa 6 (pv 6)) (aa 8 (pv 8)))))
 (ah (aF (W3.b3 (mK (au (hu9 hr) (aa 3 (pv 3)) (aa 2 (pv 2))) (mK (au (hu9 hr) (aa 4 (pv 4)) (aa 2 (pv 2))) (mK (uJ (hu9 hr) (aa 4 (pv 4)) (aa 5 (pv 5))) (ld (fW (e9 (ax C_law_is_busy hr G.law_is_busy (ae (aa 0 (pv 0)) (ae (aa 1 (pv 1)) (ae (aa 3 (pv 3)) (ae (aa 4 (pv 4)) ag))))))))))))
 (ai (aw eJ))
 ay)
 (ah (cZ PassesOwn.never rfl (aV (ap (aa 0 (pv 0)))) (aB (i:=9) bF.nd rfl (Or.inl rfl))
 (ai (aF (W3.b3 (fv (au (hu9 hr) (ap (aa 9 (pv 9))) ao) (d4 (au (hu9 hr) (aa 4 (pv 4)) (ap (aa 9 (pv 9)))))))
 (ai (aw (dB (ba (hu9 hr) (aH bn rfl G.no_len bi (ae (ap (aa 9 (pv 9))) ag)) ak) (cV (ba (hu9 hr) (aH (yU rfl) rfl G.no_max Bp (ae (be rfl (bH (ix:=[none,some 5]) (N':=["_law_name","_law_ranks"]) (by kernel_rfl)) (aV (ap (aa 9 (pv 9)))) (fun C s0 H0 ex=>(aB (i:=0) (show List.Nodup (["_law_name","_law_ranks"]:List Str) by decide +kernel) rfl (Or.inl rfl))) (fun C s0 H0 ex=>bK) (fun C s0 H0 ex=>(fU (hu9 hr) (aa 1 (pv 1)) (aa 0 (pv 0))))) ag)) (fU (hu9 hr) (aa 5 (pv 5)) (aa 2 (pv 2))))))))
 ay)))
 (ai (aw eJ)))))),?_⟩)
 ·obtain ⟨A,V,l,d,x,c,z,rfl,_⟩:=h
  rfl
 ·rintro ds M Q ⟨A,V,l,_,x,c,z,rfl,⟨r1,r2,r3,rfl,m1,m2⟩,rd,g,wf,nd,hms,hx,q⟩
  have hzz:sizeLine=16777216:=sizeLine_eq
  refine fun pd hpd=>?_
  have t0:=L3.Sub.new (c:=.dk []) hpd
  have d0:dkM (am M pd (.dk [])) pd=some []:=j9 aL
  generalize am M pd (.dk [])=M0 at t0 d0 ⊢
  dsimp only [fq]
  refine cut (t:=yW _ _ _) (fun δ M'=>L3.Sub M M'∧dkM M' pd=some (bA (eB l.phones))∧∃ y6 y7 y8,δ=[some (.ref A.b),some (.tup [.ref r1,.ref r2,.ref r3]),some (.str x),some (.str c),some (.str z),some (.ref pd),y6,y7,y8,none]) (fun nx h=>?_) ?_
  ·refine af (t0.lst m1) ?_
   refine dW (l.phones.map bb) (fun pre δ M'=>L3.Sub M M'∧dkM M' pd=some (bA (eB (l.phones.take pre.length)))∧∃ y6 y7 y8,δ=[some (.ref A.b),some (.tup [.ref r1,.ref r2,.ref r3]),some (.str x),some (.str c),some (.str z),some (.ref pd),y6,y7,y8,none]) (fun _ _ M' j=>j.1.lst m1) _ [] _ _ rfl ⟨t0,d0,none,none,none,rfl⟩ ?_ ?_
   ·rintro pre d post e δ M' ⟨sM,dM,y6,y7,y8,rfl⟩ nx2 hnx
    have hd:(l.phones.map bb)[pre.length]?=some d:=by rw [← e]; simp
    rw [List.getElem?_map] at hd
    cases ev:l.phones[pre.length]? with
    | none=>rw [ev] at hd; cases hd
    | some v =>
     rw [ev] at hd
     have hd:bb v=d:=Option.some.inj hd
     subst hd
     have lp:=g.p
     rw [List.length_append,List.length_singleton] at hnx
     refine ⟨rfl,af dM ⟨by unfold bA eB; rw [List.length_map,List.length_map,List.length_take]; omega,?_⟩⟩
     rw [mJ,vO nd ev]
     refine hnx _ _ ⟨fun y cc hy=>?_,j9 aL,_,_,_,rfl⟩
     rw [cR (neM hy hpd)]
     exact sM y cc hy
   ·rintro δ M' ⟨sM,dM,y6,y7,y8,rfl⟩
    rw [List.length_map,List.take_length] at dM
    exact h _ _ ⟨sM,dM,_,_,_,rfl⟩
  rintro δ M1 ⟨s1,d1,y6,y7,y8,rfl⟩
  have rd1:=rd.sub s1
  have fin:∀ (b:Bool) (M2:Mp),L3.Sub M M2→uC l V x c z=b→∃ M'',L3.Sub M'' M2∧Q (.bl b) M'':=fun b M2 s e=>⟨M,s,e ▸ q⟩
  have hin:(dR (bA (eB l.phones)) (.inr z)).isSome=hasS l.pn z:=by
   rw [qg,Option.isSome_map,Bool.eq_iff_iff,dg]
   constructor
   ·intro h
    obtain ⟨v,hv⟩:=Option.isSome_iff_exists.mp h
    unfold aD.phone at hv
    have h1:v.1=z:=by simpa using List.find?_some hv
    exact h1 ▸ List.mem_map.mpr ⟨v,List.mem_of_find?_eq_some hv,rfl⟩
   ·intro h
    obtain ⟨v,hv⟩:=bR h
    rw [hv]
    rfl
  refine cut (t:=vH _ _ _) (fun δ M'=>M1=M'∧uC l V x c z=((nW V z).elim false fun k=>(k.ms.length == 2) && qZ l x k.ms)∧δ=[some (.ref A.b),some (.tup [.ref r1,.ref r2,.ref r3]),some (.str x),some (.str c),some (.str z),some (.ref pd),y6,y7,y8,none]) (fun nx h=>?_) ?_
  ·unfold uC at fin h
   refine bo (c:=!(c == x)) (fun h1=>fin false _ s1 (by rw [h1]; rfl)) (fun h1=>?_)
   refine bo (c:=z == x) (fun h2=>fin false _ s1 (by rw [h2]; simp)) (fun h2=>?_)
   refine af d1 ?_
   show if (!(dR (bA (eB l.phones)) (.inr z)).isSome)=true then _ else _
   rw [hin]
   rw [show (!(c == x))=false from Bool.eq_false_iff.mpr h1,show (z == x)=false from Bool.eq_false_iff.mpr h2] at fin h
   refine bo (c:=!(hasS l.pn z)) (fun h3=>fin false _ s1 (by rw [h3]; rfl)) (fun h3=>?_)
   have hz:z∈l.pn:=dg.mp (by simpa using h3)
   rw [show (!(hasS l.pn z))=false from Bool.eq_false_iff.mpr h3] at fin h
   refine ⟨A,V,l,_,c,z,rfl,⟨r1,r2,r3,rfl,s1.lst m1,s1.lst m2⟩,rd1,g,wf,nd,hz,?_⟩
   refine bo (c:=!(gL l V c z)) (fun h4=>fin false _ s1 (by rw [h4]; rfl)) (fun h4=>?_)
   refine h _ _ ⟨rfl,?_,rfl⟩
   rw [show (!(gL l V c z))=false from Bool.eq_false_iff.mpr h4]
   rfl
  rintro δ _ ⟨rfl,ef,rfl⟩
  rw [ef] at fin
  have gk:∀ y∈l.pn,dR (bA (eB l.phones)) (.inr y)=some (.int (cN l y)):=fun y hy=>by
   obtain ⟨v,hv⟩:=bR hy
   rw [qg,hv,pf hv]
   rfl
  refine aj rd1.bd.at_ (af rfl (af rd1.bd.ca ?_))
  refine dW (A.cs.map fun k=>D.ref k.p) (fun pre δ M'=>M1=M'∧(∀ k∈V.calls.take pre.length,k.talksB z=false)∧∃ y9,δ=[some (.ref A.b),some (.tup [.ref r1,.ref r2,.ref r3]),some (.str x),some (.str c),some (.str z),some (.ref pd),y6,y7,y8,y9]) (fun _ _ M' j=>by rw [← j.1]; exact rd1.bd.ca) _ [] _ _ rfl ⟨rfl,(fun k hk=>by cases hk),none,rfl⟩ ?_ ?_
  ·rintro pre d post e δ M' ⟨rfl,hpre,y9,rfl⟩ nx2 hnx
   obtain ⟨ka,k,e1,e2,rfl,hc,et⟩:=fR rd1.bd e
   obtain ⟨ad,md,f1,f2,f3,f4,_⟩:=hc
   rw [List.length_append,List.length_singleton,et] at hnx
   have skip:k.talksB z=false→nx2 [some (.ref A.b),some (.tup [.ref r1,.ref r2,.ref r3]),some (.str x),some (.str c),some (.str z),some (.ref pd),y6,y7,y8,some (.ref ka.p)] M1:=fun h=>hnx _ _ ⟨rfl,fun k' hk'=>by
    rcases List.mem_append.mp hk' with w1 | w1
    ·exact hpre k' w1
    ·rw [List.mem_singleton.mp w1]; exact h,_,rfl⟩
   refine aj f1 (af rfl ?_)
   refine bo (c:=k.st == "talks") (fun h1=>?_) (fun h1=>skip (by unfold ar.talksB; rw [show (k.st == "talks")=false from Bool.eq_false_iff.mpr h1]; rfl))
   refine aj f1 (af rfl (af f4 ⟨rfl,bt k.ms,?_⟩))
   show if inD (.str z) (k.ms.map D.str)=true then _ else _
   rw [dj]
   refine bo (c:=hasS k.ms z) (fun h2=>?_) (fun h2=>skip (by unfold ar.talksB; rw [show hasS k.ms z=false from Bool.eq_false_iff.mpr h2,Bool.and_false]))
   have tk:k.talksB z=true:=by unfold ar.talksB; rw [h1,h2]; rfl
   have tc:nW V z=some k:=by
    unfold nW
    have hv:V.calls=V.calls.take pre.length ++ k :: V.calls.drop (pre.length + 1):=by
     rw [show k :: V.calls.drop (pre.length + 1)=[k] ++ V.calls.drop (pre.length + 1) from rfl,← List.append_assoc,← et,List.take_append_drop]
    rw [hv,List.find?_append,show (V.calls.take pre.length).find? (fun c=>c.talksB z)=none from List.find?_eq_none.mpr fun k' hk'=>by rw [hpre k' hk']; exact Bool.false_ne_true,Option.none_or,List.find?_cons,tk]
   rw [tc] at fin
   have fin:∀ (b:Bool) (M2:Mp),L3.Sub M M2→((k.ms.length == 2) && qZ l x k.ms)=b→∃ M'',L3.Sub M'' M2∧Q (.bl b) M'':=fin
   have kms:=(wf.ok k (aZ e2)).ms
   have k100:=hms k (aZ e2)
   refine aj f1 (af rfl (af f4 ?_))
   have el:((((k.ms.map D.str).length:Nat):Int) == 2)=(k.ms.length == 2):=by
    rw [List.length_map,Bool.eq_iff_iff,beq_iff_eq,beq_iff_eq]
    omega
   show if ((((k.ms.map D.str).length:Nat):Int) == 2)=true then _ else _
   rw [el]
   refine bo (c:=k.ms.length == 2) (fun h5=>?_) (fun h5=>fin false _ s1 (by rw [show (k.ms.length == 2)=false from Bool.eq_false_iff.mpr h5]; rfl))
   rw [h5] at fin
   refine aj f1 (af rfl (af f4 (br (f:=fun d=>match d with | .str m=>.int (cN l m) | _=>.non) f4 _ [] _ (by rw [List.length_map]; show 0 + k.ms.length≤sizeLine; omega) (fun d hd k0 hk=>?_) fun p1 hp1=>?_)))
   ·obtain ⟨m,hmm,rfl⟩:=List.mem_map.mp hd
    exact af d1 (af (gk m (kms m hmm)) hk)
   ·have em:[] ++ (k.ms.map D.str).map (fun d=>match d with | .str m=>.int (cN l m) | _=>.non)=(k.ms.map (cN l)).map D.int:=by
     rw [List.nil_append,List.map_map,List.map_map]
     rfl
    rw [em]
    have t:=L3.Sub.new (c:=.lst ((k.ms.map (cN l)).map D.int)) hp1
    refine ⟨k.ms.map (cN l),av,by rw [List.length_map]; have:=eq_of_beq h5; omega,fun m hm hle=>?_⟩
    refine af (t.dk d1) (af (gk x hx) (fin _ _ (s1.trans t) ?_))
    show qZ l x k.ms=decide (m < cN l x)
    unfold qZ
    rw [Bool.eq_iff_iff,List.all_eq_true,decide_eq_true_eq]
    constructor
    ·intro h
     obtain ⟨y,hy,rfl⟩:=List.mem_map.mp hm
     exact of_decide_eq_true (h y hy)
    ·intro h y hy
     exact decide_eq_true (Int.lt_of_le_of_lt (hle _ (List.mem_map.mpr ⟨y,hy,rfl⟩)) h)
  ·rintro δ M' ⟨rfl,hall,y9,rfl⟩
   rw [List.length_map,rd1.bd.len,List.take_length] at hall
   refine fin false _ s1 ?_
   unfold nW
   rw [List.find?_eq_none.mpr fun k hk=>by rw [hall k hk]; exact Bool.false_ne_true]
   rfl
end
end Z
namespace Z
open PySem PySem.Spec PyProof.Rows L2 L3
def qC (a:Ad):Sp3:=fun ds M Q=>∃ A V l d ro rn own nms,ds=[.ref A.b,d,.ref ro,.ref rn]∧iF M l d∧Rd a M A V l∧fZ l∧WF l V∧(l.pn).Nodup∧(∀ k∈V.calls,k.ms.length≤100)∧lstM M ro=some (List.map D.str own)∧lstM M rn=some (List.map D.str nms)∧(∀ x∈own,x∈l.pn)∧Q (.bl true) M
theorem sE {ss:List Str} {pre post:List D} {d:D} (e:pre ++ d :: post=ss.map D.str):∃ x∈ss,d=.str x:=by
 have hd:d∈ss.map D.str:=by rw [← e]; simp
 obtain ⟨x,hx,rfl⟩:=List.mem_map.mp hd
 exact ⟨x,hx,rfl⟩
section
variable {P:Program} {w:World} {K:PySem.W.Frag} {mg:Str→Option Value} {base:Heap} {a:Ad}
theorem vA (G:Gl K mg a):Fq P w K mg base 7 a.law_right (qC a):=by
 have C_wish_of:=rY (P:=P) (w:=w) (base:=base) G
 have C_law_may_break:=um (P:=P) (w:=w) (base:=base) G
 have C_law_flag:=yE (P:=P) (w:=w) (base:=base) G
 have C_Breaks_fits:=yG (P:=P) (w:=w) (base:=base) G
 refine aX G.law_right.toDG cF (fun ds M Q h=>?_) (fun cdv A outer s H E hr=>⟨_,(ah (cZ PassesOwn.never rfl (aV (aa 2 (pv 2))) (aB (i:=4) cF.nd rfl (Or.inl rfl))
 (ah (aE (i:=5) cF.nd rfl (Or.inl rfl) (ax C_wish_of hr G.wish_of (ae (aI (ae ao (ae (aa 4 (pv 4)) ag))) ag)))
 (ai (cZ PassesOwn.never rfl (aV (aa 2 (pv 2))) (aB (i:=6) cF.nd rfl (Or.inl rfl))
 (ai (cZ PassesOwn.never rfl (aV (aa 3 (pv 3))) (aB (i:=7) cF.nd rfl (Or.inl rfl))
 (ah (aE (i:=8) cF.nd rfl (Or.inl rfl) (ax C_law_may_break hr G.law_may_break (ae (aa 0 (pv 0)) (ae (aa 1 (pv 1)) (ae (aa 4 (pv 4)) (ae (aa 6 (pv 6)) (ae (aa 7 (pv 7)) ag)))))))
 (ai (aF (fW (e9 (ax C_law_flag hr G.law_flag (ae (aJ (aa 5 (pv 5)) G.c_Breaks.toCls G.Breaks_fits C_Breaks_fits hr (ae (aa 0 (pv 0)) (ae (aa 6 (pv 6)) (ae (aa 7 (pv 7)) ag)))) (ae (aa 8 (pv 8)) ag)))))
 (ai (aw eJ))
 ay)))))))))
 (ai (aw eJ))),?_⟩)
 ·obtain ⟨A,V,l,d,ro,rn,own,nms,rfl,_⟩:=h
  rfl
 ·rintro ds M Q ⟨A,V,l,d,ro,rn,own,nms,rfl,md,rd,g,wf,nd,hms,lo,ln,hin,q⟩
  refine af lo ?_
  refine dW (own.map D.str) (fun pre δ M'=>L3.Sub M M'∧∃ y4 y5 y6 y7 y8,δ=[some (.ref A.b),some d,some (.ref ro),some (.ref rn),y4,y5,y6,y7,y8]) (fun _ _ M' j=>j.1.lst lo) _ [] _ _ rfl ⟨.refl,none,none,none,none,none,rfl⟩ ?_ ?_
  rotate_left
  ·rintro δ M' ⟨sM,y4,y5,y6,y7,y8,rfl⟩
   exact ⟨M,sM,q⟩
  rintro pre _ post e δ M1 ⟨s1,y4,y5,y6,y7,y8,rfl⟩ nx1 hnx1
  obtain ⟨x,hx,rfl⟩:=sE e
  refine ⟨few rfl,x,rfl,fun p hp=>?_⟩
  have t:=L3.Sub.new (c:=.ins a.c_Breaks (eR x)) hp
  have hw:am M1 p (.ins a.c_Breaks (eR x)) p=some (.ins a.c_Breaks (eR x)):=aL
  have s2:=s1.trans t
  generalize am M1 p (.ins a.c_Breaks (eR x))=M2 at hw s2 ⊢
  refine af (s2.lst lo) ?_
  refine dW (own.map D.str) (fun pre δ M'=>M2=M'∧∃ y6 y7 y8,δ=[some (.ref A.b),some d,some (.ref ro),some (.ref rn),some (.str x),some (.ref p),y6,y7,y8]) (fun _ _ M' j=>by rw [← j.1]; exact s2.lst lo) _ [] _ _ rfl ⟨rfl,_,_,_,rfl⟩ ?_ ?_
  rotate_left
  ·rintro δ M' ⟨rfl,y6,y7,y8,rfl⟩
   exact hnx1 _ _ ⟨s2,_,_,_,_,_,rfl⟩
  rintro pre _ post e δ M' ⟨rfl,y6,y7,y8,rfl⟩ nx2 hnx2
  obtain ⟨c,hc,rfl⟩:=sE e
  refine af (s2.lst ln) ?_
  refine dW (nms.map D.str) (fun pre δ M'=>M2=M'∧∃ y7 y8,δ=[some (.ref A.b),some d,some (.ref ro),some (.ref rn),some (.str x),some (.ref p),some (.str c),y7,y8]) (fun _ _ M' j=>by rw [← j.1]; exact s2.lst ln) _ [] _ _ rfl ⟨rfl,_,_,rfl⟩ ?_ ?_
  rotate_left
  ·rintro δ M' ⟨rfl,y7,y8,rfl⟩
   exact hnx2 _ _ ⟨rfl,_,_,_,rfl⟩
  rintro pre _ post e δ M' ⟨rfl,y7,y8,rfl⟩ nx3 hnx3
  obtain ⟨z,hz,rfl⟩:=sE e
  refine ⟨A,V,l,d,x,c,z,rfl,md.sub s2,rd.sub s2,g,wf,nd,hms,hin x hx,?_⟩
  refine aj hw ⟨rfl,_,⟨rfl,rfl⟩,p,x,A,V,l,c,z,rfl,hw,rd.sub s2,g,wf,hms,hin x hx,_,rfl,?_⟩
  exact zx (hnx3 _ _ ⟨rfl,_,_,rfl⟩)
end
end Z
namespace Z
open PySem PySem.Spec PyProof.Rows L2 L3
def oQ (c:ar):D:=.tup [.str c.st,.str c.cr,.tup (c.way.map D.str),.tup (c.at_.map D.str),.tup (c.ms.map D.str),hdD c.hd,.int c.si,c.wd]
def qv (V:BdV):D:=.tup [.int V.t,.tup (V.calls.map oQ),.tup ((cA V.ps).map kl),.tup []]
def ya (a:Ad):Sp3:=fun ds M Q=>∃ L k c,ds=[.ref k.p]∧bQ a M L k c∧Q (oQ c) M
def iE (a:Ad):Sp3:=fun ds M Q=>∃ A V,ds=[.ref A.b]∧az a M A V∧V.calls.length≤10000∧V.ps.length≤3∧Q (qv V) M
section
variable {P:Program} {w:World} {K:PySem.W.Frag} {mg:Str→Option Value} {base:Heap} {a:Ad}
theorem yd (G:Gl K mg a):Fq P w K mg base 1 a.call_picture (ya a):=by
 refine aX G.call_picture.toDG fY (fun ds M Q h=>?_) (fun cdv A outer s H E hr=>⟨_,(ah (aE (i:=1) fY.nd rfl (Or.inl rfl) (aI (ae (aP bU rfl G.no_tuple bT (ae (ap (aa 0 (pv 0))) ag)) (ae (aP bU rfl G.no_tuple bT (ae (ap (aa 0 (pv 0))) ag)) (ae (aP bU rfl G.no_tuple bT (ae (ap (aa 0 (pv 0))) ag)) ag)))))
 (ai (aw (aS (aS (aI (ae (ap (aa 0 (pv 0))) (ae (ap (aa 0 (pv 0))) ag))) (aa 1 (pv 1))) (aI (ae (ap (aa 0 (pv 0))) (ae (ap (aa 0 (pv 0))) (ae (ap (aa 0 (pv 0))) ag)))))))),?_⟩)
 ·obtain ⟨L,k,c,rfl,_⟩:=h
  rfl
 ·rintro ds M Q ⟨L,k,c,rfl,⟨ad,md,h1,h2,h3,h4,_⟩,q⟩
  have hz:sizeLine=16777216:=sizeLine_eq
  refine aj h1 (af rfl (af h2 (aj h1 (af rfl (af h3 (aj h1 (af rfl (af h4 ⟨few rfl,?_⟩))))))))
  refine aj h1 (af rfl (aj h1 (af rfl ⟨few rfl,List.cons_ne_nil _ _,by show 2 + 3≤sizeLine; omega,?_⟩)))
  exact aj h1 (af rfl (aj h1 (af rfl (aj h1 (af rfl ⟨few rfl,List.cons_ne_nil _ _,by show 5 + 3≤sizeLine; omega,M,.refl,q⟩)))))
theorem rL (G:Gl K mg a):Fq P w K mg base 2 a.picture (iE a):=by
 have C_call_picture:=yd (P:=P) (w:=w) (base:=base) G
 refine aX G.picture.toDG mz (fun ds M Q h=>?_) (fun cdv A outer s H E hr=>⟨_,(ah (aE (i:=1) mz.nd rfl (Or.inl rfl) (aP bU rfl G.no_tuple bT (ae (be rfl (bH (ix:=[none]) (N':=["call"]) (by kernel_rfl)) (aV (ap (aa 0 (pv 0)))) (fun C s0 H0 ex=>(aB (i:=0) (show List.Nodup (["call"]:List Str) by decide +kernel) rfl (Or.inl rfl))) (fun C s0 H0 ex=>bK) (fun C s0 H0 ex=>(ax C_call_picture hr G.call_picture (ae (aa 0 (pv 0)) ag)))) ag)))
 (ai (aw (aI (ae (ap (aa 0 (pv 0))) (ae (aa 1 (pv 1)) (ae (aP bU rfl G.no_tuple bT (ae (oK rfl (ap (aa 0 (pv 0))) rfl G.no_sorted) ag)) (ae (aP bU rfl G.no_tuple bT (ae (ap (aa 0 (pv 0))) ag)) ag)))))))),?_⟩)
 ·obtain ⟨A,V,rfl,_⟩:=h
  rfl
 ·rintro ds M Q ⟨A,V,rfl,bd,h1000,h3,q⟩
  have hz:sizeLine=16777216:=sizeLine_eq
  refine aj bd.at_ (af rfl (af bd.ca ?_))
  refine jq (A.cs.map fun k=>D.ref k.p) (fun pre acc δ M'=>M=M'∧acc=(V.calls.take pre.length).map oQ∧∃ y,δ=[y]) (fun _ _ _ M' j=>by rw [← j.1]; exact bd.ca) _ [] [] _ _ rfl ?_ ⟨rfl,rfl,none,rfl⟩ ?_ ?_
  ·rw [List.length_map,bd.len]
   simp only [List.length_nil]
   omega
  ·rintro pre d post e acc δ M' ⟨rfl,rfl,y,rfl⟩ k hk
   obtain ⟨ka,c,e1,e2,rfl,hc,et⟩:=fR bd e
   refine ⟨_,ka,c,rfl,hc,hk _ _ _ ⟨rfl,?_,_,rfl⟩⟩
   rw [List.length_append,List.length_singleton,et,List.map_append]
   rfl
  ·rintro acc δ M' ⟨rfl,rfl,y,rfl⟩ p1 hp1
   rw [List.length_map,bd.len,List.take_length]
   refine af av ?_
   have s1:=L3.Sub.new (c:=.lst (V.calls.map oQ)) hp1
   generalize am M p1 (.lst (V.calls.map oQ))=M1 at s1 ⊢
   refine aj (s1 _ _ bd.at_) (af rfl (aj (s1 _ _ bd.at_) (af rfl ⟨V.ps,s1.dk bd.nx,h3,fun S hS=>af av ?_⟩)))
   have s2:=s1.trans (L3.Sub.new (c:=.lst ((cA V.ps).map kl)) hS)
   generalize am M1 S (.lst ((cA V.ps).map kl))=M2 at s2 ⊢
   exact aj (s2 _ _ bd.at_) (af rfl (af (s2.lst bd.on) ⟨few rfl,M,s2,q⟩))
end
end Z
namespace Z
open PySem PySem.Spec PyProof.Rows L2 L3
seal L3.E3 L3.B3 L3.A3 L3.S3 L3.Ss3
def vK:Sp3:=fun ds M Q=>∃ ns:List Int,ds=[.rl (ns.map D.int)]∧ns.length≤63∧Q (.bl true) M
def nq (ns:List Int) (sd:Int) (r1 r2 md rn b:Option D) (y:List (Option D)):DSt:=some (.rl (ns.map D.int)) :: some (.int sd) :: r1 :: r2 :: md :: rn :: b :: y
theorem zh {es pre post:List D} {d:D} (e:pre ++ d :: post=gi 0 es):∃ x,es[pre.length]?=some x∧d=.tup [.int (pre.length:Nat),x]:=by
 have h:(gi 0 es)[pre.length]?=some d:=by rw [← e]; simp
 rw [mM] at h
 cases q:es[pre.length]? with
 | none=>rw [q] at h; cases h
 | some x =>
  rw [q] at h
  refine ⟨x,rfl,?_⟩
  have:=(Option.some.inj h).symm
  rw [Nat.zero_add] at this
  exact this
theorem xB {l:aD} (ok:mL l):fZ l:=by
 refine ⟨fun z hz=>List.find?_eq_none.mpr fun g hg e=>?_,Nat.le_trans ok.p8 (by decide),Nat.le_trans ok.g3 (by decide)⟩
 have e:g.1=z:=by simpa using e
 exact (List.nodup_append.mp ok.nd).2.2 z hz g.1 (List.mem_map.mpr ⟨g,hg,rfl⟩) e.symm
theorem u7 {A A':BdA} {M M':Mp} {x:Addr} {c:fB} (st:bL A M A' M') (h:x ∉ A.foot) (hx:M x=some c):x ∉ A'.foot:=fun z=>by
 rcases st.2.1 x z with y | y
 ·exact h y
 ·rw [hx] at y; cases y
theorem yi {c:ar} (n:Nat) (h:c.wd=.non∨∃ x,c.wd=.str x):ce n c.wd=true:=by
 rcases h with h | ⟨x,h⟩ <;> (rw [h]; cases n <;> rfl)
theorem vJ {V:BdV} {n:Nat} (g:jA V n):ce 7 (qv V)=true:=by
 have t:∀ (n:Nat) (ss:List Str),ce (n + 1) (.tup (ss.map D.str))=true:=fun n ss=>jT n ss
 have c1:∀ c∈V.calls,ce 5 (oQ c)=true:=fun c hc=>by
  have h1:∀ n:Nat,ce n (hdD c.hd)=true:=fun n=>by cases c.hd <;> (cases n <;> rfl)
  show ([D.str c.st,.str c.cr,.tup (c.way.map D.str),.tup (c.at_.map D.str),.tup (c.ms.map D.str),hdD c.hd,.int c.si,c.wd].all (ce 4))=true
  simp only [List.all_cons,t,h1,yi 4 (g.wp c hc)]
  rfl
 have c2:ce 6 (.tup (V.calls.map oQ))=true:=by
  show (V.calls.map oQ).all (ce 5)=true
  rw [List.all_map,List.all_eq_true]
  exact c1
 have c3:ce 6 (.tup ((cA V.ps).map L3.kl))=true:=by
  show ((cA V.ps).map L3.kl).all (ce 5)=true
  rw [List.all_map,List.all_eq_true]
  exact fun x _=>rfl
 show ([D.int V.t,.tup (V.calls.map oQ),.tup ((cA V.ps).map L3.kl),.tup []].all (ce 6))=true
 simp only [List.all_cons,c2,c3]
 rfl
theorem u4 {M:Mp} {V:BdV} {n:Nat} {p q:Addr} (g:jA V n) (h1:lstM M p=some V.log) (h2:lstM M q=some V.log):eqD M 9 (.tup [qv V,.ref p]) (.tup [qv V,.ref q])=some true:=by
 have e1:eqD M 8 (qv V) (qv V)=some true:=mO 7 _ (vJ g)
 have e2:eqD M 8 (.ref p) (.ref q)=some true:=u6 h1 h2 fun d hd=>mO 6 d (g.lp d hd)
 show ((eqD M 8 (qv V) (qv V)).bind fun p'=>((eqD M 8 (.ref p) (.ref q)).bind fun p=>(some true).map fun q=>p && q).map fun q=>p' && q).map (fun p=>p && true)=some true
 rw [e1,e2]
 rfl
structure Ao (a:Ad) (M0 M:Mp) (b r5:Addr) (s:Int) (ps:List (Str × Int)) (L:List D) (m:Nat):Prop where
 ex:∃ A V n,St a M0 M b A V (cP s) n ps∧n≤3 + 35 * m∧r5 ∉ A.foot
 l5:lstM M r5=some L
section
variable {P:Program} {w:World} {K:PySem.W.Frag} {mg:Str→Option Value} {base:Heap} {a:Ad}
theorem Bt (G:Gl K mg a):Fq P w K mg base 15 a.law vK:=by
 have C_law_at:=Cy (P:=P) (w:=w) (base:=base) G
 have C_law_phones:=sV (P:=P) (w:=w) (base:=base) G
 have C_law_groups:=r0 (P:=P) (w:=w) (base:=base) G
 have C_law_talks:=wa (P:=P) (w:=w) (base:=base) G
 have C_law_right:=vA (P:=P) (w:=w) (base:=base) G
 have C_picture:=rL (P:=P) (w:=w) (base:=base) G
 have C_Board_init:=vN (P:=P) (w:=w) (base:=base) G
 have C_Plan_init:=yS (P:=P) (w:=w) (base:=base) G
 refine aX G.law.toDG fA (fun ds M Q h=>?_) (fun cdv A outer s H E hr=>⟨_,(ah (aE (i:=1) fA.nd rfl (Or.inl rfl) (ax C_law_at hr G.law_at (ae (aa 0 (pv 0)) (ae ak ag))))
 (ah (aE (i:=2) fA.nd rfl (Or.inl rfl) (ax C_law_phones hr G.law_phones (ae (aa 1 (pv 1)) (ae ak ag))))
 (ah (fT (i:=3) fA.nd rfl (Or.inl rfl) rfl (bH (ix:=[none]) (N':=["_law_phone"]) (by kernel_rfl)) (aV (aa 2 (pv 2))) (fun C s0 H0 ex=>(aB (i:=0) (show List.Nodup (["_law_phone"]:List Str) by decide +kernel) rfl (Or.inl rfl))) (fun C s0 H0 ex=>bK) (fun C s0 H0 ex=>(aA (aa 0 (pv 0)) ak)))
 (ah (aE (i:=4) fA.nd rfl (Or.inl rfl) (aI (ae (aa 2 (pv 2)) (ae (ax C_law_groups hr G.law_groups (ae (aa 1 (pv 1)) (ae (aa 3 (pv 3)) ag))) (ae (bY ag) ag)))))
 (ah (aE (i:=5) fA.nd rfl (Or.inl rfl) (aS (aa 3 (pv 3)) (be rfl (bH (ix:=[none]) (N':=["_law_group"]) (by kernel_rfl)) (aV (aA (aa 4 (pv 4)) ak)) (fun C s0 H0 ex=>(aB (i:=0) (show List.Nodup (["_law_group"]:List Str) by decide +kernel) rfl (Or.inl rfl))) (fun C s0 H0 ex=>bK) (fun C s0 H0 ex=>(aA (aa 0 (pv 0)) ak)))))
 (ah (aE (i:=6) fA.nd rfl (Or.inl rfl) (pD C_Board_init hr G.c_Board G.i_Board G.Board_init.toDG (ae (pD C_Plan_init hr G.c_Plan G.i_Plan G.Plan_init.toDG (ae (aA (aa 4 (pv 4)) ak) (ae (aA (aa 4 (pv 4)) ak) (ae (aA (aa 4 (pv 4)) ak) ag)))) (ae (aS (aa 1 (pv 1)) ak) ag))))
 (ah (cZ PassesOwn.never rfl (jo rfl G.no_enumerate (ae (aS (cq (aa 0 (pv 0)) cY (di ak)) (bY (ae ak ag))) ag)) (d9 (n:=2) rfl (aT (aB (i:=7) fA.nd rfl (Or.inl rfl)) (aT (aB (i:=8) fA.nd rfl (Or.inl rfl)) dm)))
 (ah (aC (ax C_law_talks hr G.law_talks (ae (aa 6 (pv 6)) (ae (aS (aa 8 (pv 8)) (aS (aS ak (aa 7 (pv 7))) (aa 7 (pv 7)))) (ae (aa 3 (pv 3)) ag)))))
 (ai (aF (W3.b3 (mK (au (hu9 hr) (aS (aa 7 (pv 7)) ak) ak) (ld (au (hu9 hr) (aa 7 (pv 7)) (aH bn rfl G.no_len bi (ae (cq (aa 0 (pv 0)) cY (di ak)) ag))))))
 (ah (aE (i:=9) fA.nd rfl (Or.inl rfl) (aI (ae (ax C_picture hr G.picture (ae (aa 6 (pv 6)) ag)) (ae (aP dH rfl G.no_list dN (ae (ap (aa 6 (pv 6))) ag)) ag))))
 (ai (aF (W3.b3 (mK (fW (e9 (ax C_law_right hr G.law_right (ae (aa 6 (pv 6)) (ae (aa 4 (pv 4)) (ae (aa 3 (pv 3)) (ae (aa 5 (pv 5)) ag))))))) (ld (au (hu9 hr) (aI (ae (ax C_picture hr G.picture (ae (aa 6 (pv 6)) ag)) (ae (ap (aa 6 (pv 6))) ag))) (aa 9 (pv 9))))))
 (ai (aw eJ))
 ay)))
 ay))))
 (ai (aw eJ))))))))),?_⟩)
 ·obtain ⟨ns,rfl,_⟩:=h
  rfl
 ·rintro ds M Q ⟨ns,rfl,hl,q⟩
  have hz:sizeLine=16777216:=sizeLine_eq
  refine cut (t:=jW _ _) (fun δ M'=>M=M'∧∃ sd:Int,δ=nq ns sd none none none none none [none,none,none]) (fun nx h=>⟨ns,0,rfl,h _ _ ⟨rfl,_,rfl⟩⟩) ?_
  rintro δ _ ⟨rfl,sd,rfl⟩
  obtain ⟨ond,o2,o8⟩:=jQ sd
  have one:dU sd ≠ []:=fun z=>by rw [z] at o2; cases o2
  have pok:=wg sd
  refine cut (t:=jW _ _) (fun δ M'=>L3.Sub M M'∧∃ r1,lstM M' r1=some ((dJ sd 6).map bb)∧δ=nq ns sd (some (.ref r1)) none none none none [none,none,none]) (fun nx h=>⟨sd,6,rfl,by decide,by decide,fun p hp=>h _ _ ⟨.new hp,p,av,rfl⟩⟩) ?_
  rintro δ M1 ⟨s1,r1,h1,rfl⟩
  refine cut (t:=jW _ _) (fun δ M'=>L3.Sub M1 M'∧∃ r2,lstM M' r2=some ((dU sd).map D.str)∧δ=nq ns sd (some (.ref r1)) (some (.ref r2)) none none none [none,none,none]) (fun nx h=>?_) ?_
  ·have ol:(dJ sd 6).length≤8:=pok.p8
   refine af h1 (br (f:=nA) h1 _ [] _ (by rw [List.length_map]; simp only [List.length_nil]; omega) (fun d hd k hk=>?_) fun p hp=>?_)
   ·obtain ⟨x,_,rfl⟩:=List.mem_map.mp hd
    exact hk
   ·rw [List.nil_append,iM]
    exact h _ _ ⟨.new hp,p,av,rfl⟩
  rintro δ M2 ⟨s2,r2,h2,rfl⟩
  refine cut (t:=jW _ _) (fun δ M'=>L3.Sub M2 M'∧∃ rg r3,lstM M' rg=some ((dI sd).map bp)∧lstM M' r3=some []∧δ=nq ns sd (some (.ref r1)) (some (.ref r2)) (some (.tup [.ref r1,.ref rg,.ref r3])) none none [none,none,none]) (fun nx h=>?_) ?_
  ·refine ⟨sd,r2,dU sd,rfl,h2,one,by omega,fun rg hrg=>⟨few rfl,fun r3 hr3=>⟨few rfl,h _ _ ⟨(L3.Sub.new hrg).trans (.new hr3),rg,r3,(L3.Sub.new hr3).lst av,av,rfl⟩⟩⟩⟩
  rintro δ M3 ⟨s3,rg,r3,h3,h3',rfl⟩
  refine cut (t:=jW _ _) (fun δ M'=>L3.Sub M3 M'∧∃ rn nms,lstM M' rn=some (List.map D.str nms)∧δ=nq ns sd (some (.ref r1)) (some (.ref r2)) (some (.tup [.ref r1,.ref rg,.ref r3])) (some (.ref rn)) none [none,none,none]) (fun nx h=>?_) ?_
  ·have ol:(dI sd).length≤3:=pok.g3
   refine af h3 (br (f:=nA) h3 _ [] _ (by rw [List.length_map]; simp only [List.length_nil]; omega) (fun d hd k hk=>?_) fun p hp=>?_)
   ·obtain ⟨x,_,rfl⟩:=List.mem_map.mp hd
    exact hk
   ·rw [List.nil_append,iQ]
    have t:=L3.Sub.new (c:=.lst (((dI sd).map (·.1)).map D.str)) hp
    refine af (t.lst (s3.lst h2)) (af av ⟨by rw [List.length_map,List.length_map,List.length_map]; omega,fun p2 hp2=>h _ _ ⟨t.trans (.new hp2),p2,dU sd ++ (dI sd).map (·.1),?_,rfl⟩⟩)
    rw [av,List.map_append]
  rintro δ M4 ⟨s4,rn,nms,h4,rfl⟩
  have h1':lstM M4 r1=some ((cP sd).phones.map bb):=s4.lst (s3.lst (s2.lst h1))
  have h4':lstM M4 rg=some ((cP sd).groups.map bp):=s4.lst h3
  have s04:L3.Sub M M4:=s1.trans (s2.trans (s3.trans s4))
  refine cut (t:=jW _ _) (fun δ M'=>∃ M0 A p b,Cur a M0 M' b A (V0 p (sd % 24) (cP sd)) (cP sd) 3∧L3.Sub M4 M0∧δ=nq ns sd (some (.ref r1)) (some (.ref r2)) (some (.tup [.ref r1,.ref rg,.ref r3])) (some (.ref rn)) (some (.ref b)) [none,none,none]) (fun nx h=>?_) ?_
  ·intro p hp
   have t6:=L3.Sub.new (c:=.ins a.c_Plan []) hp
   refine ⟨p,r1,rg,r3,cP sd,rfl,aL,t6.lst h1',t6.lst h4',t6.lst (s4.lst h3'),pok,fun M0 kp pl _=>⟨rfl,by decide,fun b hb=>?_⟩⟩
   have sM:L3.Sub M4 M0:=fun x c hx=>kp x c (neM hx hp) (t6 x c hx)
   have t7:=L3.Sub.new (c:=.ins a.c_Board []) hb
   have npb:p ≠ b:=fun z=>by
    obtain ⟨_,_,_,_,_,_,i1,_⟩:=pl
    rw [z,hb] at i1
    cases i1
   refine ⟨b,p,sd % 24,cP sd,rfl,aL,pl.sub t7,pok,npb,fun M' A eb k' fr bd=>⟨rfl,?_⟩⟩
   have g3:=pok.g3
   refine h _ _ ⟨M0,A,p,b,⟨⟨bd,pl,fun x c hx=>k' x c (neM hx hb) (t7 x c hx),fun x hx=>?_⟩,eb,⟨(fun c hc=>by cases hc),Nat.zero_le _,Nat.zero_le _,Nat.zero_le _,?_,(fun c hc=>by cases hc),(fun c hc=>by cases hc),(fun c hc=>by cases hc)⟩⟩,sM,rfl⟩
   ·rcases fr x hx with z | z
    ·rw [z]; exact hb
    ·exact t7.none z
   ·show (eQ (cP sd)).length≤3
    unfold eQ
    rw [List.length_map]
    exact Nat.le_trans (List.length_filter_le _ _) g3
  rintro δ M5 ⟨M0,A,p,b,cu,s0,rfl⟩
  have pg:=xB pok
  have g2:lstM M0 r2=some ((dU sd).map D.str):=s0.lst (s4.lst (s3.lst h2))
  have gn:lstM M0 rn=some (nms.map D.str):=s0.lst h4
  have gm:iF M0 (cP sd) (.tup [.ref r1,.ref rg,.ref r3]):=⟨r1,rg,r3,rfl,s0.lst h1',s0.lst h4'⟩
  have pnd:((cP sd).pn).Nodup:=ond
  have hps:(V0 p (sd % 24) (cP sd)).ps.length≤3:=by
   show (eQ (cP sd)).length≤3
   unfold eQ
   rw [List.length_map]
   exact Nat.le_trans (List.length_filter_le _ _) pok.g3
  have fin:∀ M',L3.Sub M0 M'→∃ M'',L3.Sub M'' M'∧Q (.bl true) M'':=fun M' s=>⟨M,s04.trans (s0.trans s),q⟩
  have st0:St a M0 M5 b A (V0 p (sd % 24) (cP sd)) (cP sd) 3 (V0 p (sd % 24) (cP sd)).ps:=⟨cu,⟨(fun c hc=>by cases hc),fun i j ci cj x e=>by simp [V0] at e⟩,rfl⟩
  generalize (V0 p (sd % 24) (cP sd)).ps=ps at st0 hps
  generalize V0 p (sd % 24) (cP sd)=V0' at st0 cu
  refine cut (t:=yW _ _ _) (fun δ M'=>L3.Sub M0 M') (fun nx h=>?_) fun δ M' s=>fin M' s
  intro sl hsl
  rw [show L3.ie (ns.map D.int) none (some (30:Int))=(ns.map D.int).take 30 from sA _ 30]
  have t7:=L3.Sub.new (c:=.lst ((ns.map D.int).take 30)) hsl
  have l7:lstM (am M5 sl (.lst ((ns.map D.int).take 30))) sl=some ((ns.map D.int).take 30):=av
  generalize am M5 sl (.lst ((ns.map D.int).take 30))=M7 at t7 l7 ⊢
  refine ⟨few rfl,fun p8 hp8=>?_⟩
  have t8:=L3.Sub.new (c:=.lst [D.int 2]) hp8
  have l8:lstM (am M7 p8 (.lst [D.int 2])) p8=some [D.int 2]:=av
  generalize am M7 p8 (.lst [D.int 2])=M8 at t8 l8 ⊢
  refine af (t8.lst l7) (af l8 ⟨by rw [List.length_take,List.length_map]; show min 30 ns.length + 1≤sizeLine; omega,fun r5 hr5=>af av ?_⟩)
  have hL:((ns.map D.int).take 30 ++ [D.int 2]).length≤31:=by
   rw [List.length_append,List.length_take,List.length_map]
   show min 30 ns.length + 1≤31
   omega
  have hLi:∀ d∈(ns.map D.int).take 30 ++ [D.int 2],∃ c,d=.int c:=fun d hd=>by
   rcases List.mem_append.mp hd with z | z
   ·obtain ⟨c,_,rfl⟩:=List.mem_map.mp (List.mem_of_mem_take z)
    exact ⟨c,rfl⟩
   ·rw [List.mem_singleton] at z
    exact ⟨2,z⟩
  generalize (ns.map D.int).take 30 ++ [D.int 2]=L at hL hLi ⊢
  have t9:=L3.Sub.new (c:=.lst L) hr5
  have l9:lstM (am M8 r5 (.lst L)) r5=some L:=av
  have s9:=t7.trans (t8.trans t9)
  have n5:r5 ∉ A.foot:=(cu.sub (t7.trans t8)).w.bd.notF hr5
  generalize am M8 r5 (.lst L)=M9 at t9 l9 s9 ⊢
  have i9:Ao a M0 M9 b r5 sd ps L 0:=⟨⟨A,_,3,st0.sub s9,Nat.le_refl _,n5⟩,l9⟩
  refine dW (gi 0 L) (fun pre δ M'=>Ao a M0 M' b r5 sd ps L pre.length∧∃ y7 y8 y9,δ=nq ns sd (some (.ref r1)) (some (.ref r2)) (some (.tup [.ref r1,.ref rg,.ref r3])) (some (.ref rn)) (some (.ref b)) [y7,y8,y9]) (fun _ _ M' j=>j.1.l5) _ [] _ _ rfl ⟨i9,none,none,none,rfl⟩ ?_ ?_
  rotate_left
  ·rintro δ M' ⟨⟨⟨A',V',n',c',_⟩,_⟩,_⟩
   exact h _ _ c'.cu.w.s0
  rintro pre d post e δ M' ⟨⟨⟨A',V,n,st,hn,nr⟩,l5⟩,y7,y8,y9,rfl⟩ nx2 hnx
  obtain ⟨dx,hx,rfl⟩:=zh e
  have pl5:pre.length < 31:=Nat.lt_of_lt_of_le (List.getElem?_eq_some_iff.mp hx).1 hL
  obtain ⟨c0,rfl⟩:=hLi dx (aZ hx)
  have hln:(pre ++ [D.tup [.int (pre.length:Nat),.int c0]]).length=pre.length + 1:=by rw [List.length_append]; rfl
  rw [hln] at hnx
  clear hln
  have c13:mR 13 ((pre.length:Nat):Int):=.inl ⟨by decide,by decide⟩
  have c13':mR (13 * ((pre.length:Nat):Int)) ((pre.length:Nat):Int):=.inr ⟨by omega,by omega⟩
  refine ⟨rfl,?_⟩
  dsimp only [fq,xS,Ag]
  refine cut (t:=v1 _) (fun δ M2=>(∃ A2 V2,St a M0 M2 b A2 V2 (cP sd) (n + 35) ps∧r5 ∉ A2.foot∧lstM M2 r5=some L)∧δ=nq ns sd (some (.ref r1)) (some (.ref r2)) (some (.tup [.ref r1,.ref rg,.ref r3])) (some (.ref rn)) (some (.ref b)) [some (.int (pre.length:Nat)),some (.int c0),y9]) (fun nx h=>?_) ?_
  ·refine ⟨c13,c13',?_⟩
   exact ⟨M0,b,A',V,cP sd,n,ps,_,r2,dU sd,rfl,st,by omega,pg,g2,fun x hx=>hx,one,by omega,fun M2 A2 V2 st2 step=>h _ _ ⟨⟨A2,V2,st2,u7 step nr (aY l5),cx (step.1 r5 _ nr (aY l5))⟩,rfl⟩⟩
  rintro δ M2 ⟨⟨A2,V2,st2,nr2,l52⟩,rfl⟩
  have go:∀ M3,L3.Sub M2 M3→∀ y9,nx2 (nq ns sd (some (.ref r1)) (some (.ref r2)) (some (.tup [.ref r1,.ref rg,.ref r3])) (some (.ref rn)) (some (.ref b)) [some (.int (pre.length:Nat)),some (.int c0),y9]) M3:=fun M3 s y9=>hnx _ _ ⟨⟨⟨A2,V2,n + 35,st2.sub s,by omega,nr2⟩,s.lst l52⟩,_,_,_,rfl⟩
  have hn9:n + 35≤9000:=by omega
  have body:∀ (E':nN) (M3:Mp),E'.nx=nx2→L3.Sub M2 M3→dw (jW (AO (cz (gl (iE a) (cz (v3 6) cO)) (cz (gl wJ (cz (xk "log" (v3 6)) cO)) cO))) (fq 9)) (vH (or3 (CB (b3 (gl (qC a) (cz (v3 6) (cz (v3 4) (cz (v3 3) (cz (v3 5) cO))))))) (b3 (k3 .NotEq (AO (cz (gl (iE a) (cz (v3 6) cO)) (cz (xk "log" (v3 6)) cO))) (v3 9)))) (AJ (c3 (.bl false))) nx3) E' (nq ns sd (some (.ref r1)) (some (.ref r2)) (some (.tup [.ref r1,.ref rg,.ref r3])) (some (.ref rn)) (some (.ref b)) [some (.int (pre.length:Nat)),some (.int c0),y9]) M3:=by
   rintro E' M3 rfl s3
   have st3:=st2.sub s3
   have p3:V2.ps.length≤3:=by rw [st2.ps]; exact hps
   have p4:V2.calls.length≤10000:=Nat.le_trans st2.cu.g.ca (by omega)
   have eb:[D.ref b]=[D.ref A2.b]:=by rw [st2.cu.b]
   refine ⟨A2,V2,eb,st3.cu.w.bd,p4,p3,?_⟩
   refine aj st3.cu.at_ (af rfl (af st3.cu.w.bd.lo fun p1 hp1=>⟨few rfl,?_⟩))
   have t:=L3.Sub.new (c:=.lst V2.log) hp1
   have lp:lstM (am M3 p1 (.lst V2.log)) p1=some V2.log:=av
   generalize am M3 p1 (.lst V2.log)=M4 at t lp ⊢
   have st4:=st3.sub t
   refine ⟨A2,V2,cP sd,_,r2,rn,dU sd,nms,by rw [st2.cu.b],gm.sub st4.cu.w.s0,st4.cu.rd hn9,pg,st4.wf,pnd,fun k hk=>(st4.cu.g.cs k hk).2.2,st4.cu.w.s0.lst g2,st4.cu.w.s0.lst gn,fun x hx=>hx,?_⟩
   refine zx ⟨A2,V2,eb,st4.cu.w.bd,p4,p3,?_⟩
   refine aj st4.cu.at_ (af rfl ⟨few rfl,?_⟩)
   refine af rfl (af (u4 st4.cu.g st4.cu.w.bd.lo lp) (zx ?_))
   exact go M4 (s3.trans t) _
  refine ⟨by decide,?_⟩
  refine bo (c:=((pre.length:Nat):Int) % 3 == 0) (fun _=>wv (body _ M2 rfl .refl)) (fun _=>?_)
  intro p3 hp3
  refine af av (bo (fun _=>?_) (fun _=>?_))
  ·exact body _ _ rfl (.new hp3)
  ·exact go _ (.new hp3) _
end
end Z
def PySem.W.Fast.tw10066042902154601727:Nat:=0
def PySem.W.Fast.tw10083900246242713763:Nat:=0
def PySem.W.Fast.tw101009853994885484:Nat:=0
def PySem.W.Fast.tw10175435677964444659:Nat:=0
def PySem.W.Fast.tw1039684786875599379:Nat:=0
def PySem.W.Fast.tw10463144944886937736:Nat:=0
def PySem.W.Fast.tw10554080272539659369:Nat:=0
def PySem.W.Fast.tw10575833123688836682:Nat:=0
def PySem.W.Fast.tw10972166758914683784:Nat:=0
def PySem.W.Fast.tw10983529835330258913:Nat:=0
def PySem.W.Fast.tw11079769570130068297:Nat:=0
def PySem.W.Fast.tw11088867886135529258:Nat:=0
def PySem.W.Fast.tw11157507751517253617:Nat:=0
def PySem.W.Fast.tw1118048503694590605:Nat:=0
def PySem.W.Fast.tw11239930566450681722:Nat:=0
def PySem.W.Fast.tw11241268607188639902:Nat:=0
def PySem.W.Fast.tw11255058134227597376:Nat:=0
def PySem.W.Fast.tw11273159998499702032:Nat:=0
def PySem.W.Fast.tw11334409857847220514:Nat:=0
def PySem.W.Fast.tw11432331849804684769:Nat:=0
def PySem.W.Fast.tw11493617339444752863:Nat:=0
def PySem.W.Fast.tw11537840103199296077:Nat:=0
def PySem.W.Fast.tw11585561377712156396:Nat:=0
def PySem.W.Fast.tw11659258251640085565:Nat:=0
def PySem.W.Fast.tw11673263511334248268:Nat:=0
def PySem.W.Fast.tw116798520168445290:Nat:=0
def PySem.W.Fast.tw11723977636058113364:Nat:=0
def PySem.W.Fast.tw11763040132491085589:Nat:=0
def PySem.W.Fast.tw11814584721062700375:Nat:=0
def PySem.W.Fast.tw11872451236511991056:Nat:=0
def PySem.W.Fast.tw11904804289248838089:Nat:=0
def PySem.W.Fast.tw11930157529487383493:Nat:=0
def PySem.W.Fast.tw11961806938145443778:Nat:=0
def PySem.W.Fast.tw11966952517168766141:Nat:=0
def PySem.W.Fast.tw12014867462605327842:Nat:=0
def PySem.W.Fast.tw1202523493356103777:Nat:=0
def PySem.W.Fast.tw12200475099857439509:Nat:=0
def PySem.W.Fast.tw12231752035923394512:Nat:=0
def PySem.W.Fast.tw12252491698268894727:Nat:=0
def PySem.W.Fast.tw12264033468764230883:Nat:=0
def PySem.W.Fast.tw12266196793444396178:Nat:=0
def PySem.W.Fast.tw12296127192431608848:Nat:=0
def PySem.W.Fast.tw12504928584568284161:Nat:=0
def PySem.W.Fast.tw12517029604597209736:Nat:=0
def PySem.W.Fast.tw12552047428828950772:Nat:=0
def PySem.W.Fast.tw12695893496290674677:Nat:=0
def PySem.W.Fast.tw12727507187285288974:Nat:=0
def PySem.W.Fast.tw12804477182901099571:Nat:=0
def PySem.W.Fast.tw12819314775633267548:Nat:=0
def PySem.W.Fast.tw12841961174779734881:Nat:=0
def PySem.W.Fast.tw12973742645558202054:Nat:=0
def PySem.W.Fast.tw12992493595209200401:Nat:=0
def PySem.W.Fast.tw13008446424538027567:Nat:=0
def PySem.W.Fast.tw13040908082953253390:Nat:=0
def PySem.W.Fast.tw13048262955205334068:Nat:=0
def PySem.W.Fast.tw13103668563903392503:Nat:=0
def PySem.W.Fast.tw1320250911226884945:Nat:=0
def PySem.W.Fast.tw1324883340623022477:Nat:=0
def PySem.W.Fast.tw13270466122329695245:Nat:=0
def PySem.W.Fast.tw13309331466543656801:Nat:=0
def PySem.W.Fast.tw13333447242070462460:Nat:=0
def PySem.W.Fast.tw13581466267244202189:Nat:=0
def PySem.W.Fast.tw13640347118270264802:Nat:=0
def PySem.W.Fast.tw13812970614226715557:Nat:=0
def PySem.W.Fast.tw13820760084311117779:Nat:=0
def PySem.W.Fast.tw13868002900705994528:Nat:=0
def PySem.W.Fast.tw13911179332141159775:Nat:=0
def PySem.W.Fast.tw13932572634934792152:Nat:=0
def PySem.W.Fast.tw13977100640085094913:Nat:=0
def PySem.W.Fast.tw13984350369418331605:Nat:=0
def PySem.W.Fast.tw14077493666160438068:Nat:=0
def PySem.W.Fast.tw14090408272707717735:Nat:=0
def PySem.W.Fast.tw14580505747745899115:Nat:=0
def PySem.W.Fast.tw14726576209877883842:Nat:=0
def PySem.W.Fast.tw1476688699150733785:Nat:=0
def PySem.W.Fast.tw14772068269830524947:Nat:=0
def PySem.W.Fast.tw1486910616353292185:Nat:=0
def PySem.W.Fast.tw14874437636696891522:Nat:=0
def PySem.W.Fast.tw14974435884008600121:Nat:=0
def PySem.W.Fast.tw15018074526412755554:Nat:=0
def PySem.W.Fast.tw15417056433017630573:Nat:=0
def PySem.W.Fast.tw15432464454286500397:Nat:=0
def PySem.W.Fast.tw15543508355212278123:Nat:=0
def PySem.W.Fast.tw1565313744271401413:Nat:=0
def PySem.W.Fast.tw15711589102725007480:Nat:=0
def PySem.W.Fast.tw15791532683733864415:Nat:=0
def PySem.W.Fast.tw15945378416544471126:Nat:=0
def PySem.W.Fast.tw15954690747659654584:Nat:=0
def PySem.W.Fast.tw1596649230223296439:Nat:=0
def PySem.W.Fast.tw15976696941878603714:Nat:=0
def PySem.W.Fast.tw15982827343323965825:Nat:=0
def PySem.W.Fast.tw16039041710484900415:Nat:=0
def PySem.W.Fast.tw1606349295934816334:Nat:=0
def PySem.W.Fast.tw16165603796317316669:Nat:=0
def PySem.W.Fast.tw16204635739576293187:Nat:=0
def PySem.W.Fast.tw16208996940578248941:Nat:=0
def PySem.W.Fast.tw16297650326388096060:Nat:=0
def PySem.W.Fast.tw16312454443103722802:Nat:=0
def PySem.W.Fast.tw16425249671684853644:Nat:=0
def PySem.W.Fast.tw16463745850221992711:Nat:=0
def PySem.W.Fast.tw16514507288186904736:Nat:=0
def PySem.W.Fast.tw16521076606233686920:Nat:=0
def PySem.W.Fast.tw16591912827161923808:Nat:=0
def PySem.W.Fast.tw16595379270844400700:Nat:=0
def PySem.W.Fast.tw16681284061449030635:Nat:=0
def PySem.W.Fast.tw16768501699868712039:Nat:=0
def PySem.W.Fast.tw16874181643050464296:Nat:=0
def PySem.W.Fast.tw16951296463490864826:Nat:=0
def PySem.W.Fast.tw16987527990462896222:Nat:=0
def PySem.W.Fast.tw17105708646592242682:Nat:=0
def PySem.W.Fast.tw17294598492752894405:Nat:=0
def PySem.W.Fast.tw17298355143703941469:Nat:=0
def PySem.W.Fast.tw17390589850682868344:Nat:=0
def PySem.W.Fast.tw17451705008235977369:Nat:=0
def PySem.W.Fast.tw17588733298353451936:Nat:=0
def PySem.W.Fast.tw1763021191437466423:Nat:=0
def PySem.W.Fast.tw17689371180624554214:Nat:=0
def PySem.W.Fast.tw17706214434376371330:Nat:=0
def PySem.W.Fast.tw17711726362925352480:Nat:=0
def PySem.W.Fast.tw17722739780316341285:Nat:=0
def PySem.W.Fast.tw17804218396827045240:Nat:=0
def PySem.W.Fast.tw17831460963612841039:Nat:=0
def PySem.W.Fast.tw17883642419924255117:Nat:=0
def PySem.W.Fast.tw1801232712275017457:Nat:=0
def PySem.W.Fast.tw18022618894941661567:Nat:=0
def PySem.W.Fast.tw18059594851105949481:Nat:=0
def PySem.W.Fast.tw18082086228356143318:Nat:=0
def PySem.W.Fast.tw18155125135424886337:Nat:=0
def PySem.W.Fast.tw18219510099785936665:Nat:=0
def PySem.W.Fast.tw18264912317254691414:Nat:=0
def PySem.W.Fast.tw18281806150451896844:Nat:=0
def PySem.W.Fast.tw1845414459002728144:Nat:=0
def PySem.W.Fast.tw198005443687450040:Nat:=0
def PySem.W.Fast.tw2010512779923540584:Nat:=0
def PySem.W.Fast.tw2054855148036754025:Nat:=0
def PySem.W.Fast.tw2067147955826709869:Nat:=0
def PySem.W.Fast.tw2128564644761878470:Nat:=0
def PySem.W.Fast.tw2357501632151493410:Nat:=0
def PySem.W.Fast.tw2400452653107922163:Nat:=0
def PySem.W.Fast.tw2507521645288822609:Nat:=0
def PySem.W.Fast.tw2547570806532973852:Nat:=0
def PySem.W.Fast.tw2549405632247829974:Nat:=0
def PySem.W.Fast.tw2789908080849179480:Nat:=0
def PySem.W.Fast.tw2837559293998770416:Nat:=0
def PySem.W.Fast.tw2877121416468708204:Nat:=0
def PySem.W.Fast.tw288547741739631130:Nat:=0
def PySem.W.Fast.tw2957519862320069886:Nat:=0
def PySem.W.Fast.tw2971533282696909547:Nat:=0
def PySem.W.Fast.tw2982195020037716038:Nat:=0
def PySem.W.Fast.tw3051586617526477356:Nat:=0
def PySem.W.Fast.tw3137096413511563095:Nat:=0
def PySem.W.Fast.tw3147239870246292081:Nat:=0
def PySem.W.Fast.tw3156178468765664011:Nat:=0
def PySem.W.Fast.tw3192314135003745286:Nat:=0
def PySem.W.Fast.tw3227552094019265694:Nat:=0
def PySem.W.Fast.tw3247659292156633298:Nat:=0
def PySem.W.Fast.tw3271801809198630342:Nat:=0
def PySem.W.Fast.tw3405313427846033920:Nat:=0
def PySem.W.Fast.tw3551826622326210521:Nat:=0
def PySem.W.Fast.tw3614038777505404508:Nat:=0
def PySem.W.Fast.tw3662717231182654830:Nat:=0
def PySem.W.Fast.tw3890835257137068477:Nat:=0
def PySem.W.Fast.tw3919836069849263969:Nat:=0
def PySem.W.Fast.tw4190257617830317630:Nat:=0
def PySem.W.Fast.tw4284333200426628589:Nat:=0
def PySem.W.Fast.tw4312005541727474054:Nat:=0
def PySem.W.Fast.tw4320176678885707997:Nat:=0
def PySem.W.Fast.tw4352593212357296511:Nat:=0
def PySem.W.Fast.tw4371275139257388365:Nat:=0
def PySem.W.Fast.tw4397949434291675646:Nat:=0
def PySem.W.Fast.tw4486372706334916463:Nat:=0
def PySem.W.Fast.tw4583230434685988400:Nat:=0
def PySem.W.Fast.tw4655997045343459549:Nat:=0
def PySem.W.Fast.tw4684072287502054587:Nat:=0
def PySem.W.Fast.tw4722047082413725718:Nat:=0
def PySem.W.Fast.tw4741617677852828751:Nat:=0
def PySem.W.Fast.tw4814237700458874849:Nat:=0
def PySem.W.Fast.tw4987599739265274035:Nat:=0
def PySem.W.Fast.tw4996588380476964592:Nat:=0
def PySem.W.Fast.tw5007298775700426543:Nat:=0
def PySem.W.Fast.tw5013023086503937941:Nat:=0
def PySem.W.Fast.tw5115400169695005928:Nat:=0
def PySem.W.Fast.tw5245947322628143843:Nat:=0
def PySem.W.Fast.tw5362944633529377952:Nat:=0
def PySem.W.Fast.tw5372987716917201856:Nat:=0
def PySem.W.Fast.tw5417529639245447042:Nat:=0
def PySem.W.Fast.tw5495164157100397041:Nat:=0
def PySem.W.Fast.tw5825978392562012171:Nat:=0
def PySem.W.Fast.tw5849718622227094772:Nat:=0
def PySem.W.Fast.tw589576521671863776:Nat:=0
def PySem.W.Fast.tw5898894053695618977:Nat:=0
def PySem.W.Fast.tw5960817053758532560:Nat:=0
def PySem.W.Fast.tw6058501146304473740:Nat:=0
def PySem.W.Fast.tw6081435343991131216:Nat:=0
def PySem.W.Fast.tw6089911553692422433:Nat:=0
def PySem.W.Fast.tw6118140977484520716:Nat:=0
def PySem.W.Fast.tw6126619720048117193:Nat:=0
def PySem.W.Fast.tw6283053788695959603:Nat:=0
def PySem.W.Fast.tw654423311500668481:Nat:=0
def PySem.W.Fast.tw6714207890854866507:Nat:=0
def PySem.W.Fast.tw6728387091431574936:Nat:=0
def PySem.W.Fast.tw6821270830205250826:Nat:=0
def PySem.W.Fast.tw6869189003681533050:Nat:=0
def PySem.W.Fast.tw6969531444296822106:Nat:=0
def PySem.W.Fast.tw698280792400795362:Nat:=0
def PySem.W.Fast.tw6992191968147273722:Nat:=0
def PySem.W.Fast.tw7220417659933681815:Nat:=0
def PySem.W.Fast.tw7275604981563620891:Nat:=0
def PySem.W.Fast.tw7304123430170119074:Nat:=0
def PySem.W.Fast.tw7308540888656665928:Nat:=0
def PySem.W.Fast.tw7339768430159675636:Nat:=0
def PySem.W.Fast.tw7393846241298560882:Nat:=0
def PySem.W.Fast.tw7394886178621151335:Nat:=0
def PySem.W.Fast.tw7537168393518891301:Nat:=0
def PySem.W.Fast.tw7716140672700408340:Nat:=0
def PySem.W.Fast.tw7815542915079544306:Nat:=0
def PySem.W.Fast.tw7900346417956902805:Nat:=0
def PySem.W.Fast.tw8154326169160558665:Nat:=0
def PySem.W.Fast.tw8203936843672083422:Nat:=0
def PySem.W.Fast.tw820772654419224458:Nat:=0
def PySem.W.Fast.tw8287062425480111715:Nat:=0
def PySem.W.Fast.tw8416238354931103365:Nat:=0
def PySem.W.Fast.tw8436144467458231485:Nat:=0
def PySem.W.Fast.tw850837189743770491:Nat:=0
def PySem.W.Fast.tw8645832744956676558:Nat:=0
def PySem.W.Fast.tw8879242784815607919:Nat:=0
def PySem.W.Fast.tw8903871685835447473:Nat:=0
def PySem.W.Fast.tw8907008327440103348:Nat:=0
def PySem.W.Fast.tw8931451737863960205:Nat:=0
def PySem.W.Fast.tw8957857480966448055:Nat:=0
def PySem.W.Fast.tw9096479932075067871:Nat:=0
def PySem.W.Fast.tw9187332741140041250:Nat:=0
def PySem.W.Fast.tw9235952845477754705:Nat:=0
def PySem.W.Fast.tw9339776231218537970:Nat:=0
def PySem.W.Fast.tw9359255971102317047:Nat:=0
def PySem.W.Fast.tw9409790013996304929:Nat:=0
def PySem.W.Fast.tw9438105332816847254:Nat:=0
def PySem.W.Fast.tw959255405762851512:Nat:=0
def PySem.W.Fast.tw9664566648581178006:Nat:=0
def PySem.W.Fast.tw9690812550980040082:Nat:=0
def PySem.W.Fast.tw972967247117960732:Nat:=0
def PySem.W.Fast.tw9758237439632859199:Nat:=0
def PySem.W.Fast.tw9896532700985839071:Nat:=0
def PySem.W.Fast.tw9990561311835461423:Nat:=0
open PySem PySem.W PyProof.Rows L2 L3
set_option maxRecDepth 100000 in
set_option maxHeartbeats 0 in
theorem PySem.Challenge.cw_callboard_k15_breaks_holds : PySem.Challenge.rw_callboard_k15_breaks.Holds := by
 w_on; o_law; k_head; (case hw=>w_witness2)
 k_fill
 refine L3.vD (l:=PySem.Challenge.rw_callboard_k15_breaks) (sp:=Z.vK) (k:=15) (x:="_law_script") rfl rfl ⟨rfl,by decide,by decide⟩ (fun w h Y=>PySem.W.kIn_of Y) (fun ns hl=>⟨ns,rfl,hl,rfl⟩) ?F
 case F =>
  intro w mg fa h KX G hmg
  suffices h:∃ a:Z.Ad,Z.Gl _ mg a∧∀ (s:Shared) (u:Value),BindsTo s a.law.d ⟨[u],[]⟩ [("_law_script",u)] by
   obtain ⟨a,g,hb⟩:=h
   have e:=hmg.symm.trans g.law.mg
   cases e
   exact ⟨a.law.d,hb,fun base _ _=>g.law.pe ▸ Z.Bt g⟩
  refine' ⟨⟨_,_,_,_,_,_,_,_,_,_,_,_,_,_,_,_,_,_,_,_,_,_,_,_,_,_,_,_,_,_,_,_,_,_,_,_,_,_,_,_,_,_,_,_,_,_,_,_,_,_,_,_,_,_,_,_,_,_,_,_,_,_,_,_,_,_,_,_,_,_,_,_,_,_,_,_,_,_,_,_,_,_,_,_,_,_,_⟩,⟨qF KX G ?_ ?_ ?_ ?_ ?_,
   qF KX G ?_ ?_ ?_ ?_ ?_,
   qF KX G ?_ ?_ ?_ ?_ ?_,
   qF KX G ?_ ?_ ?_ ?_ ?_,
   qF KX G ?_ ?_ ?_ ?_ ?_,
   PySem.W.mg_of KX G ?_,
   PySem.W.mg_of KX G ?_,
   bc KX G ?_ ?_ ?_ ?_,
   bc KX G ?_ ?_ ?_ ?_,
   bc KX G ?_ ?_ ?_ ?_,
   bc KX G ?_ ?_ ?_ ?_,
   bc KX G ?_ ?_ ?_ ?_,
   bc KX G ?_ ?_ ?_ ?_,
   bc KX G ?_ ?_ ?_ ?_,
   bc KX G ?_ ?_ ?_ ?_,
   bc KX G ?_ ?_ ?_ ?_,
   bc KX G ?_ ?_ ?_ ?_,
   bc KX G ?_ ?_ ?_ ?_,
   bc KX G ?_ ?_ ?_ ?_,
   bc KX G ?_ ?_ ?_ ?_,
   bc KX G ?_ ?_ ?_ ?_,
   bc KX G ?_ ?_ ?_ ?_,
   bc KX G ?_ ?_ ?_ ?_,
   bc KX G ?_ ?_ ?_ ?_,
   bc KX G ?_ ?_ ?_ ?_,
   bc KX G ?_ ?_ ?_ ?_,
   bc KX G ?_ ?_ ?_ ?_,
   bc KX G ?_ ?_ ?_ ?_,
   bc KX G ?_ ?_ ?_ ?_,
   bc KX G ?_ ?_ ?_ ?_,
   bc KX G ?_ ?_ ?_ ?_,
   bc KX G ?_ ?_ ?_ ?_,
   bc KX G ?_ ?_ ?_ ?_,
   bc KX G ?_ ?_ ?_ ?_,
   bc KX G ?_ ?_ ?_ ?_,
   bc KX G ?_ ?_ ?_ ?_,
   bc KX G ?_ ?_ ?_ ?_,
   bc KX G ?_ ?_ ?_ ?_,
   bc KX G ?_ ?_ ?_ ?_,
   bc KX G ?_ ?_ ?_ ?_,
   bc KX G ?_ ?_ ?_ ?_,
   bc KX G ?_ ?_ ?_ ?_,
   bc KX G ?_ ?_ ?_ ?_,
   bc KX G ?_ ?_ ?_ ?_,
   bc KX G ?_ ?_ ?_ ?_,
   bc KX G ?_ ?_ ?_ ?_,
   bc KX G ?_ ?_ ?_ ?_,
   bc KX G ?_ ?_ ?_ ?_,
   bc KX G ?_ ?_ ?_ ?_,
   bc KX G ?_ ?_ ?_ ?_,
   bc KX G ?_ ?_ ?_ ?_,
   bc KX G ?_ ?_ ?_ ?_,
   bc KX G ?_ ?_ ?_ ?_,
   bc KX G ?_ ?_ ?_ ?_,
   bc KX G ?_ ?_ ?_ ?_,
   bc KX G ?_ ?_ ?_ ?_,
   bj ?_ ?_ ?_ ?_,
   bj ?_ ?_ ?_ ?_,
   bj ?_ ?_ ?_ ?_,
   bj ?_ ?_ ?_ ?_,
   bj ?_ ?_ ?_ ?_,
   bj ?_ ?_ ?_ ?_,
   bj ?_ ?_ ?_ ?_,
   bj ?_ ?_ ?_ ?_,
   bj ?_ ?_ ?_ ?_,
   bj ?_ ?_ ?_ ?_,
   bj ?_ ?_ ?_ ?_,
   bj ?_ ?_ ?_ ?_,
   bj ?_ ?_ ?_ ?_,
   bj ?_ ?_ ?_ ?_,
   bj ?_ ?_ ?_ ?_,
   bj ?_ ?_ ?_ ?_,
   bj ?_ ?_ ?_ ?_,
   bj ?_ ?_ ?_ ?_,
   bj ?_ ?_ ?_ ?_,
   bj ?_ ?_ ?_ ?_,
   bj ?_ ?_ ?_ ?_,
   bj ?_ ?_ ?_ ?_,
   bj ?_ ?_ ?_ ?_,
   bj ?_ ?_ ?_ ?_,
   bj ?_ ?_ ?_ ?_,
   bj ?_ ?_ ?_ ?_,
   bj ?_ ?_ ?_ ?_,
   bj ?_ ?_ ?_ ?_,
   bj ?_ ?_ ?_ ?_,
   bj ?_ ?_ ?_ ?_,
   bj ?_ ?_ ?_ ?_,
   v8 ?_ ?_ ?_ ?_ ?_ ?_ ?_ ?_ ?_ ?_,
   uz ?_ ?_ ?_,
   zI ?_ ?_ ?_ ?_,
   ⟨?_,?_,?_,?_⟩,
   ⟨?_,?_,?_,?_⟩,
   ⟨?_,?_,?_,?_⟩,
   ⟨?_,?_,?_,?_⟩,
   ⟨?_,?_,?_⟩,
   (aQ ?_ (aQ ?_ (aQ ?_ (aQ ?_ (aQ ?_ (aQ ?_ (aQ ?_ (aQ ?_ je)))))))),
   (aQ ?_ (aQ ?_ (aQ ?_ (aQ ?_ (aQ ?_ (aQ ?_ je)))))),
   (aQ ?_ (aQ ?_ je)),
   (aQ ?_ (aQ ?_ (aQ ?_ (aQ ?_ (aQ ?_ (aQ ?_ (aQ ?_ (aQ ?_ je)))))))),
   v7,
   PySem.W.mg_none_of KX G ?_,
   PySem.W.mg_none_of KX G ?_,
   PySem.W.mg_none_of KX G ?_,
   PySem.W.mg_none_of KX G ?_,
   PySem.W.mg_none_of KX G ?_,
   PySem.W.mg_none_of KX G ?_,
   PySem.W.mg_none_of KX G ?_,
   PySem.W.mg_none_of KX G ?_,
   PySem.W.mg_none_of KX G ?_,
   PySem.W.mg_none_of KX G ?_,
   PySem.W.mg_none_of KX G ?_,
   PySem.W.mg_none_of KX G ?_,
   PySem.W.mg_none_of KX G ?_,
   iZ (PySem.W.mg_of KX G ?_),
   iZ (PySem.W.mg_of KX G ?_),
   iZ (PySem.W.mg_of KX G ?_),
   iZ (PySem.W.mg_of KX G ?_),
   yg (PySem.W.mg_of KX G ?_) (vG (ss:=["all","turns"]) ?_ (.cons ⟨_,rfl⟩ (.cons ⟨_,rfl⟩ .nil)) (Nat.le_of_ble_eq_true rfl)),
   iZ (PySem.W.mg_of KX G ?_),
   iZ (PySem.W.mg_of KX G ?_),
   iZ (PySem.W.mg_of KX G ?_),
   AU (PySem.W.mg_of KX G ?_)⟩,fun s u=>.of_eq rfl⟩
  all_goals try first | k_is | (intro _ _ _ _ _ _ us hl; rcases us with _ | ⟨_,_ | ⟨_,_ | ⟨_,_ | ⟨_,_ | ⟨_,_ | ⟨_,us⟩⟩⟩⟩⟩⟩ <;> first | rfl | (exfalso; revert hl; simp; done)) | rfl
