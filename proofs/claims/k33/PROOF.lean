import PyProof.Rows.All
import Wide.All
import OpenK.AllK
import Wide.FinOn
import PyProof.EqAt
import PyProof.EqKinds
import PyProof.TupleCall
import PyProof.AttrMiss
import PyProof.IsiH_list
import PyProof.Rows.SetFrom
import KE.KDictOf
import KE.KTab
import PyProof.AutoListH
import KE.KSortTup
import KE.KItemsList
import KE.KEqDict
import KE.KIntText
import Lean
import PyProof.RulesRaise
import PyProof.RulesTry
import KE.KTryDeep
import KE.KTryMore
import KE.KTryOn
import KE.TryInHelper
import KE.TryLedger
import PyProof.ExcArgsOwn
import PyProof.ExcAttrAll.ValueError
import KE.KIsAll
import PyProof.ExcBaseAll.ValueError
import PyProof.InstStoreFacts
import PyProof.ExcInit
import PySem.Challenge.RW_callboard_k33_groups_in_turns
set_option Elab.async false
set_option linter.all false
set_option maxRecDepth 100000
set_option maxHeartbeats 4000000
namespace L2
open PySem PySem.Spec PyProof.Rows
abbrev Key:=Sum Int Str
def mC:Key→Value→Bool
 | .inl k,v=>Value.isInt k v
 | .inr x,v=>Value.isStrOf x v
def Bi (w:World):Key→Int
 | .inl k=>hashInt k
 | .inr x=>hashStr w x
theorem cN:∀ {k:Key} {v:Value},mC k v=true→(∃ i t,k=Sum.inl i∧v=Value.int i t)∨(∃ x t,k=Sum.inr x∧v=Value.str x t)
 | .inl i,v,h=>by
  obtain ⟨t,e⟩:=Value.isInt_shape (k:=i) (v:=v) h
  exact .inl ⟨i,t,rfl,e⟩
 | .inr x,v,h=>by
  obtain ⟨t,e⟩:=Value.isStrOf_shape (x:=x) (v:=v) h
  exact .inr ⟨x,t,rfl,e⟩
theorem rL (i:Int) (t:Tok):mC (.inl i) (.int i t)=true:=by simp [mC,Value.isInt]
theorem ra (x:Str) (t:Tok):mC (.inr x) (.str x t)=true:=by simp [mC,Value.isStrOf]
theorem xU (a b:Int):decide ((Sum.inl a:Key)=Sum.inl b)=(a == b):=by
 by_cases e:a=b
 ·subst e; simp
 ·have h:¬ (Sum.inl a:Key)=Sum.inl b:=fun q=>e (Sum.inl.inj q)
  rw [decide_eq_false h]
  exact (beq_eq_false_iff_ne.mpr e).symm
theorem yW (a b:Str):decide ((Sum.inr a:Key)=Sum.inr b)=decide (a=b):=by
 by_cases e:a=b
 ·subst e; simp
 ·have h:¬ (Sum.inr a:Key)=Sum.inr b:=fun q=>e (Sum.inr.inj q)
  rw [decide_eq_false h,decide_eq_false e]
theorem yE (a:Int) (b:Str):decide ((Sum.inl a:Key)=Sum.inr b)=false:=decide_eq_false (fun q=>nomatch q)
theorem xX (a:Str) (b:Int):decide ((Sum.inr a:Key)=Sum.inl b)=false:=decide_eq_false (fun q=>nomatch q)
def cx (prog:Program) (w:World):PySem.KeyKind prog w Key where
 is:=mC
 hash:=Bi w
 inj:=fun v a b ha hb=>by
  rcases cN ha with ⟨i,t,rfl,rfl⟩ | ⟨x,t,rfl,rfl⟩
  ·rcases cN hb with ⟨j,u,rfl,e⟩ | ⟨y,u,rfl,e⟩
   ·injection e with e1 _; rw [e1]
   ·exact nomatch e
  ·rcases cN hb with ⟨j,u,rfl,e⟩ | ⟨y,u,rfl,e⟩
   ·exact nomatch e
   ·injection e with e1 _; rw [e1]
 byValue:=fun k v h=>by
  rcases cN h with ⟨i,t,rfl,rfl⟩ | ⟨x,t,rfl,rfl⟩ <;> rfl
 pyHash:=fun hv h=>by
  rcases cN hv with ⟨i,t,rfl,rfl⟩ | ⟨x,t,rfl,rfl⟩
  ·exact wpAny_pyHash_int h
  ·exact wpAny_pyHash_str h
 eqBool:=fun hu hv h=>by
  rcases cN hu with ⟨i,t,rfl,rfl⟩ | ⟨x,t,rfl,rfl⟩
  ·rcases cN hv with ⟨j,u,rfl,rfl⟩ | ⟨y,u,rfl,rfl⟩
   ·rw [xU] at h; exact wpAny_eqBool_int h
   ·rw [yE] at h; exact SeqAt.EqAt.int_str i t y u _ _ _ _ h
  ·rcases cN hv with ⟨j,u,rfl,rfl⟩ | ⟨y,u,rfl,rfl⟩
   ·rw [xX] at h; exact SeqAt.EqAt.str_int x t j u _ _ _ _ h
   ·rw [yW] at h; exact wpAny_eqBool_str h
 «strs»:=fun k x t v h=>by
  rcases cN h with ⟨i,u,rfl,e⟩ | ⟨y,u,rfl,e⟩
  ·exact nomatch e
  ·injection e with e1 _
   subst e1
   cases v <;> rfl
theorem oK (prog:Program) (w:World) (i:Int) (t:Tok):(cx prog w).is (.inl i) (.int i t)=true:=rL i t
theorem jO (prog:Program) (w:World) (x:Str) (t:Tok):(cx prog w).is (.inr x) (.str x t)=true:=ra x t
end L2
namespace L2
open PySem PySem.Spec PyProof.Rows
inductive V where
 | non | bl (b:Bool) | int (i:Int) | str (x:Str) | byt (b:Array UInt8) | flt (b:UInt64) | ref (a:Addr) | ty (n:String)
 deriving DecidableEq
def bD:V→Value→Prop
 | .non,u=>u=Value.none
 | .bl b,u=>u=Value.bool b
 | .int i,u=>∃ t,u=Value.int i t
 | .str x,u=>∃ t,u=Value.str x t
 | .byt b,u=>∃ t,u=Value.bytes b t
 | .flt b,u=>∃ t,u=Value.float b t
 | .ref a,u=>u=Value.ref a
 | .ty n,u=>u=Value.type n
abbrev bi:List V→List Value→Prop:=Paired bD
theorem bi.length {xs:List V} {us:List Value} (r:bi xs us):xs.length=us.length:=Paired.length r
theorem bi.get:∀ {xs:List V} {us:List Value} {i:Nat} {x:V},bi xs us→xs[i]?=some x→∃ u,us[i]?=some u∧bD x u
 | _,_,_,_,.nil,e=>by simp at e
 | _,_,0,_,.cons r _,e=>by simp at e; subst e; exact ⟨_,rfl,r⟩
 | _,_,i + 1,x,.cons _ t,e=>by
  obtain ⟨u,h1,h2⟩:=bi.get (i:=i) (x:=x) t (by simpa using e)
  exact ⟨u,by simpa using h1,h2⟩
theorem bi.set {x:V} {u:Value} (r:bD x u):∀ {xs:List V} {us:List Value} (i:Nat),bi xs us→bi (xs.set i x) (us.set i u)
 | _,_,_,.nil=>.nil
 | _,_,0,.cons _ t=>.cons r t
 | _,_,i + 1,.cons q t=>.cons q (bi.set r i t)
theorem bi.append:∀ {xs ys:List V} {us ws:List Value},bi xs us→bi ys ws→bi (xs ++ ys) (us ++ ws)
 | _,_,_,_,.nil,s=>s
 | _,_,_,_,.cons r t,s=>.cons r (bi.append t s)
theorem bi.take:∀ {xs:List V} {us:List Value} (n:Nat),bi xs us→bi (xs.take n) (us.take n)
 | _,_,0,_=>.nil
 | _,_,_ + 1,.nil=>.nil
 | _,_,n + 1,.cons r t=>.cons r (bi.take n t)
theorem bi.drop:∀ {xs:List V} {us:List Value} (n:Nat),bi xs us→bi (xs.drop n) (us.drop n)
 | _,_,0,r=>r
 | _,_,_ + 1,.nil=>.nil
 | _,_,n + 1,.cons _ t=>bi.drop n t
def iz:Option V→Option Value→Prop
 | some v,some u=>bD v u
 | none,none=>True
 | _,_=>False
def KV {κ:Type}:List (κ × V)→List (κ × Value)→Prop:=Paired fun (p:κ × V) (q:κ × Value)=>p.1=q.1∧bD p.2 q.2
def kV:Key→V
 | .inl i=>.int i
 | .inr x=>.str x
inductive HO where
 | lst (xs:List V)
 | tup (xs:List V)
 | dK (kvs:List (Key × V)) | dT (kvs:List (List Key × V))
 | set (S:Int→Bool) (n:Nat)
 | ins (C dx:Addr) (fs:List (Str × V))
 | own (x:Addr)
 | xd (fs:List (Str × V))
 | met (f x:Addr)
 | rng (lo hi:Int)
 | frz (o:Obj) (u:HO)
 | tbl (ps:Array Value)
 | ext (φ:Heap→Prop)
abbrev Hp:=Addr→Option HO
def upd (H:Hp) (a:Addr) (o:HO):Hp:=fun b=>if b=a then some o else H b
theorem aU {H:Hp} {a:Addr} {o:HO}:upd H a o a=some o:=by unfold upd; rw [if_pos rfl]
theorem aN {H:Hp} {a b:Addr} {o:HO} (h:b ≠ a):upd H a o b=H b:=by unfold upd; rw [if_neg h]
theorem wK {H:Hp} {a:Addr} {o u:HO}:upd (upd H a o) a u=upd H a u:=by
 funext b; unfold upd; split <;> rfl
theorem An {H:Hp} {a b:Addr} {o u:HO} (h:H a=some o) (h':H b=some u) (d:o ≠ u):a ≠ b:=by
 intro e; subst e; rw [h] at h'; exact d (Option.some.inj h')
theorem bE {H:Hp} {a b:Addr} {o:HO} (h:H a=some o) (h':H b=none):a ≠ b:=by
 intro e; subst e; rw [h] at h'; cases h'
section
variable (P:Program) (w:World)
def lO (h:Heap) (a:Addr) (its:Array Value):Prop:=∃ o,h.get? a=some o∧o.cls=.type "tuple"∧(∃ n,o.data=.seq its n)∧o.dict=none
def dE (H:Hp) (h:Heap) (a:Addr):HO→Prop
 | .lst xs=>xs.length≤sizeLine∧∃ (its:List Value) (n:Nat),bi xs its∧h.get? a=some { cls:=.type "list",data:=.seq its.toArray n }
 | .tup xs=>xs.length≤sizeLine∧∃ its:List Value,bi xs its∧lO h a its.toArray
 | .dK kvs=>kvs.length≤sizeLine∧(a == sysModules)=false∧∃ vs,KV kvs vs∧h.DictOf (cx P w) a vs
 | .dT kvs=>kvs.length≤sizeLine∧(a == sysModules)=false∧∃ xs:List (List Key × Addr × Value),
   Paired (fun (p:List Key × V) (q:List Key × Addr × Value)=>p.1=q.1∧H q.2.1=some (.tup (p.1.map kV))∧bD p.2 q.2.2) kvs xs ∧
   ∃ o es ep,h.get? a=some o∧o.ExactDict∧o.data=.dict es ep∧es.toList=xs.map (entryOfKey (tupleKind (cx P w)))∧(xs.map (·.1)).Nodup
 | .set S n=>h.SetOf (intKind P w) a S n
 | .ins C dx fs=>H dx=some (.own a)∧fs.length≤1000∧dx ≠ a∧h.get? a=some (PySem.W.instObj C dx) ∧
   ∃ mA,h.Ns1 dx mA∧(∀ f,iz (fs.lookup f) (mA f))∧PySem.Within mA (fs.map (·.1))
 | .own _=>∃ o,h.get? a=some o
 | .xd fs=>∃ mA,h.Ns1 a mA∧∀ f,iz (fs.lookup f) (mA f)
 | .rng lo hi=>∃ t u v,h.get? a=some { cls:=.type "range",data:=.fields #[.int lo t,.int hi u,.int 1 v] }
 | .frz o u=>h.get? a=some o∧dE H h a u
 | .tbl ps=>h.get? a=some { cls:=.none,data:=.fields ps }
 | .met f x=>h.get? a=some (PySem.W.methodObj (.ref f) (.ref x))
 | .ext φ=>φ h∧(∃ o,h.get? a=some o)∧∀ h1 h2:Heap,φ h1→(∀ o,h1.get? a=some o→h2.get? a=some o)→φ h2
def HOk (H:Hp) (h:Heap):Prop:=∀ a o,H a=some o→dE P w H h a o
end
section
variable {P:Program} {w:World} {H H':Hp} {h h':Heap} {a:Addr} {o:HO}
theorem lO.is {its:Array Value} (x:lO h a its):IsTup h a its:=let ⟨o,e,c,d,_⟩:=x; ⟨o,e,c,d⟩
theorem lO.new (h:Heap) (items:Array Value):lO (h.push { cls:=.type "tuple",data:=.seq items }) h.objs.size items:=⟨_,Heap.get?_push_size _ rfl,rfl,⟨_,rfl⟩,rfl⟩
theorem dE.lt (x:dE P w H h a o):a < h.objs.size:=by
 cases o with
 | lst xs=>obtain ⟨_,_,_,_,e⟩:=x; exact Heap.lt_size e
 | tup xs=>obtain ⟨_,_,_,_,e,_⟩:=x; exact Heap.lt_size e
 | dK kvs=>obtain ⟨_,_,_,_,o,_,_,e,_⟩:=x; exact Heap.lt_size e
 | dT kvs=>obtain ⟨_,_,_,_,o,_,_,e,_⟩:=x; exact Heap.lt_size e
 | set S n=>obtain ⟨o,_,_,_,e,_⟩:=x; exact Heap.lt_size e
 | ins C dx fs=>obtain ⟨_,_,_,e,_⟩:=x; exact Heap.lt_size e
 | own y=>obtain ⟨_,e⟩:=x; exact Heap.lt_size e
 | xd fs=>obtain ⟨_,⟨_,_,_,e,_⟩,_⟩:=x; exact Heap.lt_size e
 | rng lo hi=>obtain ⟨_,_,_,e⟩:=x; exact Heap.lt_size e
 | frz ob u=>obtain ⟨e,_⟩:=x; exact Heap.lt_size e
 | tbl ps=>exact Heap.lt_size (show h.get? a=some _ from x)
 | met f y=>exact Heap.lt_size (show h.get? a=some _ from x)
 | ext φ=>obtain ⟨_,⟨_,e⟩,_⟩:=x; exact Heap.lt_size e
theorem Paired.mapP {α β:Type} {F G:α→β→Prop}:∀ {l₁:List α} {l₂:List β},Paired F l₁ l₂→(∀ a b,F a b→G a b)→Paired G l₁ l₂
 | _,_,.nil,_=>.nil
 | _,_,.cons r t,f=>.cons (f _ _ r) (Paired.mapP t f)
theorem dE.stay (x:dE P w H h a o) (k:∀ b u,(b=a∨H b=some (.own a))→h.get? b=some u→h'.get? b=some u)
  (ho:∀ b,H b=some (.own a)→H' b=some (.own a)) (ht:∀ b xs,H b=some (.tup xs)→H' b=some (.tup xs)):dE P w H' h' a o:=by
 induction o with
 | lst xs=>obtain ⟨z,its,n,r,e⟩:=x; exact ⟨z,its,n,r,k _ _ (.inl rfl) e⟩
 | tup xs=>obtain ⟨z,its,r,ob,e,c⟩:=x; exact ⟨z,its,r,ob,k _ _ (.inl rfl) e,c⟩
 | dK kvs=>obtain ⟨z,y,vs,r,ob,es,ep,e,c⟩:=x; exact ⟨z,y,vs,r,ob,es,ep,k _ _ (.inl rfl) e,c⟩
 | dT kvs =>
  obtain ⟨z,y,xs,r,ob,es,ep,e,c⟩:=x
  exact ⟨z,y,xs,Paired.mapP r fun p q z=>⟨z.1,ht _ _ z.2.1,z.2.2⟩,ob,es,ep,k _ _ (.inl rfl) e,c⟩
 | set S n=>obtain ⟨ob,es,ep,t,e,c⟩:=x; exact ⟨ob,es,ep,t,k _ _ (.inl rfl) e,c⟩
 | ins C dx fs =>
  obtain ⟨d,z,ne,e,mA,⟨od,es,ep,e2,c⟩,r⟩:=x
  exact ⟨ho _ d,z,ne,k _ _ (.inl rfl) e,mA,⟨od,es,ep,k _ _ (.inr d) e2,c⟩,r⟩
 | own y=>obtain ⟨ob,e⟩:=x; exact ⟨ob,k _ _ (.inl rfl) e⟩
 | xd fs=>obtain ⟨mA,⟨od,es,ep,e,c⟩,r⟩:=x; exact ⟨mA,⟨od,es,ep,k _ _ (.inl rfl) e,c⟩,r⟩
 | rng lo hi=>obtain ⟨t,u,v,e⟩:=x; exact ⟨t,u,v,k _ _ (.inl rfl) e⟩
 | frz ob u ih=>obtain ⟨e,q⟩:=x; exact ⟨k _ _ (.inl rfl) e,ih q⟩
 | tbl ps =>
  have e:h.get? a=some { cls:=.none,data:=.fields ps }:=x
  show h'.get? a=some { cls:=.none,data:=.fields ps }
  exact k a _ (.inl rfl) e
 | met f y =>
  have e:h.get? a=some (PySem.W.methodObj (.ref f) (.ref y)):=x
  show h'.get? a=some (PySem.W.methodObj (.ref f) (.ref y))
  exact k a _ (.inl rfl) e
 | ext φ=>obtain ⟨p,⟨o,e⟩,st⟩:=x; exact ⟨st _ _ p fun o q=>k _ _ (.inl rfl) q,⟨o,k _ _ (.inl rfl) e⟩,st⟩
theorem HOk.lt (x:HOk P w H h) (e:H a=some o):a < h.objs.size:=(x a o e).lt
theorem HOk.fresh (x:HOk P w H h) (e:h.objs.size≤a):H a=none:=by
 cases q:H a with
 | none=>rfl
 | some u=>exact absurd (Nat.lt_of_lt_of_le (x.lt q) e) (Nat.lt_irrefl _)
theorem HOk.kept (x:HOk P w H h) (k:∀ b u,h.get? b=some u→h'.get? b=some u):HOk P w H h':=fun a o e =>
 (x a o e).stay (fun b u _ q=>k b u q) (fun _ q=>q) fun _ _ q=>q
theorem HOk.laid (x:HOk P w H h) (k:∀ b u,h.get? b=some u→h'.get? b=some u) (hp:h.objs.size≤a) (new:dE P w (upd H a o) h' a o):HOk P w (upd H a o) h':=fun b u e=>by
 have hn:=x.fresh hp
 by_cases hb:b=a
 ·subst hb; rw [aU] at e; cases e; exact new
 ·rw [aN hb] at e
  exact (x b u e).stay (fun c v _ q=>k c v q) (fun c q=>by rw [aN (bE q hn)]; exact q) fun c xs q=>by rw [aN (bE q hn)]; exact q
end
def Rd (H:Hp) (a:Addr) (u:HO):Prop:=H a=some u∨∃ o,H a=some (.frz o u)
theorem Rd.ok {P:Program} {w:World} {H:Hp} {h:Heap} {a:Addr} {u:HO} (r:Rd H a u) (x:HOk P w H h):dE P w H h a u:=by
 rcases r with r | ⟨o,r⟩
 ·exact x a u r
 ·obtain ⟨_,q⟩:=x a _ r
  exact q
def Mut:Option HO→Prop
 | some (.lst _)=>True
 | some (.dK _)=>True
 | some (.dT _)=>True
 | some (.set _ _)=>True
 | some (.ins _ _ _)=>True
 | some (.ext _)=>True
 | _=>False
section
variable {P:Program} {w:World} {H:Hp} {h h':Heap} {x e:Addr} {o':HO}
theorem HOk.write (ok:HOk P w H h) (mu:Mut (H x)) (he:e=x∨H e=some (.own x)) (k:∀ b u,b ≠ e→h.get? b=some u→h'.get? b=some u) (heo:∃ u,h'.get? e=some u)
  (new:dE P w (upd H x o') h' x o'):HOk P w (upd H x o') h':=fun b u q=>by
 have nown:∀ c y,H c=some (.own y)→c ≠ x:=fun c y r z=>by subst z; rw [r] at mu; exact mu
 have ntup:∀ c xs,H c=some (.tup xs)→c ≠ x:=fun c xs r z=>by subst z; rw [r] at mu; exact mu
 by_cases hb:b=x
 ·subst hb; rw [aU] at q; cases q; exact new
 ·rw [aN hb] at q
  by_cases hbe:b=e
  ·have q':H b=some (.own x):=by
    rcases he with z | z
    ·exact absurd (hbe.trans z) hb
    ·rw [hbe]; exact z
   rw [q] at q'; cases q'
   obtain ⟨v,hv⟩:=heo
   exact ⟨v,by rw [hbe]; exact hv⟩
  ·refine (ok b u q).stay (fun c v hc r=>k c v ?_ r) (fun c r=>by rw [aN (nown c b r)]; exact r) fun c xs r=>by rw [aN (ntup c xs r)]; exact r
   rcases hc with rfl | hc
   ·exact hbe
   ·rintro rfl
    rcases he with z | z
    ·exact nown c b hc z
    ·rw [hc] at z; cases z; exact hb rfl
end
structure Un (fs ex:List Addr) (H H':Hp) (h h':Heap):Prop where
 keep:∀ b o,h.get? b=some o→H b=none→b ∉ fs→b ∉ ex→h'.get? b=some o
 slot:∀ b o,h.get? b=some o→H b=none→b∈fs→b ∉ ex→∃ sl,h'.get? b=some { o with slots:=sl }
 free:∀ b o,h.get? b=some o→H b=none→b ∉ ex→H' b=none
 there:∀ b o,h.get? b=some o→b ∉ ex→∃ o',h'.get? b=some o'
 tups:∀ b xs,H b=some (.tup xs)→H' b=some (.tup xs)
 frzs:∀ b o u,H b=some (.frz o u)→H' b=some (.frz o u)
 tbls:∀ b ps,H b=some (.tbl ps)→∃ more,H' b=some (.tbl (ps ++ more))
section
variable {fs fs' ex ex':List Addr} {H H1 H2:Hp} {h h1 h2 h':Heap} {a x e:Addr} {o:HO}
theorem Un.any (u:Un fs ex H H1 h h1) {b:Addr} {ob:Obj} (q:h.get? b=some ob) (n:H b=none) (hx:b ∉ ex):∃ sl,h1.get? b=some { ob with slots:=sl }:=by
 by_cases hb:b∈fs
 ·exact u.slot b ob q n hb hx
 ·exact ⟨ob.slots,u.keep b ob q n hb hx⟩
theorem Un.kept (k:∀ b u,h.get? b=some u→h'.get? b=some u):Un fs ex H H h h' :=
 ⟨fun b ob q _ _ _=>k b ob q,fun b ob q _ _ _=>⟨ob.slots,k b ob q⟩,fun _ _ _ n _=>n,fun b ob q _=>⟨ob,k b ob q⟩,fun _ _ q=>q,fun _ _ _ q=>q,fun _ ps q=>⟨#[],by rw [q]; simp⟩⟩
theorem Un.refl:Un fs ex H H h h:=Un.kept fun _ _ q=>q
theorem Un.laid (k:∀ b u,h.get? b=some u→h'.get? b=some u) (hp:h.objs.size≤a) (hn:H a=none):Un fs ex H (upd H a o) h h' where
 keep:=fun b u q _ _ _=>k b u q
 slot:=fun b u q _ _ _=>⟨u.slots,k b u q⟩
 free:=fun b u q n _=>by rw [aN (Nat.ne_of_lt (Nat.lt_of_lt_of_le (Heap.lt_size q) hp))]; exact n
 there:=fun b u q _=>⟨u,k b u q⟩
 tups:=fun b xs q=>by rw [aN (bE q hn)]; exact q
 frzs:=fun b u xs q=>by rw [aN (bE q hn)]; exact q
 tbls:=fun b ps q=>⟨#[],by rw [aN (bE q hn),q]; simp⟩
theorem Un.write (mu:Mut (H x)) (he:e=x∨H e=some (.own x)) (k:∀ b u,b ≠ e→h.get? b=some u→h'.get? b=some u) (heo:∃ u,h'.get? e=some u):Un fs ex H (upd H x o) h h':=by
 have hx:∀ b,H b=none→b ≠ x:=fun b n z=>by subst z; rw [n] at mu; exact mu
 have hb:∀ b,H b=none→b ≠ e:=fun b n z=>by
  subst z
  rcases he with r | r
  ·exact hx b n r
  ·rw [n] at r; cases r
 have hm:∀ b u,H b=some u→¬ Mut (some u)→b ≠ x:=fun b u q nm z=>by subst z; rw [q] at mu; exact nm mu
 refine ⟨fun b u q n _ _=>k b u (hb b n) q,fun b u q n _ _=>⟨u.slots,k b u (hb b n) q⟩,fun b u q n _=>by rw [aN (hx b n)]; exact n,fun b u q _=>?_,
  fun b xs q=>by rw [aN (hm b _ q fun z=>z)]; exact q,fun b u xs q=>by rw [aN (hm b _ q fun z=>z)]; exact q,fun b ps q=>⟨#[],by rw [aN (hm b _ q fun z=>z),q]; simp⟩⟩
 by_cases hbe:b=e
 ·subst hbe; exact heo
 ·exact ⟨u,k b u hbe q⟩
end
def trk (h:Heap) (H:Hp):List Addr:=(List.range h.objs.size).filter fun a=>(H a).isSome
def ny (h:Heap) (H:Hp):Heap:=PySem.W.hideAll h (trk h H)
theorem sh (h:Heap) (H:Hp):(ny h H).objs.size=h.objs.size:=PySem.W.hideAll_size _ _
theorem uY {h:Heap} {H:Hp} {b:Addr} {o:Obj} (e:h.get? b=some o) (n:H b=none):(ny h H).get? b=some o :=
 PySem.W.hideAll_get _ e fun hm=>by
  have q:(H b).isSome=true:=(List.mem_filter.mp hm).2
  rw [n] at q; simp at q
theorem vN {h:Heap} {H:Hp} {b:Addr} {o:Obj} (e:(ny h H).get? b=some o):h.get? b=some o∧H b=none:=by
 have e':h.get? b=some o:=PySem.W.of_hideAll (trk h H) e
 refine ⟨e',?_⟩
 cases q:H b with
 | none=>rfl
 | some x =>
  have hm:b∈trk h H:=List.mem_filter.mpr ⟨List.mem_range.mpr (Heap.lt_size e'),by simp [q]⟩
  have z:(ny h H).get? b=none:=PySem.W.hideAll_none (trk h H) hm
  rw [z] at e; cases e
end L2
namespace L2
open PySem PySem.Spec PyProof.Rows
structure Mod (K:PySem.W.Frag) (mg:Str→Option Value) (base:Heap):Prop where
 kin:K.In base
 glob:base.Ns mainGlobals mg
 blt:∃ mb,base.Ns builtinsNs mb∧∀ x:Str,x ≠ "__name__"→mb x=bootBuiltins x
 nolimit:base.NoLimit
structure Cx where
 prog:Program
 w:World
 K:PySem.W.Frag
 mg:Str→Option Value
 base:Heap
 A:Around
 N:List Str
 s₀:Shared
 H₀:Hp
 env:Env
 outer:List Env
 stack:List Env
 ex:List Addr
 fn:Str→Bool
 calm:Bool
 pn:List (Addr × Obj)
 xe:Value→Shared→Prop
def frs (l:List Env):List Addr:=l.filterMap (·.frame)
abbrev Cx.fs (X:Cx):List Addr:=frs X.outer
def Vis (sc:Scope) (x:Str):Prop:=sc.names.lookup x=some .local∨sc.names.lookup x=some .cell∨sc.names.lookup x=some .free
def Loc (sc:Scope) (x:Str):Prop:=sc.names.lookup x=some .local∨sc.names.lookup x=some .cell
def zK (env:Env) (h:Heap) (m:Str→Option Value) (x:Str) (u:Value):Prop :=
 (env.kindOf x=some .local∧m x=some u)∨((env.kindOf x=some .cell∨env.kindOf x=some .free)∧∃ c,env.cells.lookup x=some c∧h.IsCell c (some u))
structure Cx.Ok (X:Cx):Prop where
 mod:Mod X.K X.mg X.base
 kind:X.env.scope.kind=.function
 glob:X.env.globals=mainGlobals
 blt:X.env.builtins=builtinsNs
 above:X.s₀.heap.objs.size≤X.env.locals
 inj:∀ x y c,X.env.cells.lookup x=some c→X.env.cells.lookup y=some c→x=y
 has:∀ x,(X.env.kindOf x=some .cell∨X.env.kindOf x=some .free)→∃ c,X.env.cells.lookup x=some c
 cab:∀ x c,X.fn x=true→X.env.cells.lookup x=some c→X.s₀.heap.objs.size≤c
 hd:X.calm=true→X.A.handled=none
 frames:X.A.frames=some X.stack
 stk:X.stack=X.outer∨(X.stack=X.env :: X.outer∧X.env.frame=some X.env.locals)
 exf:∀ b∈X.ex,b ≠ X.env.locals∧∀ x c,X.env.cells.lookup x=some c→c ≠ b
 bs:∀ b o,X.base.get? b=some o→X.s₀.heap.get? b=some o∧X.H₀ b=none
 bsz:X.base.objs.size≤X.s₀.heap.objs.size
 noex:∀ b o,X.base.get? b=some o→b ∉ X.ex
 exfs:∀ b∈X.ex,b ∉ X.fs
 funs:X.s₀.heap.FunFrames X.base X.outer
 frf:∀ b∈X.fs,X.H₀ b=none
structure Inv (X:Cx) (pins:List (Addr × Obj)) (σ:List (Option V)) (H:Hp) (s:Shared):Prop where
 ok:X.Ok
 os:s.os=X.s₀.os
 bare:AllBare s.gens
 base:Un X.fs X.ex X.H₀ H X.s₀.heap s.heap
 loc:∃ m,s.heap.Ns X.env.locals m∧∀ (i:Nat) (x:Str) (v:V),X.N[i]?=some x→σ[i]?=some (some v)→Vis X.env.scope x→∃ u,bD v u∧zK X.env s.heap m x u
 cell:∀ x c,X.env.cells.lookup x=some c→∃ v,s.heap.IsCell c v
 free:H X.env.locals=none
 freeC:∀ x c,X.env.cells.lookup x=some c→H c=none
 pin:∀ p∈X.pn ++ pins,s.heap.get? p.1=some p.2∧H p.1=none∧p.1 ≠ X.env.locals∧p.1 ∉ X.fs∧∀ v,p.2.data ≠ .cell v
 hok:HOk X.prog X.w H s.heap
 len:σ.length=X.N.length
section
variable {X:Cx} {pins:List (Addr × Obj)} {σ:List (Option V)} {H H':Hp} {s:Shared} {h':Heap}
theorem Cx.Ok.nofr (ok:X.Ok) {b:Addr} {o:Obj} (e:X.base.get? b=some o):b ∉ X.fs:=fun hb=>by
 have:=(ok.funs.mem hb).1
 rw [e] at this; cases this
theorem Inv.bs (I:Inv X pins σ H s):∀ b o,X.base.get? b=some o→s.heap.get? b=some o∧H b=none:=fun b o e =>
 ⟨I.base.keep b o (I.ok.bs b o e).1 (I.ok.bs b o e).2 (I.ok.nofr e) (I.ok.noex b o e),I.base.free b o (I.ok.bs b o e).1 (I.ok.bs b o e).2 (I.ok.noex b o e)⟩
theorem Inv.bk (I:Inv X pins σ H s):∀ b o,X.base.get? b=some o→s.heap.get? b=some o:=fun b o e=>(I.bs b o e).1
theorem Inv.mod (I:Inv X pins σ H s):Mod X.K X.mg X.base:=I.ok.mod
theorem Inv.kIn (I:Inv X pins σ H s):X.K.In s.heap:=I.ok.mod.kin.keeps I.bk
theorem Inv.nolimit (I:Inv X pins σ H s):s.heap.NoLimit:=I.ok.mod.nolimit.keeps I.bk
theorem Inv.fr (I:Inv X pins σ H s):∃ m,Fr X.base X.env.locals s.heap m :=
 let ⟨m,hn,_⟩:=I.loc
 ⟨m,hn,I.bk,Nat.le_trans I.ok.bsz I.ok.above⟩
theorem Inv.lt (I:Inv X pins σ H s):X.env.locals < s.heap.objs.size:=let ⟨_,hn,_⟩:=I.loc; hn.lt
theorem Inv.sz (I:Inv X pins σ H s):X.s₀.heap.objs.size≤s.heap.objs.size:=Nat.le_trans I.ok.above (Nat.le_of_lt I.lt)
theorem Inv.nofs (I:Inv X pins σ H s) {a:Addr} (h:s.heap.objs.size≤a):a ∉ X.fs:=fun hb=>by
 obtain ⟨_,o,ho,_⟩:=I.ok.funs.mem hb
 exact absurd (Nat.lt_of_lt_of_le (Heap.lt_size ho) (Nat.le_trans I.sz h)) (Nat.lt_irrefl _)
theorem Inv.cne (I:Inv X pins σ H s):∀ x c,X.env.cells.lookup x=some c→c ≠ X.env.locals:=fun x c e z=>by
 obtain ⟨v,o,ho,hd⟩:=I.cell x c e
 obtain ⟨m,⟨o',es,ep,ho',hd',_⟩,_⟩:=I.loc
 rw [z,ho'] at ho; cases ho; rw [hd'] at hd; cases hd
theorem Inv.funs (I:Inv X pins σ H s):s.heap.FunFrames X.base X.outer:=by
 have all:∀ (l:List Env),(∀ b∈frs l,b∈X.fs)→X.s₀.heap.FunFrames X.base l→s.heap.FunFrames X.base l:=by
  intro l
  induction l with
  | nil=>intro _ _; trivial
  | cons env r ih =>
   intro hs hl
   obtain ⟨hk,⟨L,o,hf,hn,ho,hd⟩,hr⟩:=hl
   have hL:L∈X.fs:=hs L (by unfold frs; rw [List.filterMap_cons,hf]; exact List.mem_cons_self)
   obtain ⟨sl,e⟩:=I.base.slot L o ho (I.ok.frf L hL) hL fun z=>I.ok.exfs L z hL
   exact ⟨hk,⟨L,_,hf,hn,e,hd⟩,ih (fun b hb=>hs b (by unfold frs; rw [List.filterMap_cons,hf]; exact List.mem_cons_of_mem _ hb)) hr⟩
 exact all X.outer (fun _ hb=>hb) I.ok.funs
theorem Inv.stack (I:Inv X pins σ H s):s.heap.FunFrames X.base X.stack:=by
 rcases I.ok.stk with e | ⟨e,hf⟩
 ·rw [e]; exact I.funs
 ·rw [e]
  obtain ⟨m,hn,_⟩:=I.loc
  refine .cons (by rw [I.ok.kind]; decide) hf hn ?_ I.funs
  exact Heap.get?_none_of_le (Nat.le_trans I.ok.bsz I.ok.above)
theorem Inv.stkSub (I:Inv X pins σ H s):∀ b∈frs X.stack,b∈X.env.locals :: X.fs:=fun b hb=>by
 rcases I.ok.stk with e | ⟨e,hf⟩
 ·rw [e] at hb; exact List.mem_cons_of_mem _ hb
 ·rw [e] at hb
  unfold frs at hb
  rw [List.filterMap_cons,hf] at hb
  exact hb
theorem Inv.stkFree (I:Inv X pins σ H s):∀ b∈frs X.stack,H b=none:=fun b hb=>by
 rcases List.mem_cons.mp (I.stkSub b hb) with e | hb
 ·rw [e]; exact I.free
 ·obtain ⟨_,o,ho,_⟩:=I.ok.funs.mem hb
  exact I.base.free b o ho (I.ok.frf b hb) fun z=>I.ok.exfs b z hb
theorem Inv.step {g':Array GenState} {t':Nat} {d':Drawn} {ch:List Addr} (I:Inv X pins σ H s)
  (hch:∀ b∈ch,(b∈X.ex∨X.s₀.heap.objs.size≤b)∧b ≠ X.env.locals∧(∀ x c,X.env.cells.lookup x=some c→c ≠ b)∧∀ p∈X.pn ++ pins,p.1 ≠ b)
  (keep:∀ b o,b ≠ X.env.locals→b ∉ X.fs→b ∉ ch→s.heap.get? b=some o→H b=none→h'.get? b=some o)
  (slot:∀ b o,b ≠ X.env.locals→b∈X.fs→b ∉ ch→s.heap.get? b=some o→H b=none→∃ sl,h'.get? b=some { o with slots:=sl }) (free:∀ b o,b ∉ ch→s.heap.get? b=some o→H b=none→H' b=none)
  (there:∀ b o,b ∉ ch→s.heap.get? b=some o→∃ o',h'.get? b=some o')
  (tups:∀ b xs,H b=some (.tup xs)→H' b=some (.tup xs)) (frzs:∀ b o u,H b=some (.frz o u)→H' b=some (.frz o u)) (tbls:∀ b ps,H b=some (.tbl ps)→∃ more,H' b=some (.tbl (ps ++ more)))
  (ns:∀ m,s.heap.Ns X.env.locals m→h'.Ns X.env.locals m) (hok:HOk X.prog X.w H' h') (hg:AllBare g') :
  Inv X pins σ H' { s with heap:=h',gens:=g',drawn:=d',toks:=t' }:=by
 have neL:∀ b o,X.s₀.heap.get? b=some o→b ≠ X.env.locals:=fun b o e=>Nat.ne_of_lt (Nat.lt_of_lt_of_le (Heap.lt_size e) I.ok.above)
 have neC:∀ b o,X.s₀.heap.get? b=some o→b ∉ X.ex→b ∉ ch:=fun b o e hx hb=>by
  rcases (hch b hb).1 with z | z
  ·exact hx z
  ·exact absurd (Nat.lt_of_lt_of_le (Heap.lt_size e) z) (Nat.lt_irrefl _)
 have cellK:∀ x c,X.env.cells.lookup x=some c→∀ v,s.heap.IsCell c v→h'.IsCell c v:=fun x c e v ⟨o,ho,hd⟩=>by
  have nch:c ∉ ch:=fun z=>(hch c z).2.2.1 x c e rfl
  by_cases hc:c∈X.fs
  ·obtain ⟨sl,q⟩:=slot c o (I.cne x c e) hc nch ho (I.freeC x c e)
   exact ⟨_,q,hd⟩
  ·exact ⟨o,keep c o (I.cne x c e) hc nch ho (I.freeC x c e),hd⟩
 refine ⟨I.ok,I.os,hg,⟨fun b o e n hb hx=>?_,fun b o e n hb hx=>?_,fun b o e n hx=>?_,fun b o e hx=>?_,fun b xs e=>tups b xs (I.base.tups b xs e),fun b o xs e=>frzs b o xs (I.base.frzs b o xs e),fun b ps e=>?_⟩,?_,fun x c e=>?_,?_,fun x c e=>?_,fun p hp=>?_,hok,I.len⟩
 ·exact keep b o (neL b o e) hb (neC b o e hx) (I.base.keep b o e n hb hx) (I.base.free b o e n hx)
 ·obtain ⟨sl,e1⟩:=I.base.slot b o e n hb hx
  obtain ⟨sl',e2⟩:=slot b _ (neL b o e) hb (neC b o e hx) e1 (I.base.free b o e n hx)
  exact ⟨sl',e2⟩
 ·obtain ⟨o',e1⟩:=I.base.there b o e hx
  exact free b o' (neC b o e hx) e1 (I.base.free b o e n hx)
 ·obtain ⟨o',e1⟩:=I.base.there b o e hx
  exact there b o' (neC b o e hx) e1
 ·obtain ⟨m1,e1⟩:=I.base.tbls b ps e
  obtain ⟨m2,e2⟩:=tbls b _ e1
  exact ⟨m1 ++ m2,by rw [e2,Array.append_assoc]⟩
 ·obtain ⟨m,hn,hl⟩:=I.loc
  refine ⟨m,ns m hn,fun i x v e1 e2 e3=>?_⟩
  obtain ⟨u,r,l⟩:=hl i x v e1 e2 e3
  refine ⟨u,r,?_⟩
  rcases l with l | ⟨k,c,e,z⟩
  ·exact .inl l
  ·exact .inr ⟨k,c,e,cellK x c e _ z⟩
 ·obtain ⟨v,z⟩:=I.cell x c e
  exact ⟨v,cellK x c e v z⟩
 ·obtain ⟨m,⟨o,_,_,ho,_⟩,_⟩:=I.loc
  exact free _ o (fun z=>(hch _ z).2.1 rfl) ho I.free
 ·obtain ⟨v,o,ho,hd⟩:=I.cell x c e
  exact free c o (fun z=>(hch c z).2.2.1 x c e rfl) ho (I.freeC x c e)
 ·obtain ⟨e,n,ne,nf,d⟩:=I.pin p hp
  have nch:p.1 ∉ ch:=fun z=>(hch p.1 z).2.2.2 p hp rfl
  exact ⟨keep p.1 p.2 ne nf nch e n,free p.1 p.2 nch e n,ne,nf,d⟩
theorem Inv.un {t':Nat} (I:Inv X pins σ H s) (u:Un X.fs [] H H' s.heap h') (hok:HOk X.prog X.w H' h'):Inv X pins σ H' { s with heap:=h',toks:=t' }:=by
 obtain ⟨m,⟨o,es,ep,ho,r⟩,_⟩:=id I.loc
 obtain ⟨sl,hL⟩:=u.any ho I.free (by simp)
 exact I.step (g':=s.gens) (d':=s.drawn) (ch:=[]) (fun _ z=>nomatch z) (fun b o _ hb _ e n=>u.keep b o e n hb (by simp)) (fun b o _ hb _ e n=>u.slot b o e n hb (by simp)) (fun b o _ e n=>u.free b o e n (by simp)) (fun b o _ e=>u.there b o e (by simp)) u.tups u.frzs u.tbls (fun m' hm=>by
  obtain ⟨o',es',ep',ho',r'⟩:=hm
  rw [ho] at ho'; cases ho'
  exact ⟨_,es',ep',hL,r'⟩) hok I.bare
theorem Inv.call {g':Array GenState} {t':Nat} {d':Drawn} {ch:List Addr} (I:Inv X pins σ H s) (u:Un (frs X.stack) ch H H' s.heap h') (hok:HOk X.prog X.w H' h') (hg:AllBare g')
  (hch:∀ b∈ch,(b∈X.ex∨X.s₀.heap.objs.size≤b)∧b ≠ X.env.locals∧(∀ x c,X.env.cells.lookup x=some c→c ≠ b)∧∀ p∈X.pn ++ pins,p.1 ≠ b) :
  Inv X pins σ H' { s with heap:=h',gens:=g',drawn:=d',toks:=t' }:=by
 obtain ⟨m,⟨o,es,ep,ho,r⟩,_⟩:=id I.loc
 obtain ⟨sl,hL⟩:=u.any ho I.free fun z=>(hch _ z).2.1 rfl
 exact I.step (ch:=ch) hch (fun b o hL hb hc e n=>u.keep b o e n (fun z=>(List.mem_cons.mp (I.stkSub b z)).elim hL hb) hc) (fun b o _ _ hc e n=>u.any e n hc) (fun b o hc e n=>u.free b o e n hc) (fun b o hc e=>u.there b o e hc) u.tups u.frzs u.tbls (fun m' hm=>by
  obtain ⟨o',es',ep',ho',r'⟩:=hm
  rw [ho] at ho'; cases ho'
  exact ⟨_,es',ep',hL,r'⟩) hok hg
theorem Inv.turned {t':Nat} {it:Addr} (I:Inv X pins σ H s) (k:∀ b o,b ≠ it→s.heap.get? b=some o→h'.get? b=some o) (hn:H it=none) (hL:it ≠ X.env.locals)
  (h1:it∈X.ex∨X.s₀.heap.objs.size≤it) (h2:∀ x c,X.env.cells.lookup x=some c→c ≠ it) (h3:∀ p∈X.pn ++ pins,p.1 ≠ it):Inv X pins σ H { s with heap:=h',toks:=t' }:=by
 have nit:∀ b u,H b=some u→b ≠ it:=fun b u e z=>by rw [z,hn] at e; cases e
 refine I.step (g':=s.gens) (d':=s.drawn) (ch:=[it]) (fun b hb=>?_) (fun b o _ _ hc e _=>k b o (fun z=>hc (by simp [z])) e) (fun b o _ _ hc e _=>⟨o.slots,k b o (fun z=>hc (by simp [z])) e⟩) (fun _ _ _ _ n=>n)
  (fun b o hc e=>⟨o,k b o (fun z=>hc (by simp [z])) e⟩) (fun _ _ e=>e) (fun _ _ _ e=>e) (fun b ps e=>⟨#[],by rw [e]; simp⟩) (fun m hm=>?_) (fun b u e=>?_) I.bare
 ·have e:b=it:=by simpa using hb
  subst e
  exact ⟨h1,hL,h2,h3⟩
 ·obtain ⟨o,es,ep,ho,r⟩:=hm
  exact ⟨o,es,ep,k _ o (Ne.symm hL) ho,r⟩
 ·refine (I.hok b u e).stay (fun c v hc q=>k c v ?_ q) (fun _ q=>q) fun _ _ q=>q
  rcases hc with z | z
  ·rw [z]; exact nit b u e
  ·exact nit c _ z
theorem Inv.tok (I:Inv X pins σ H s) (t:Nat):Inv X pins σ H { s with toks:=t }:=I.un (h':=s.heap) (t':=t) Un.refl I.hok
theorem Inv.kept {t':Nat} (I:Inv X pins σ H s) (k:∀ b u,s.heap.get? b=some u→h'.get? b=some u):Inv X pins σ H { s with heap:=h',toks:=t' }:=I.un (Un.kept k) (I.hok.kept k)
theorem Inv.laid {a:Addr} {o:HO} {t':Nat} (I:Inv X pins σ H s) (k:∀ b u,s.heap.get? b=some u→h'.get? b=some u) (hp:s.heap.objs.size≤a) (new:dE X.prog X.w (upd H a o) h' a o) :
  Inv X pins σ (upd H a o) { s with heap:=h',toks:=t' }:=I.un (Un.laid k hp (I.hok.fresh hp)) (I.hok.laid k hp new)
theorem Inv.write {x e:Addr} {o:HO} {t':Nat} (I:Inv X pins σ H s) (mu:Mut (H x)) (he:e=x∨H e=some (.own x)) (k:∀ b u,b ≠ e→s.heap.get? b=some u→h'.get? b=some u) (heo:∃ u,h'.get? e=some u)
  (new:dE X.prog X.w (upd H x o) h' x o):Inv X pins σ (upd H x o) { s with heap:=h',toks:=t' }:=I.un (Un.write mu he k heo) (I.hok.write mu he k heo new)
theorem Inv.weak {σ':List (Option V)} (I:Inv X pins σ H s) (hl:σ'.length=σ.length) (w:∀ (i:Nat) v,σ'[i]?=some (some v)→σ[i]?=some (some v)):Inv X pins σ' H s :=
 ⟨I.ok,I.os,I.bare,I.base,let ⟨m,hn,hl'⟩:=I.loc; ⟨m,hn,fun i x v e1 e2 e3=>hl' i x v e1 (w i v e2) e3⟩,I.cell,I.free,I.freeC,I.pin,I.hok,hl.trans I.len⟩
theorem Inv.pins_of {pins':List (Addr × Obj)} (I:Inv X pins σ H s) (h:∀ p∈pins',s.heap.get? p.1=some p.2∧H p.1=none∧p.1 ≠ X.env.locals∧p.1 ∉ X.fs∧∀ v,p.2.data ≠ .cell v):Inv X pins' σ H s :=
 ⟨I.ok,I.os,I.bare,I.base,I.loc,I.cell,I.free,I.freeC,fun p hp=>(List.mem_append.mp hp).elim (fun z=>I.pin p (List.mem_append_left _ z)) (h p),I.hok,I.len⟩
theorem oO {N:List Str} (hN:N.Nodup) {i j:Nat} {x:Str} (a:N[i]?=some x) (b:N[j]?=some x):i=j:=by
 obtain ⟨h1,e1⟩:=List.getElem?_eq_some_iff.mp a
 obtain ⟨h2,e2⟩:=List.getElem?_eq_some_iff.mp b
 exact (List.getElem_inj hN).mp (e1.trans e2.symm)
theorem mx {M:Model} {A:Around} {E:Value→Shared→Prop} {i:Nat} {x:Str} {v:V} {u:Value} {Q:Unit→Shared→Prop} (I:Inv X pins σ H s) (hN:X.N.Nodup) (hi:X.N[i]?=some x) (hx:Loc X.env.scope x) (r:bD v u)
  (h:∀ s',Inv X pins (σ.set i (some v)) H s'→(∃ a,Heap.SameBut a s.heap s'.heap∧(a=X.env.locals∨X.env.cells.lookup x=some a))→Q () s') (hf:X.fn x=true∨X.env.scope.names.lookup x=some .local:=by first | exact .inl rfl | exact .inr rfl | assumption):wpAny M A (storeName X.env x u) Q E s:=by
 obtain ⟨m,hn,hl⟩:=id I.loc
 have hcls:(X.env.scope.kind == .class || (X.env.scope.kind == .module && X.env.locals != X.env.globals))=false:=by rw [I.ok.kind]; rfl
 have hiσ:i < σ.length:=by rw [I.len]; exact (List.getElem?_eq_some_iff.mp hi).1
 have cne:=I.cne
 have tracked:∀ {a:Addr} {h':Heap},(∃ o,s.heap.get? a=some o∧H a=none)→Heap.SameBut a s.heap h'→HOk X.prog X.w H h':=fun {a h'} ha hs b ob e=>by
  obtain ⟨_,_,hfree⟩:=ha
  refine (I.hok b ob e).stay (fun c w' hc q=>(hs.2 c ?_).trans q) (fun _ q=>q) fun _ _ q=>q
  rintro rfl
  rcases hc with rfl | hc
  ·rw [hfree] at e; cases e
  ·rw [hfree] at hc; cases hc
 rcases hx with hk | hk
 ·refine wpAny_storeName_local hk hn (fun h' hn' hs=>?_) hcls
  obtain ⟨oL,_,_,hoL,_⟩:=id hn
  refine h _ ⟨I.ok,I.os,I.bare,⟨fun b o e n hb hx=>?_,fun b o e n hb hx=>?_,I.base.free,fun b o e hx=>?_,I.base.tups,I.base.frzs,I.base.tbls⟩,⟨_,hn',fun j y v' e1 e2 e3=>?_⟩,fun y c e=>?_,I.free,I.freeC,fun p hp=>?_,tracked ⟨oL,hoL,I.free⟩ hs,by simpa using I.len⟩ ⟨_,hs,.inl rfl⟩
  ·exact (hs.2 b (Nat.ne_of_lt (Nat.lt_of_lt_of_le (Heap.lt_size e) I.ok.above))).trans (I.base.keep b o e n hb hx)
  ·obtain ⟨sl,e1⟩:=I.base.slot b o e n hb hx
   exact ⟨sl,(hs.2 b (Nat.ne_of_lt (Nat.lt_of_lt_of_le (Heap.lt_size e) I.ok.above))).trans e1⟩
  ·obtain ⟨o',e1⟩:=I.base.there b o e hx
   exact ⟨o',(hs.2 b (Nat.ne_of_lt (Nat.lt_of_lt_of_le (Heap.lt_size e) I.ok.above))).trans e1⟩
  ·by_cases hj:j=i
   ·subst hj
    rw [hi] at e1; cases e1
    rw [List.getElem?_set_self hiσ] at e2
    cases e2
    exact ⟨u,r,.inl ⟨hk,by simp⟩⟩
   ·rw [List.getElem?_set_ne (Ne.symm hj)] at e2
    obtain ⟨u',r',q⟩:=hl j y v' e1 e2 e3
    refine ⟨u',r',?_⟩
    rcases q with ⟨k,e⟩ | ⟨k,c,e,z⟩
    ·refine .inl ⟨k,?_⟩
     have:y ≠ x:=fun e=>hj (oO hN e1 (e ▸ hi))
     simp [this,e]
    ·exact .inr ⟨k,c,e,z.sameBut hs (cne y c e)⟩
  ·obtain ⟨w',z⟩:=I.cell y c e
   exact ⟨w',z.sameBut hs (cne y c e)⟩
  ·obtain ⟨e,n,ne,nf,d⟩:=I.pin p hp
   exact ⟨(hs.2 p.1 ne).trans e,n,ne,nf,d⟩
 ·have hfn:X.fn x=true:=by
   rcases hf with z | z
   ·exact z
   ·rw [z] at hk; cases hk
  obtain ⟨c,hc⟩:=I.ok.has x (.inl hk)
  obtain ⟨w',z⟩:=I.cell x c hc
  refine wpAny_storeName_cell I.ok.kind hk hc z (fun h' hc' hs=>?_)
  obtain ⟨oc,hoc,hocd⟩:=id z
  refine h { s with heap:=h' } ⟨I.ok,I.os,I.bare,⟨fun b o e n hb hx=>?_,fun b o e n hb hx=>?_,I.base.free,fun b o e hx=>?_,I.base.tups,I.base.frzs,I.base.tbls⟩,⟨m,hn.sameBut hs (Ne.symm (cne x c hc)),fun j y v' e1 e2 e3=>?_⟩,fun y c' e=>?_,I.free,I.freeC,fun p hp=>?_,tracked ⟨oc,hoc,I.freeC x c hc⟩ hs,by simpa using I.len⟩ ⟨c,hs,.inr hc⟩
  ·exact (hs.2 b (Nat.ne_of_lt (Nat.lt_of_lt_of_le (Heap.lt_size e) (I.ok.cab x c hfn hc)))).trans (I.base.keep b o e n hb hx)
  ·obtain ⟨sl,e1⟩:=I.base.slot b o e n hb hx
   exact ⟨sl,(hs.2 b (Nat.ne_of_lt (Nat.lt_of_lt_of_le (Heap.lt_size e) (I.ok.cab x c hfn hc)))).trans e1⟩
  ·obtain ⟨o',e1⟩:=I.base.there b o e hx
   exact ⟨o',(hs.2 b (Nat.ne_of_lt (Nat.lt_of_lt_of_le (Heap.lt_size e) (I.ok.cab x c hfn hc)))).trans e1⟩
  ·by_cases hj:j=i
   ·subst hj
    rw [hi] at e1; cases e1
    rw [List.getElem?_set_self hiσ] at e2
    cases e2
    exact ⟨u,r,.inr ⟨.inl hk,c,hc,hc'⟩⟩
   ·rw [List.getElem?_set_ne (Ne.symm hj)] at e2
    obtain ⟨u',r',q⟩:=hl j y v' e1 e2 e3
    refine ⟨u',r',?_⟩
    rcases q with q | ⟨k,c',e,z'⟩
    ·exact .inl q
    ·refine .inr ⟨k,c',e,z'.sameBut hs ?_⟩
     rintro rfl
     exact hj (oO hN e1 (I.ok.inj _ _ _ e hc ▸ hi))
  ·by_cases hcc:c'=c
   ·subst hcc; exact ⟨_,hc'⟩
   ·obtain ⟨w2,z2⟩:=I.cell y c' e
    exact ⟨w2,z2.sameBut hs hcc⟩
  ·obtain ⟨e,n,ne,nf,d⟩:=I.pin p hp
   refine ⟨(hs.2 p.1 ?_).trans e,n,ne,nf,d⟩
   intro q
   rw [q,hoc] at e
   have q':oc=p.2:=Option.some.inj e
   exact d w' (by rw [← q']; exact hocd)
theorem pj {M:Model} {A:Around} {E:Value→Shared→Prop} {i:Nat} {x:Str} {v:V} {u:Value} {Q:Unit→Shared→Prop} (I:Inv X pins σ H s) (hN:X.N.Nodup) (hi:X.N[i]?=some x) (hx:Loc X.env.scope x) (r:bD v u)
  (h:∀ s',Inv X pins (σ.set i (some v)) H s'→Q () s') (hf:X.fn x=true∨X.env.scope.names.lookup x=some .local:=by first | exact .inl rfl | exact .inr rfl | assumption):wpAny M A (storeName X.env x u) Q E s :=
 mx I hN hi hx r (fun s' I' _=>h s' I') hf
theorem Inv.call' {s':Shared} {ch:List Addr} (I:Inv X pins σ H s) (ho:s'.os=s.os) (u:Un (frs X.stack) ch H H' s.heap s'.heap) (hok:HOk X.prog X.w H' s'.heap) (hg:AllBare s'.gens)
  (hch:∀ b∈ch,(b∈X.ex∨X.s₀.heap.objs.size≤b)∧b ≠ X.env.locals∧(∀ x c,X.env.cells.lookup x=some c→c ≠ b)∧∀ p∈X.pn ++ pins,p.1 ≠ b):Inv X pins σ H' s':=by
 obtain ⟨h',g',d',t',o'⟩:=s'
 have e:o'=s.os:=ho
 subst e
 exact I.call (g':=g') (t':=t') (d':=d') u hok hg hch
end
abbrev XK:=Value→Option Addr→Hp→Prop
abbrev St:=List (Option V)
abbrev VK:=V→Hp→Prop
abbrev TE:=St→Hp→VK→Prop
abbrev TT:=St→Hp→(Bool→Hp→Prop)→Prop
abbrev TA:=St→Hp→(List V→Hp→Prop)→Prop
structure nk where
 nx:St→Hp→Prop
 rt:VK
 bk:St→Hp→Prop:=fun _ _=>False
 ct:St→Hp→Prop:=fun _ _=>False
abbrev TS:=nk→St→Hp→Prop
def EP (X:Cx) (pins:List (Addr × Obj)) (σ:St) (Q:VK) (u:Value) (s':Shared):Prop:=∃ v H',Inv X pins σ H' s'∧bD v u∧Q v H'
def TP (X:Cx) (pins:List (Addr × Obj)) (σ:St) (Q:Bool→Hp→Prop) (b:Bool) (s':Shared):Prop:=∃ H',Inv X pins σ H' s'∧Q b H'
def AP (X:Cx) (pins:List (Addr × Obj)) (σ:St) (Q:List V→Hp→Prop) (us:List Value) (s':Shared):Prop:=∃ vs H',Inv X pins σ H' s'∧bi vs us∧Q vs H'
def SP (X:Cx) (pins:List (Addr × Obj)) (D:nk) (f:Flow) (s':Shared):Prop :=
 match f with
 | .next=>∃ σ' H',Inv X pins σ' H' s'∧D.nx σ' H'
 | .brk=>∃ σ' H',Inv X pins σ' H' s'∧D.bk σ' H'
 | .cont=>∃ σ' H',Inv X pins σ' H' s'∧D.ct σ' H'
 | .ret u=>∃ v σ' H',Inv X pins σ' H' s'∧bD v u∧D.rt v H'
def PE (X:Cx) (e:Expr) (t:TE):Prop :=
 ∀ (pins:List (Addr × Obj)) (s:Shared) (σ:St) (H:Hp) (Q:VK),Inv X pins σ H s→t σ H Q→wpAny (model X.prog X.w) X.A (eval e X.env) (EP X pins σ Q) X.xe s
def PT (X:Cx) (e:Expr) (t:TT):Prop :=
 ∀ (pins:List (Addr × Obj)) (s:Shared) (σ:St) (H:Hp) (Q:Bool→Hp→Prop),Inv X pins σ H s→t σ H Q→wpAny (model X.prog X.w) X.A (isTrue e X.env (eval e X.env)) (TP X pins σ Q) X.xe s
def PW (X:Cx) (e:Expr) (t:TT):Prop :=
 ∀ (whole:Sem Value) (pins:List (Addr × Obj)) (s:Shared) (σ:St) (H:Hp) (Q:Bool→Hp→Prop),Inv X pins σ H s→t σ H Q→wpAny (model X.prog X.w) X.A (isTrue e X.env whole) (TP X pins σ Q) X.xe s
theorem PW.pt {X:Cx} {e:Expr} {t:TT} (h:PW X e t):PT X e t:=h _
def PA (X:Cx) (es:List Expr) (t:TA):Prop :=
 ∀ (pos:Pos) (pins:List (Addr × Obj)) (s:Shared) (σ:St) (H:Hp) (Q:List V→Hp→Prop),Inv X pins σ H s→t σ H Q→wpAny (model X.prog X.w) X.A (spliced (backTo pos (starEach es X.env))) (AP X pins σ Q) X.xe s
def PS (X:Cx) (st:Stmt) (t:TS):Prop :=
 ∀ (pins:List (Addr × Obj)) (s:Shared) (σ:St) (H:Hp) (D:nk),Inv X pins σ H s→t D σ H→wpAny (model X.prog X.w) X.A (exec st X.env) (SP X pins D) X.xe s
def PSs (X:Cx) (st:List Stmt) (t:TS):Prop :=
 ∀ (pins:List (Addr × Obj)) (s:Shared) (σ:St) (H:Hp) (D:nk),Inv X pins σ H s→t D σ H→wpAny (model X.prog X.w) X.A (execs st X.env) (SP X pins D) X.xe s
theorem thn {α:Type} {t:Sem α} {Q Q':α→Shared→Prop} {M:Model} {A:Around} {E:Value→Shared→Prop} {s:Shared} (h:wpAny M A t Q E s) (hQ:∀ a s,Q a s→Q' a s):wpAny M A t Q' E s:=wpAny_mono h hQ fun _ _ x=>x
end L2
namespace L2
open PySem PySem.Spec PyProof.Rows
section
variable {X:Cx}
def tV (i:Nat):TE:=fun σ H Q=>∃ v,σ[i]?=some (some v)∧Q v H
def tC (v:V):TE:=fun _ H Q=>Q v H
theorem xW {i:Nat} {x:Str} {pos:Pos} (hN:X.N[i]?=some x) (hv:Vis X.env.scope x) (hd:(x == ("__debug__":Str))=false:=by decide) (hcd:(x == ("__classdict__":Str))=false:=by decide):PE X (.Name x pos) (tV i):=by
 intro pins s σ H Q I h
 obtain ⟨v,e,h⟩:=h
 obtain ⟨m,hn,hl⟩:=I.loc
 obtain ⟨u,r,l⟩:=hl i x v hN e hv
 have fin:EP X pins σ Q u s:=⟨v,H,I,r,h⟩
 rcases l with ⟨hk,hm⟩ | ⟨hk,c,hc,hcell⟩
 ·exact wpAny_Name (wpAny_loadName_local I.ok.kind hk hn hm fin) hd
 ·rcases hk with hk | hk
  ·exact wpAny_Name (wpAny_loadName_cell I.ok.kind hk hc hcell fin) hd
  ·exact wpAny_Name (wpAny_loadName_free I.ok.kind hk hc hcell fin hcd) hd
theorem xP {i j pos}:PE X (.Constant (.int i) j pos) (tC (.int i)):=fun _ _ _ H _ I h=>wpAny_Constant_int ⟨.int i,H,I.tok _,⟨_,rfl⟩,h⟩
theorem zW {b j pos}:PE X (.Constant (.bool b) j pos) (tC (.bl b)):=fun _ _ _ H _ I h=>Constant_bool ⟨.bl b,H,I,rfl,h⟩
theorem yX {j pos}:PE X (.Constant .none j pos) (tC .non):=fun _ _ _ H _ I h=>Constant_none ⟨.non,H,I,rfl,h⟩
theorem yV {x j pos}:PE X (.Constant (.str x) j pos) (tC (.str x)):=fun _ _ _ H _ I h=>Calls.Constant_str ⟨.str x,H,I.tok _,⟨_,rfl⟩,h⟩
def Gl (X:Cx) (x:Str):Prop:=X.env.kindOf x=some .globalImplicit
theorem ij {E:Value→Shared→Prop} {pins:List (Addr × Obj)} {s:Shared} {σ:St} {H:Hp} {x:Str} {u:Value} {pos:Pos} {Q:Value→Shared→Prop} (I:Inv X pins σ H s) (hg:Gl X x) (hm:X.mg x=some u) (h:Q u s)
  (hd:(x == ("__debug__":Str))=false:=by decide):wpAny (model X.prog X.w) X.A (eval (.Name x pos) X.env) Q E s :=
 Calls.Name_function_global I.ok.kind hg (Calls.loadGlobal_global (by rw [I.ok.glob]; exact I.mod.glob.keeps I.bk) hm h) hd
theorem jG {E:Value→Shared→Prop} {pins:List (Addr × Obj)} {s:Shared} {σ:St} {H:Hp} {x:Str} {u:Value} {pos:Pos} {Q:Value→Shared→Prop} (I:Inv X pins σ H s) (hg:Gl X x) (hm:X.mg x=none) (hv:bootBuiltins x=some u) (h:Q u s)
  (hn:x ≠ "__name__":=by decide) (hd:(x == ("__debug__":Str))=false:=by decide):wpAny (model X.prog X.w) X.A (eval (.Name x pos) X.env) Q E s:=by
 obtain ⟨mb,h1,h2⟩:=I.mod.blt
 exact Calls.Name_function_global I.ok.kind hg (Calls.loadGlobal_builtin (by rw [I.ok.glob]; exact I.mod.glob.keeps I.bk) hm (by rw [I.ok.blt]; exact h1.keeps I.bk) ((h2 x hn).trans hv) h) hd
theorem wN {x:Str} {v:V} {u:Value} {pos:Pos} (hg:Gl X x) (hm:X.mg x=some u) (r:bD v u) (hd:(x == ("__debug__":Str))=false:=by decide):PE X (.Name x pos) (tC v) :=
 fun _ _ _ H _ I h=>ij I hg hm ⟨v,H,I,r,h⟩ hd
variable {a b:Expr} {ta tb:TE} {pos:Pos}
def tB (t:TE):TT:=fun σ H Q=>t σ H fun x H1=>∃ c,x=.bl c∧Q c H1
theorem zo {e:Expr} {t:TE} (h:PE X e t) (he:∀ whole,isTrue e X.env whole=(do let v ← whole; standAt e.pos; holding [v] (truthy v)):=by intro _; rfl):PT X e (tB t):=by
 intro pins s σ H Q I hw
 refine isTrue_plain (thn (h pins s σ H _ I hw) fun v s1 ⟨x,H1,I1,r1,q1⟩=>?_) (he _)
 obtain ⟨d,rfl,q⟩:=q1
 cases r1
 exact wpAny_truthy_bool ⟨H1,I1,q⟩
variable {tA tB':TT} {rest:List Expr}
def Bj (t u:TT):TT:=fun σ H Q=>t σ H fun c H1=>if c=true then u σ H1 Q else Q false H1
def Be (t:TT):TT:=fun σ H Q=>t σ H fun c H1=>Q (!c) H1
theorem w6 (ha:PT X a tA):PW X (.BoolOp .And [a] pos) tA:=by
 intro wh pins s σ H Q I h
 refine isTrue_and (thn (ha pins s σ H Q I h) fun c s1 e=>?_)
 cases c with
 | true=>exact isTrue_and_nil e
 | false=>exact e
theorem yA (ha:PT X a tA) (hb:PW X (.BoolOp .And (b :: rest) pos) tB'):PW X (.BoolOp .And (a :: b :: rest) pos) (Bj tA tB'):=by
 intro wh pins s σ H Q I h
 refine isTrue_and (thn (ha pins s σ H _ I h) fun c s1 ⟨H1,I1,q1⟩=>?_)
 cases c with
 | true=>exact hb wh pins s1 σ H1 Q I1 q1
 | false=>exact ⟨H1,I1,q1⟩
theorem xY (ha:PT X a tA):PT X (.UnaryOp .Not a pos) (Be tA):=by
 intro pins s σ H Q I h
 exact isTrue_not (ha pins s σ H (fun c H1=>Q (!c) H1) I h)
def zF (ta tb:TE):TE:=fun σ H Q=>ta σ H fun x H1=>∃ c,x=.bl c∧if c=true then tb σ H1 Q else Q (.bl false) H1
def AU (ta tb:TE):TE:=fun σ H Q=>ta σ H fun x H1=>∃ c,x=.bl c∧if c=true then Q (.bl true) H1 else tb σ H1 Q
theorem y' {op} {t:TE} (h:PE X a t):PE X (.BoolOp op [a] pos) t:=fun pins s σ H Q I hw=>BoolOp_one (h pins s σ H Q I hw)
theorem yY (ha:PE X a ta) (hb:PE X (.BoolOp .And (b :: rest) pos) tb):PE X (.BoolOp .And (a :: b :: rest) pos) (zF ta tb):=by
 intro pins s σ H Q I h
 refine BoolOp_and (thn (ha pins s σ H _ I h) fun v s1 ⟨x,H1,I1,r1,q1⟩=>?_)
 obtain ⟨c,rfl,q1⟩:=q1
 cases r1
 refine wpAny_truthy_bool ?_
 cases c with
 | true=>exact hb pins s1 σ H1 Q I1 q1
 | false=>exact ⟨.bl false,H1,I1,rfl,q1⟩
theorem z0 (ha:PE X a ta) (hb:PE X (.BoolOp .Or (b :: rest) pos) tb):PE X (.BoolOp .Or (a :: b :: rest) pos) (AU ta tb):=by
 intro pins s σ H Q I h
 refine BoolOp_or (thn (ha pins s σ H _ I h) fun v s1 ⟨x,H1,I1,r1,q1⟩=>?_)
 obtain ⟨c,rfl,q1⟩:=q1
 cases r1
 refine wpAny_truthy_bool ?_
 cases c with
 | false=>exact hb pins s1 σ H1 Q I1 q1
 | true=>exact ⟨.bl true,H1,I1,rfl,q1⟩
def tIf (t:TT) (ta tb:TE):TE:=fun σ H Q=>t σ H fun c H1=>if c=true then ta σ H1 Q else tb σ H1 Q
theorem ub {c:Expr} (hc:PT X c tA) (ha:PE X a ta) (hb:PE X b tb):PE X (.IfExp c a b pos) (tIf tA ta tb):=by
 intro pins s σ H Q I h
 refine wpAny_IfExp (thn (hc pins s σ H _ I h) fun d s1 ⟨H1,I1,q1⟩=>?_)
 cases d with
 | true=>exact ha pins s1 σ H1 Q I1 q1
 | false=>exact hb pins s1 σ H1 Q I1 q1
end
end L2
namespace L2
open PySem PySem.Spec PyProof.Rows
def SqL (K:PySem.W.Frag) (H:Hp) (a:Addr) (xs:List V):Prop :=
 Rd H a (.lst xs) ∨
  ∃ (o:Obj) (its:Array Value) (n:Nat),K.lookup a=some o∧o.cls=.type "list"∧o.dict=none∧o.data=.seq its n∧its.size≤sizeLine∧bi xs its.toList
def SqT (K:PySem.W.Frag) (H:Hp) (a:Addr) (xs:List V):Prop :=
 Rd H a (.tup xs) ∨
  ∃ (o:Obj) (its:Array Value) (n:Nat),K.lookup a=some o∧o.cls=.type "tuple"∧o.dict=none∧o.data=.seq its n∧its.size≤sizeLine∧bi xs its.toList
def AR:Value→Option V
 | .none=>some .non
 | .bool b=>some (.bl b)
 | .int i _=>some (.int i)
 | .str x _=>some (.str x)
 | .bytes b _=>some (.byt b)
 | .float b _=>some (.flt b)
 | .ref a=>some (.ref a)
 | .type n=>some (.ty n)
 | _=>none
theorem bD.abs {x:V} {u:Value} (r:bD x u):AR u=some x:=by
 cases x with
 | non=>cases r; rfl
 | bl _=>cases r; rfl
 | int _=>obtain ⟨t,rfl⟩:=r; rfl
 | str _=>obtain ⟨t,rfl⟩:=r; rfl
 | byt _=>obtain ⟨t,rfl⟩:=r; rfl
 | flt _=>obtain ⟨t,rfl⟩:=r; rfl
 | ref _=>cases r; rfl
 | ty _=>cases r; rfl
theorem bD.inj {x y:V} {u:Value} (r:bD x u) (q:bD y u):x=y:=Option.some.inj (r.abs.symm.trans q.abs)
theorem bi.inj:∀ {xs ys:List V} {us:List Value},bi xs us→bi ys us→xs=ys
 | _,_,_,.nil,.nil=>rfl
 | _,_,_,.cons r t,.cons r' t'=>by rw [r.inj r',bi.inj t t']
section
variable {X:Cx} {pins:List (Addr × Obj)} {σ:St} {H:Hp} {s:Shared} {a:Addr} {xs ys:List V}
theorem SqT.of {K:PySem.W.Frag} (h:H a=some (.tup xs)):SqT K H a xs:=.inl (.inl h)
theorem Inv.list (I:Inv X pins σ H s) (h:SqL X.K H a xs):∃ its:List Value,bi xs its∧PlainL s.heap a its.toArray∧xs.length≤sizeLine:=by
 rcases h with h | ⟨o,its,n,hk,hc,hd,hs,hz,r⟩
 ·obtain ⟨z,its,n,r,e⟩:=h.ok I.hok
  exact ⟨its,r,⟨_,n,e,rfl,rfl,rfl⟩,z⟩
 ·refine ⟨its.toList,r,⟨o,n,I.kIn a o hk,hc,hd,by simpa using hs⟩,?_⟩
  have e:=r.length
  simp only [Array.length_toList] at e
  omega
theorem Inv.tupleN (I:Inv X pins σ H s) (h:SqT X.K H a xs):∃ its:List Value,bi xs its∧lO s.heap a its.toArray∧xs.length≤sizeLine:=by
 rcases h with h | ⟨o,its,n,hk,hc,hd,hs,hz,r⟩
 ·obtain ⟨z,its,r,p⟩:=h.ok I.hok
  exact ⟨its,r,p,z⟩
 ·refine ⟨its.toList,r,⟨o,I.kIn a o hk,hc,⟨n,by simpa using hs⟩,hd⟩,?_⟩
  have e:=r.length
  simp only [Array.length_toList] at e
  omega
theorem Inv.tuple (I:Inv X pins σ H s) (h:SqT X.K H a xs):∃ its:List Value,bi xs its∧IsTup s.heap a its.toArray∧xs.length≤sizeLine:=by
 rcases h with h | ⟨o,its,n,hk,hc,hd,hs,hz,r⟩
 ·obtain ⟨z,its,r,p⟩:=h.ok I.hok
  exact ⟨its,r,p.is,z⟩
 ·refine ⟨its.toList,r,⟨o,I.kIn a o hk,hc,n,by simpa using hs⟩,?_⟩
  have e:=r.length
  simp only [Array.length_toList] at e
  omega
theorem Inv.list_inj (I:Inv X pins σ H s) (h:SqL X.K H a xs) (h':SqL X.K H a ys):xs=ys:=by
 obtain ⟨its,r,⟨o,n,e,_,_,d⟩,_⟩:=I.list h
 obtain ⟨its',r',⟨o',n',e',_,_,d'⟩,_⟩:=I.list h'
 rw [e] at e'; cases e'
 rw [d] at d'
 injection d' with d1 _
 have:its=its':=by simpa using congrArg Array.toList d1
 subst this
 exact r.inj r'
theorem Inv.tuple_inj (I:Inv X pins σ H s) (h:SqT X.K H a xs) (h':SqT X.K H a ys):xs=ys:=by
 obtain ⟨its,r,⟨o,e,_,n,d⟩,_⟩:=I.tuple h
 obtain ⟨its',r',⟨o',e',_,n',d'⟩,_⟩:=I.tuple h'
 rw [e] at e'; cases e'
 rw [d] at d'
 injection d' with d1 _
 have:its=its':=by simpa using congrArg Array.toList d1
 subst this
 exact r.inj r'
end
abbrev Cx.wish (X:Cx) (E:Value→Shared→Prop):Cx:={ X with xe:=E }
abbrev Cx.nox (X:Cx):Cx:=X.wish fun _ _=>False
theorem Cx.Ok.wish {X:Cx} (ok:X.Ok) (E:Value→Shared→Prop):(X.wish E).Ok :=
 ⟨ok.mod,ok.kind,ok.glob,ok.blt,ok.above,ok.inj,ok.has,ok.cab,ok.hd,ok.frames,ok.stk,ok.exf,ok.bs,ok.bsz,ok.noex,ok.exfs,ok.funs,ok.frf⟩
theorem Cx.Ok.unwish {X:Cx} {E:Value→Shared→Prop} (ok:(X.wish E).Ok):X.Ok :=
 ⟨ok.mod,ok.kind,ok.glob,ok.blt,ok.above,ok.inj,ok.has,ok.cab,ok.hd,ok.frames,ok.stk,ok.exf,ok.bs,ok.bsz,ok.noex,ok.exfs,ok.funs,ok.frf⟩
section
variable {X:Cx} {pins:List (Addr × Obj)} {σ:St} {H:Hp} {s:Shared} {E:Value→Shared→Prop}
theorem Inv.wish (I:Inv X pins σ H s) (E:Value→Shared→Prop):Inv (X.wish E) pins σ H s:=⟨I.ok.wish E,I.os,I.bare,I.base,I.loc,I.cell,I.free,I.freeC,I.pin,I.hok,I.len⟩
theorem Inv.unwish (I:Inv (X.wish E) pins σ H s):Inv X pins σ H s:=⟨I.ok.unwish,I.os,I.bare,I.base,I.loc,I.cell,I.free,I.freeC,I.pin,I.hok,I.len⟩
theorem SP.unwish {D:nk} {f:Flow} {s':Shared} (h:SP (X.wish E) pins D f s'):SP X pins D f s':=by
 cases f with
 | next=>obtain ⟨σ',H',I,q⟩:=h; exact ⟨σ',H',I.unwish,q⟩
 | brk=>obtain ⟨σ',H',I,q⟩:=h; exact ⟨σ',H',I.unwish,q⟩
 | cont=>obtain ⟨σ',H',I,q⟩:=h; exact ⟨σ',H',I.unwish,q⟩
 | ret u=>obtain ⟨v,σ',H',I,r,q⟩:=h; exact ⟨v,σ',H',I.unwish,r,q⟩
theorem PSs.nox {st:List Stmt} {t:TS} (h:PSs X.nox st t):PSs X st t:=fun pins s σ H D I hw =>
 wpAny_mono (h pins s σ H D (I.wish _) hw) (fun _ _ q=>q.unwish) fun _ _ z=>False.elim z
end
section
variable {X:Cx} {st:Stmt} {rest:List Stmt} {t u:TS} {e:Expr} {te:TE} {pos:Pos}
def Ap:TS:=fun D σ H=>D.nx σ H
def Bh (t u:TS):TS:=fun D σ H=>t { D with nx:=u D } σ H
theorem v5:PSs X [] Ap:=fun _ _ σ H _ I h=>wpAny_execs_nil ⟨σ,H,I,h⟩
theorem tR (h1:PS X st t) (h2:PSs X rest u):PSs X (st :: rest) (Bh t u):=by
 intro pins s σ H D I h
 refine wpAny_execs_cons (thn (h1 pins s σ H { D with nx:=u D } I h) fun f s1 q=>?_)
 cases f with
 | next =>
  obtain ⟨σ',H',I',q⟩:=q
  exact h2 pins s1 σ' H' D I' q
 | ret v=>exact q
 | brk=>exact q
 | cont=>exact q
theorem qL (h1:PS X st t):PSs X [st] t:=by
 intro pins s σ H D I h
 refine wpAny_execs_cons (thn (h1 pins s σ H D I h) fun f s1 q=>?_)
 cases f with
 | next=>exact wpAny_execs_nil q
 | ret v=>exact q
 | brk=>exact q
 | cont=>exact q
def Ak:TS:=fun D σ H=>D.ct σ H
theorem nZ:PS X (.Continue pos) Ak:=fun _ _ σ H _ I h=>wpAny_Continue ⟨σ,H,I,h⟩
theorem Inv.quiet {pins:List (Addr × Obj)} {σ:St} {H:Hp} {s:Shared} (I:Inv X pins σ H s):interactive X.env=false:=by simp [interactive,I.ok.kind]
def AB (te:TE):TS:=fun D σ H=>te σ H fun _ H1=>D.nx σ H1
theorem vF (he:PE X e te) (hs:swapsWith e none pos.line X.env=pure false:=by rfl):PS X (.Expr e pos) (AB te):=by
 intro pins s σ H D I h
 exact wpAny_Expr_any (thn (he pins s σ H _ I h) fun v s1 ⟨x,H1,I1,r1,q1⟩=>⟨σ,H1,I1,q1⟩) I.quiet hs
def AM (te:TE):TS:=fun D σ H=>te σ H D.rt
theorem xS (he:PE X e te):PS X (.Return (some e) pos) (AM te):=by
 intro pins s σ H D I h
 exact wpAny_Return_some (thn (he pins s σ H _ I h) fun v s1 ⟨x,H1,I1,r1,q1⟩=>⟨x,σ,H1,I1,r1,q1⟩)
def AN (c:TT) (t u:TS):TS:=fun D σ H=>c σ H fun b H1=>if b=true then t D σ H1 else u D σ H1
theorem zz {c:Expr} {a b:List Stmt} {tc:TT} (hc:PT X c tc) (ha:PSs X a t) (hb:PSs X b u):PS X (.If c a b pos) (AN tc t u):=by
 intro pins s σ H D I h
 refine wpAny_If (thn (hc pins s σ H _ I h) fun d s1 ⟨H1,I1,q1⟩=>?_)
 cases d with
 | true=>exact ha pins s1 σ H1 D I1 q1
 | false=>exact hb pins s1 σ H1 D I1 q1
def yJ:TS:=fun _ _ _=>False
theorem tz:PS X st yJ:=fun _ _ _ _ _ _ h=>h.elim
end
abbrev TG:=V→St→Hp→(St→Hp→Prop)→Prop
abbrev TGs:=List V→St→Hp→(St→Hp→Prop)→Prop
def PG (X:Cx) (target:Expr) (t:TG):Prop :=
 ∀ (pins:List (Addr × Obj)) (s:Shared) (σ:St) (H:Hp) (v:V) (u:Value) (Q:St→Hp→Prop),Inv X pins σ H s→bD v u→t v σ H Q →
  wpAny (model X.prog X.w) X.A (assign target X.env u) (fun _ s'=>∃ σ' H',Inv X pins σ' H' s'∧Q σ' H') X.xe s
def PGs (X:Cx) (ts:List Expr) (t:TGs):Prop :=
 ∀ (pins:List (Addr × Obj)) (s:Shared) (σ:St) (H:Hp) (vs:List V) (us:List Value) (Q:St→Hp→Prop),Inv X pins σ H s→bi vs us→t vs σ H Q →
  wpAny (model X.prog X.w) X.A (assignInOrder ((assignEach ts X.env).map (·.2)) us) (fun _ s'=>∃ σ' H',Inv X pins σ' H' s'∧Q σ' H') X.xe s
abbrev zd:=V→V→V→Hp→(Hp→Prop)→Prop
def As (X:Cx) (t:zd):Prop :=
 ∀ (pins:List (Addr × Obj)) (s:Shared) (σ:St) (H:Hp) (o i v:V) (ov iv u:Value) (Q:Hp→Prop),Inv X pins σ H s→bD o ov→bD i iv→bD v u→t o i v H Q →
  wpAny (model X.prog X.w) X.A (setItem ov iv u) (fun _ s'=>∃ H',Inv X pins σ H' s'∧Q H') X.xe s
section
variable {X:Cx} {pos:Pos}
def tJ (i:Nat):TG:=fun v σ H Q=>Q (σ.set i (some v)) H
theorem vK {i:Nat} {x:Str} (hN:X.N.Nodup) (hi:X.N[i]?=some x) (hx:Loc X.env.scope x) (hf:X.fn x=true∨X.env.scope.names.lookup x=some .local:=by first | exact .inl rfl | exact .inr rfl | assumption):PG X (.Name x pos) (tJ i):=by
 intro pins s σ H v u Q I r h
 exact wpAny_assign_Name (pj I hN hi hx r (fun s' I'=>⟨_,H,I',h⟩) hf)
def A7:TGs:=fun vs σ H Q=>vs=[]∧Q σ H
def zy (t:TG) (u:TGs):TGs:=fun vs σ H Q=>∃ v r,vs=v :: r∧t v σ H fun σ' H'=>u r σ' H' Q
theorem vp:PGs X [] A7:=by
 intro pins s σ H vs us Q I r h
 obtain ⟨e,h⟩:=h
 subst e
 cases r
 exact assignInOrder_nil ⟨σ,H,I,h⟩
theorem tM {e:Expr} {es:List Expr} {t:TG} {u:TGs} (h1:PG X e t) (h2:PGs X es u)
  (hs:(assignEach (e :: es) X.env).map (·.2)=assign e X.env :: (assignEach es X.env).map (·.2):=by rfl):PGs X (e :: es) (zy t u):=by
 intro pins s σ H vs us Q I r h
 obtain ⟨v,vr,e1,h⟩:=h
 subst e1
 cases r with
 | cons r rr =>
  rw [hs]
  refine assignInOrder_cons (thn (h1 pins s σ H _ _ _ I r h) fun _ s1 ⟨σ1,H1,I1,q1⟩=>?_)
  exact h2 pins s1 σ1 H1 _ _ Q I1 rr q1
def Ba (K:PySem.W.Frag) (n:Nat) (t:TGs):TG:=fun v σ H Q=>∃ a xs,v=.ref a∧SqT K H a xs∧xs.length=n∧t xs σ H Q
theorem xz {es:List Expr} {k:Nat} {t:TGs} {n:Nat} (hc:X.calm=true) (h:PGs X es t)
  (hn:(assignEach es X.env).length=n:=by rfl) (hst:(assignEach es X.env).findIdx? (·.1)=none:=by rfl):PG X (.Tuple es k pos) (Ba X.K n t):=by
 intro pins s σ H v u Q I r hw
 obtain ⟨a,xs,e1,hq,hl,hw⟩:=hw
 subst e1
 cases r
 obtain ⟨its,rv,ht,hz⟩:=I.tuple hq
 refine assign_Tuple_tuple (I.ok.hd hc) ht (by simp [hn,← hl,rv.length]) hst fun h' hx=>?_
 have I1:Inv X pins σ H { s with heap:=h' }:=I.kept (t':=s.toks) fun b o e=>hx b o (Nat.ne_of_lt (Heap.lt_size e)) e
 exact h pins _ σ H xs _ Q I1 (by simpa using rv) hw
def AY (to ti:TE) (t:zd):TG:=fun v σ H Q=>to σ H fun o H1=>ti σ H1 fun i H2=>t o i v H2 fun H3=>Q σ H3
theorem xA {o i:Expr} {to ti:TE} {t:zd} (ho:PE X o to) (hi:PE X i ti) (hs:As X t)
  (ha:∀ v,assign (.Subscript o i pos) X.env v=(do
   let ov ← holding [v] (eval o X.env)
   let iv ← holding [v,ov] (eval i X.env)
   standAt pos
   holding [v,ov,iv] (setItem ov iv v)
   release [v,ov,iv] []):=by intro _; rfl):PG X (.Subscript o i pos) (AY to ti t):=by
 intro pins s σ H v u Q I r h
 rw [ha]
 refine wpAny_bind (wpAny_holding (thn (ho pins s σ H _ I h) fun ov s1 ⟨x,H1,I1,r1,q1⟩=>?_))
 refine wpAny_bind (wpAny_holding (thn (hi pins s1 σ H1 _ I1 q1) fun iv s2 ⟨y,H2,I2,r2,q2⟩=>?_))
 refine wpAny_bind (wpAny_standAt (wpAny_bind (wpAny_holding (thn (hs pins s2 σ H2 x y v ov iv u _ I2 r1 r2 r q2) fun _ s3 ⟨H3,I3,q3⟩=>?_))))
 exact wpAny_release ⟨σ,H3,I3,q3⟩
def zg (te:TE) (g:TG):TS:=fun D σ H=>te σ H fun x H1=>g x σ H1 D.nx
theorem zu {tg e:Expr} {te:TE} {g:TG} (he:PE X e te) (hg:PG X tg g) (hs:swapsWithSole [tg] e pos.line X.env=pure false:=by rfl) (hw:swappedStores [tg] e X.env=pure none:=by rfl)
  (h1:(assignEach [tg] X.env).map (·.2)=[assign tg X.env]:=by rfl):PS X (.Assign [tg] e pos) (zg te g):=by
 intro pins s σ H D I h
 refine wpAny_Assign_stores (thn (he pins s σ H _ I h) fun v s1 ⟨x,H1,I1,r1,q1⟩=>?_) hs hw
 rw [h1]
 exact thn (hg pins s1 σ H1 x v _ I1 r1 q1) fun _ s2 q=>q
theorem zk {i:Nat} {x:Str} {e:Expr} {te:TE} {pos':Pos} (hN:X.N.Nodup) (hi:X.N[i]?=some x) (hx:Loc X.env.scope x) (he:PE X e te) (hs:swapsWith e (some (.Name x pos')) pos.line X.env=pure false:=by rfl) (hf:X.fn x=true∨X.env.scope.names.lookup x=some .local:=by first | exact .inl rfl | exact .inr rfl | assumption) :
  PS X (.Assign [.Name x pos'] e pos) (zg te (tJ i)):=by
 intro pins s σ H D I h
 refine wpAny_Assign_Name (thn (he pins s σ H _ I h) fun v s1 ⟨y,H1,I1,r1,q1⟩=>?_) hs
 exact pj I1 hN hi hx r1 (fun s2 I2=>⟨_,H1,I2,q1⟩) hf
end
section
variable {X:Cx} {pos:Pos}
def xV (c:TT) (tb:TS):TS:=fun D σ H=>∃ W:Nat→St→Hp→Prop,(∃ m,W m σ H)∧∀ m σ H,W m σ H →
 c σ H fun b H1=>if b=true then ∃ N:St→Hp→Prop,(∀ σ' H',N σ' H'→∃ m',m' < m∧W m' σ' H')∧tb { D with nx:=N,ct:=N,bk:=D.nx } σ H1 else D.nx σ H1
theorem tD {c:Expr} {body:List Stmt} {tc:TT} {tb:TS} (hp:PassesOwn (model X.prog X.w) X.A X.env X.xe) (hc:PT X c tc) (hb:PSs X body tb):PS X (.While c body [] pos) (xV tc tb):=by
 intro pins s σ H D I h
 obtain ⟨W,⟨m0,w0⟩,turn⟩:=h
 refine wpAny_While (codeAny_whileLoop (fun n s'=>∃ σ' H',Inv X pins σ' H' s'∧W n σ' H') ?_ m0 ⟨σ,H,I,w0⟩)
 rintro n s1 ⟨σ1,H1,I1,w1⟩
 refine wpAny_passesOwn hp (thn (hc pins s1 σ1 H1 _ I1 (turn n σ1 H1 w1)) fun b s2 ⟨H2,I2,q2⟩=>?_)
 cases b with
 | true =>
  obtain ⟨N,hN,q2⟩:=q2
  rw [if_pos rfl]
  refine wpAny_passesOwn hp (thn (hb pins s2 σ1 H2 _ I2 q2) fun f s3 q3=>?_)
  cases f with
  | next =>
   obtain ⟨σ3,H3,I3,n3⟩:=q3
   obtain ⟨m',hm,w3⟩:=hN σ3 H3 n3
   exact ⟨m',hm,σ3,H3,I3,w3⟩
  | cont =>
   obtain ⟨σ3,H3,I3,n3⟩:=q3
   obtain ⟨m',hm,w3⟩:=hN σ3 H3 n3
   exact ⟨m',hm,σ3,H3,I3,w3⟩
  | brk=>exact q3
  | ret v=>exact q3
 | false =>
  rw [if_neg Bool.false_ne_true]
  exact wpAny_execs_nil ⟨σ1,H2,I2,q2⟩
end
structure It where
 go:Nat→Hp→Prop
 yld:Nat→Hp→V→Hp→Prop
 stop:Nat→Hp→Prop
def kT (X:Cx) (pins:List (Addr × Obj)) (H:Hp) (b:Addr):Prop :=
 H b=none∧b ≠ X.env.locals∧b ∉ X.fs∧(b∈X.ex∨X.s₀.heap.objs.size≤b)∧(∀ x c,X.env.cells.lookup x=some c→c ≠ b)∧∀ p∈X.pn ++ pins,p.1 ≠ b
theorem Inv.fpOk {X:Cx} {pins:List (Addr × Obj)} {σ:St} {H H':Hp} {s:Shared} {b:Addr} (I:Inv X pins σ H s) (hb:s.heap.objs.size≤b) (hn:H' b=none):kT X pins H' b:=by
 refine ⟨hn,Nat.ne_of_gt (Nat.lt_of_lt_of_le I.lt hb),I.nofs hb,.inr (Nat.le_trans I.sz hb),fun x c e z=>?_,fun p hp z=>?_⟩
 ·obtain ⟨v,q⟩:=I.cell x c e
  exact absurd (Nat.lt_of_lt_of_le q.lt (by rw [z]; exact hb)) (Nat.lt_irrefl _)
 ·exact absurd (Nat.lt_of_lt_of_le (Heap.lt_size (I.pin p hp).1) (by rw [z]; exact hb)) (Nat.lt_irrefl _)
structure p0 (P:Program) (w:World) (K:PySem.W.Frag) (tg:Expr) (J:It) (fp:List Addr) (it:Addr) (tn:Nat→Heap→Prop):Prop where
 mem:it∈fp
 obj:∀ i h,tn i h→∀ b∈fp,∃ o,h.get? b=some o∧∀ v,o.data ≠ .cell v
 keep:∀ i h h',tn i h→(∀ b∈fp,∀ o,h.get? b=some o→h'.get? b=some o)→tn i h'
 item:∀ (X:Cx),X.prog=P→X.w=w→X.K=K→X.calm=true→∀ (i:Nat) (pins:List (Addr × Obj)) (s:Shared) (σ:St) (H:Hp) (E:Value→Shared→Prop),Inv X pins σ H s→(∀ b∈fp,kT X pins H b)→tn i s.heap→J.go i H →
  wpAny (model P w) X.A (pyNext (.ref it)) (fun r s1=>∃ u,r=some u ∧
   wpAny (model P w) X.A (letOwnedTupleGo tg (.ref it) u) (fun _ s2=>∃ x H',Inv X pins σ H' s2∧bD x u∧J.yld i H x H'∧tn (i + 1) s2.heap∧∀ b∈fp,H' b=none) E s1) E s
 done:∀ (X:Cx),X.prog=P→X.w=w→X.K=K→X.calm=true→∀ (i:Nat) (pins:List (Addr × Obj)) (s:Shared) (σ:St) (H:Hp) (E:Value→Shared→Prop),Inv X pins σ H s→(∀ b∈fp,kT X pins H b)→tn i s.heap→J.stop i H →
  wpAny (model P w) X.A (pyNext (.ref it)) (fun r s1=>r=none∧Inv X pins σ H s1) E s
 self:∀ (A:Around) (i:Nat) (s:Shared) (Q:Value→Shared→Prop) (E:Value→Shared→Prop),tn i s.heap→Q (.ref it) s→wpAny (model P w) A (pyIter (.ref it)) Q E s
abbrev TI:=St→Hp→(It→Hp→Prop)→Prop
def PIE (X:Cx) (pins:List (Addr × Obj)) (σ:St) (tg:Expr) (R:It→Hp→Prop) (itv:Value) (s2:Shared):Prop :=
 ∃ (it:Addr) (fp:List Addr) (tn:Nat→Heap→Prop) (J:It) (H':Hp),itv=.ref it∧Inv X pins σ H' s2∧p0 X.prog X.w X.K tg J fp it tn∧tn 0 s2.heap∧(∀ b∈fp,kT X pins H' b)∧R J H'
def PI (X:Cx) (tg iter:Expr) (wi:TI):Prop :=
 ∀ (pins:List (Addr × Obj)) (s:Shared) (σ:St) (H:Hp) (R:It→Hp→Prop),Inv X pins σ H s→wi σ H R →
  wpAny (model X.prog X.w) X.A (eval iter X.env) (fun v s1=>wpAny (model X.prog X.w) X.A (pyIter v) (PIE X pins σ tg R) X.xe s1) X.xe s
theorem qG {M:Model} {A:Around} {E:Value→Shared→Prop} {s:Shared} {tg:Expr} {it:Addr} {u:Value} {o:Obj} {n:String} {vs:Array Value} {Q:Unit→Shared→Prop} (ho:s.heap.get? it=some o) (hc:o.cls=.type n) (hd:o.data=.fields vs)
    (hn:["enumerate","zip","dict_itemiterator","dict_reverseitemiterator","odict_iterator","itertools.zip_longest","itertools.pairwise"].contains n=false) (hQ:Q () s):wpAny M A (letOwnedTupleGo tg (.ref it) u) Q E s:=by
  unfold letOwnedTupleGo
  cases tg <;> first
    | exact wpAny_pure hQ
    | (cases u <;> first
        | exact wpAny_pure hQ
        | (refine wpAny_bind (wpAny_load ho ?_)
           rw [hc,hd]
           show wpAny M A (if (["enumerate","zip","dict_itemiterator","dict_reverseitemiterator","odict_iterator","itertools.zip_longest","itertools.pairwise"].contains n && vs[0]? == some (rawInt _))=true then _ else _) Q E s
           rw [if_neg (by intro h; rw [hn,Bool.false_and] at h; cases h)]
           exact wpAny_pure hQ))
def Itl (K:PySem.W.Frag) (a:Addr):It :=
 ⟨fun i H=>∃ xs x,SqL K H a xs∧xs[i]?=some x,fun i H x H'=>H'=H∧∀ xs,SqL K H a xs→xs[i]?=some x,fun i H=>∃ xs,SqL K H a xs∧xs.length≤i⟩
def Itt (K:PySem.W.Frag) (a:Addr):It :=
 ⟨fun i H=>∃ xs x,SqT K H a xs∧xs[i]?=some x,fun i H x H'=>H'=H∧∀ xs,SqT K H a xs→xs[i]?=some x,fun i H=>∃ xs,SqT K H a xs∧xs.length≤i⟩
def Itr (lo:Int) (n:Nat):It:=⟨fun i _=>i < n,fun i H x H'=>H'=H∧x=.int (lo + i),fun i _=>n≤i⟩
theorem rR {P:Program} {w:World} {K:PySem.W.Frag} {tg:Expr} (a it:Addr):p0 P w K tg (Itl K a) [it] it (fun i h=>h.IsListIter it a i) where
 mem:=by simp
 obj:=fun i h st b hb=>by
  have e:b=it:=by simpa using hb
  subst e
  obtain ⟨o,e,c,d⟩:=st
  exact ⟨o,e,fun v z=>by rw [d] at z; cases z⟩
 keep:=fun i h h' st k=>st.at fun o e=>k it (by simp) o e
 item:=by
  intro X hP hw hK hc i pins s σ H E I hf st hg
  subst hP hw hK
  obtain ⟨xs,x,hq,hx⟩:=hg
  obtain ⟨its,rv,p,hz⟩:=I.list hq
  obtain ⟨u,hu,ru⟩:=rv.get hx
  obtain ⟨f0,f1,f2,f3,f4,f5⟩:=hf it (by simp)
  refine wpAny_pyNext_list_item st p.isList (x:=u) (by simpa using hu) fun h' st' sb=>?_
  have I1:Inv X pins σ H { s with heap:=h' }:=I.turned (t':=s.toks) (fun b o hb e=>(sb.2 b hb).trans e) f0 f1 f3 f4 f5
  obtain ⟨o,e,c,d⟩:=id st'
  exact ⟨u,rfl,qG (s:={ s with heap:=h' }) e c d (by decide) ⟨x,H,I1,ru,⟨rfl,fun ys hy=>by rw [I.list_inj hy hq]; exact hx⟩,st',fun b hb=>(hf b hb).1⟩⟩
 done:=by
  intro X hP hw hK hc i pins s σ H E I hf st hg
  subst hP hw hK
  obtain ⟨xs,hq,hx⟩:=hg
  obtain ⟨its,rv,p,hz⟩:=I.list hq
  obtain ⟨f0,f1,f2,f3,f4,f5⟩:=hf it (by simp)
  have hl:=rv.length
  exact wpAny_pyNext_list_end (I.ok.hd hc) st p.isList (by simp; omega) fun h' eb=>⟨rfl,I.turned (t':=s.toks) (fun b o hb e=>eb b o hb e) f0 f1 f3 f4 f5⟩
 self:=fun _ _ _ _ _ st h=>wpAny_pyIter_listiter st h
theorem p7 {P:Program} {w:World} {K:PySem.W.Frag} {tg:Expr} (a it:Addr):p0 P w K tg (Itt K a) [it] it (fun i h=>h.IsTupleIter it a i) where
 mem:=by simp
 obj:=fun i h st b hb=>by
  have e:b=it:=by simpa using hb
  subst e
  obtain ⟨o,e,c,d⟩:=st
  exact ⟨o,e,fun v z=>by rw [d] at z; cases z⟩
 keep:=fun i h h' st k=>st.at fun o e=>k it (by simp) o e
 item:=by
  intro X hP hw hK hc i pins s σ H E I hf st hg
  subst hP hw hK
  obtain ⟨xs,x,hq,hx⟩:=hg
  obtain ⟨its,rv,p,hz⟩:=I.tuple hq
  obtain ⟨u,hu,ru⟩:=rv.get hx
  obtain ⟨f0,f1,f2,f3,f4,f5⟩:=hf it (by simp)
  refine wpAny_pyNext_tuple_item st (show s.heap.IsTuple a its.toArray from p) (x:=u) (by simpa using hu) fun h' st' sb=>?_
  have I1:Inv X pins σ H { s with heap:=h' }:=I.turned (t':=s.toks) (fun b o hb e=>(sb.2 b hb).trans e) f0 f1 f3 f4 f5
  obtain ⟨o,e,c,d⟩:=id st'
  exact ⟨u,rfl,qG (s:={ s with heap:=h' }) e c d (by decide) ⟨x,H,I1,ru,⟨rfl,fun ys hy=>by rw [I.tuple_inj hy hq]; exact hx⟩,st',fun b hb=>(hf b hb).1⟩⟩
 done:=by
  intro X hP hw hK hc i pins s σ H E I hf st hg
  subst hP hw hK
  obtain ⟨xs,hq,hx⟩:=hg
  obtain ⟨its,rv,p,hz⟩:=I.tuple hq
  obtain ⟨f0,f1,f2,f3,f4,f5⟩:=hf it (by simp)
  have hl:=rv.length
  exact wpAny_pyNext_tuple_end (I.ok.hd hc) st (show s.heap.IsTuple a its.toArray from p) (by simp; omega) fun h' eb=>⟨rfl,I.turned (t':=s.toks) (fun b o hb e=>eb b o hb e) f0 f1 f3 f4 f5⟩
 self:=fun _ _ _ _ _ st h=>wpAny_pyIter_tupleiter st h
theorem pL {P:Program} {w:World} {K:PySem.W.Frag} {tg:Expr} (it:Addr) (lo:Int) (n:Nat):p0 P w K tg (Itr lo n) [it] it (fun i h=>IsRangeIter h it (lo + (i:Nat) * 1) ((n:Int) - (i:Nat)) 1) where
 mem:=by simp
 obj:=fun i h st b hb=>by
  have e:b=it:=by simpa using hb
  subst e
  exact ⟨_,st,fun v z=>by
   have z':Data.fields _=Data.cell v:=z
   cases z'⟩
 keep:=fun i h h' st k=>k it (by simp) _ st
 item:=by
  intro X hP hw hK hc i pins s σ H E I hf st hg
  subst hP hw hK
  obtain ⟨f0,f1,f2,f3,f4,f5⟩:=hf it (by simp)
  have W:=Walks.range (prog:=X.prog) (w:=X.w) (I.ok.hd hc) it lo 1 n
  refine W.item i s _ _ hg st fun v h' tk hv st' kk=>?_
  obtain ⟨t,rfl⟩:=hv
  have I1:Inv X pins σ H { s with heap:=h',toks:=tk }:=I.turned (fun b o hb e=>kk b o (by simpa using hb) e) f0 f1 f3 f4 f5
  refine ⟨_,rfl,qG (s:={ s with heap:=h',toks:=tk }) (n:="range_iterator") st' rfl rfl (by decide) ⟨.int (lo + i),H,I1,⟨t,?_⟩,⟨rfl,rfl⟩,st',fun b hb=>(hf b hb).1⟩⟩
  rw [Int.mul_one]
 done:=by
  intro X hP hw hK hc i pins s σ H E I hf st hg
  subst hP hw hK
  obtain ⟨f0,f1,f2,f3,f4,f5⟩:=hf it (by simp)
  exact wpAny_pyNext_range_end (I.ok.hd hc) st (by have:n≤i:=hg; omega) fun h' eb=>⟨rfl,I.turned (t':=s.toks) (fun b o hb e=>eb b o hb e) f0 f1 f3 f4 f5⟩
 self:=fun _ _ _ _ _ st h=>wpAny_pyIter_rangeiter st h
end L2
namespace L2
open PySem PySem.Spec PyProof.Rows
section
variable {X:Cx} {tg:Expr}
theorem sR {pins:List (Addr × Obj)} {σ:St} {H:Hp} {s:Shared} {R:It→Hp→Prop} {E:Value→Shared→Prop} {lo hi:Int} {t u v:Tok} {tk:Nat} (I:Inv X pins σ H s) (h1:-(2 ^ 62)≤lo) (h2:lo < 2 ^ 62) (h3:-(2 ^ 62)≤hi) (h4:hi < 2 ^ 62)
  (q:R (Itr lo (hi - lo).toNat) H):wpAny (model X.prog X.w) X.A (pyIter (.ref s.heap.objs.size)) (PIE X pins σ tg R) E { s with heap:=s.heap.push { cls:=.type "range",data:=.fields #[.int lo t,.int hi u,.int 1 v] },toks:=tk }:=by
 refine wpAny_pyIter_range (IsRange.new ..) (small_one h1 h2 h3 h4) ?_
 have I1:Inv X pins σ H { s with heap:=s.heap.push { cls:=.type "range",data:=.fields #[.int lo t,.int hi u,.int 1 v] },toks:=tk }:=I.kept fun b o e=>Heap.get?_push_of_some _ e
 refine ⟨(s.heap.push { cls:=.type "range",data:=.fields #[.int lo t,.int hi u,.int 1 v] }).objs.size,[(s.heap.push { cls:=.type "range",data:=.fields #[.int lo t,.int hi u,.int 1 v] }).objs.size],_,_,H,rfl,
  I1.kept (t':=tk) fun b o e=>Heap.get?_push_of_some _ e,pL _ lo (hi - lo).toNat,?_,fun b hb=>?_,q⟩
 ·have e1:lo + ((0:Nat):Int) * 1=lo:=by simp
  have e2:(((hi - lo).toNat:Nat):Int) - ((0:Nat):Int)=Builtin.Range.rangeSize lo hi 1:=by rw [rangeSize_one]; split <;> omega
  show IsRangeIter _ _ (lo + ((0:Nat):Int) * 1) ((((hi - lo).toNat:Nat):Int) - ((0:Nat):Int)) 1
  rw [e1,e2]
  exact Heap.get?_push_size _ rfl
 ·have e:b=(s.heap.push { cls:=.type "range",data:=.fields #[.int lo t,.int hi u,.int 1 v] }).objs.size:=by simpa using hb
  subst e
  exact I1.fpOk (Nat.le_refl _) (I1.hok.fresh (Nat.le_refl _))
def z6 (ta:TA):TI:=fun σ H R=>ta σ H fun vs H1=>∃ j:Int,vs=[.int j]∧-(2 ^ 62)≤j∧j < 2 ^ 62∧R (Itr 0 j.toNat) H1
theorem rA {a:Expr} {ta:TA} {p pos:Pos} (hg:Gl X "range") (hm:X.mg "range"=none) (ha:PA X [a] ta) (hs:starEach [a] X.env=[(false,eval a X.env)]:=by rfl):PI X tg (.Call (.Name "range" p) [a] [] pos) (z6 ta):=by
 intro pins s σ H R I h
 refine Call_ (jG I hg hm boot_range (PyProof.Rows.callWith_type1 (thn (ha pos pins s σ H _ I h) fun us s1 ⟨vs,H1,I1,r1,q1⟩=>?_) hs rfl))
 obtain ⟨j,e,q1,q2,q⟩:=q1
 subst e
 cases r1 with
 | cons r rr =>
  cases rr
  obtain ⟨t,rfl⟩:=r
  exact call_range_1 (sR I1 (by omega) (by omega) q1 q2 (by simpa using q))
def AF (wi:TI) (g:TG) (tb:TS):TS:=fun D σ H=>wi σ H fun J H1=>∃ W:Nat→Nat→St→Hp→Prop,(∃ m,W 0 m σ H1)∧∀ i m σ H,W i m σ H →
 (J.stop i H∧D.nx σ H)∨(J.go i H∧∃ N:St→Hp→Prop,(∀ σ' H',N σ' H'→∃ m',m' < m∧W (i + 1) m' σ' H')∧∀ x H',J.yld i H x H'→g x σ H' fun σ2 H2=>tb { D with nx:=N,ct:=N,bk:=D.nx } σ2 H2)
def lA (fp:List Addr) (h:Heap):List (Addr × Obj):=fp.filterMap fun b=>(h.get? b).map fun o=>(b,o)
theorem fR {fp:List Addr} {h:Heap} {b:Addr} {o:Obj} (hb:b∈fp) (e:h.get? b=some o):(b,o)∈lA fp h:=List.mem_filterMap.mpr ⟨b,hb,by rw [e]; rfl⟩
theorem rM {fp:List Addr} {h:Heap} {p:Addr × Obj} (hp:p∈lA fp h):p.1∈fp∧h.get? p.1=some p.2:=by
 obtain ⟨b,hb,e⟩:=List.mem_filterMap.mp hp
 cases q:h.get? b with
 | none=>rw [q] at e; cases e
 | some o =>
  rw [q] at e
  have e':(b,o)=p:=Option.some.inj e
  subst e'
  exact ⟨hb,q⟩
theorem Inv.pinned {pins:List (Addr × Obj)} {σ:St} {H:Hp} {s:Shared} {fp:List Addr} (I:Inv X pins σ H s) (hf:∀ b∈fp,kT X pins H b) (ho:∀ b∈fp,∃ o,s.heap.get? b=some o∧∀ v,o.data ≠ .cell v):Inv X (pins ++ lA fp s.heap) σ H s :=
 I.pins_of fun p hp=>(List.mem_append.mp hp).elim (fun z=>I.pin p (List.mem_append_right _ z)) fun z=>by
  obtain ⟨hb,e⟩:=rM z
  obtain ⟨f0,f1,f2,_⟩:=hf p.1 hb
  obtain ⟨o,e',d⟩:=ho p.1 hb
  rw [e] at e'; cases e'
  exact ⟨e,f0,f1,f2,d⟩
theorem Inv.unpinned {pins pl:List (Addr × Obj)} {σ:St} {H:Hp} {s:Shared} (I:Inv X (pins ++ pl) σ H s):Inv X pins σ H s:=I.pins_of fun p hp=>I.pin p (List.mem_append_right _ (List.mem_append_left _ hp))
theorem za {iter:Expr} {body:List Stmt} {wi:TI} {g:TG} {tb:TS} {pos:Pos} (hp:PassesOwn (model X.prog X.w) X.A X.env X.xe) (hc:X.calm=true) (hi:PI X tg iter wi) (hg:PG X tg g) (hb:PSs X body tb)
  (hs:∀ x,foldedSetIterable iter X.env x=pure x:=by intro _; rfl):PS X (.For tg iter body [] pos) (AF wi g tb):=by
 intro pins s σ H D I h
 refine wpAny_For (thn (hi pins s σ H _ I h) fun v s1 h1=>thn h1 fun itv s2 h2=>?_) hs
 obtain ⟨it,fp,tn,J,H2,e,I2,T,st2,f2,W,⟨m0,w0⟩,turn⟩:=h2
 subst e
 have stat:∀ {H':Hp},(∀ b∈fp,H' b=none)→∀ b∈fp,kT X pins H' b:=fun hn b hb=>⟨hn b hb,(f2 b hb).2⟩
 refine codeAny_forLoop_any (fun n s'=>∃ i σ' H',Inv X pins σ' H' s'∧tn i s'.heap∧(∀ b∈fp,H' b=none)∧W i n σ' H') ?_ m0 ⟨0,σ,H2,I2,st2,fun b hb=>(f2 b hb).1,w0⟩
 rintro n s3 ⟨i,σ3,H3,I3,st3,fr3,w3⟩
 rcases turn i n σ3 H3 w3 with ⟨stop,qn⟩ | ⟨go,N,hN,step⟩
 ·refine wpAny_passesOwn hp (thn (T.done X rfl rfl rfl hc i pins s3 σ3 H3 X.xe I3 (stat fr3) st3 stop) fun r s4 ⟨hr,I4⟩=>?_)
  subst hr
  exact wpAny_execs_nil ⟨σ3,H3,I4,qn⟩
 ·refine wpAny_passesOwn hp (thn (T.item X rfl rfl rfl hc i pins s3 σ3 H3 X.xe I3 (stat fr3) st3 go) fun r s4 ⟨u,hr,h4⟩=>?_)
  subst hr
  refine wpAny_passesOwn hp (thn h4 fun _ s5 ⟨x,H5,I5,r5,y5,st5,fr5⟩=>?_)
  have I5':=I5.pinned (stat fr5) (T.obj _ _ st5)
  refine wpAny_passesOwn hp (thn (hg _ s5 σ3 H5 x u _ I5' r5 (step x H5 y5)) fun _ s6 ⟨σ6,H6,I6,q6⟩=>?_)
  refine wpAny_passesOwn hp (thn (hb _ s6 σ6 H6 _ I6 q6) fun f s7 q7=>?_)
  have again:∀ {σ7:St} {H7:Hp},Inv X (pins ++ lA fp s5.heap) σ7 H7 s7→N σ7 H7→∃ m,m < n∧∃ i σ' H',Inv X pins σ' H' s7∧tn i s7.heap∧(∀ b∈fp,H' b=none)∧W i m σ' H':=fun {σ7 H7} I7 n7=>by
   obtain ⟨m',hm,w7⟩:=hN σ7 H7 n7
   refine ⟨m',hm,i + 1,σ7,H7,I7.unpinned,T.keep _ _ _ st5 fun b hb o e=>(I7.pin (b,o) (List.mem_append_right _ (List.mem_append_right _ (fR hb e)))).1,fun b hb=>?_,w7⟩
   obtain ⟨o,e,d⟩:=T.obj _ _ st5 b hb
   exact (I7.pin (b,o) (List.mem_append_right _ (List.mem_append_right _ (fR hb e)))).2.1
  cases f with
  | next=>obtain ⟨σ7,H7,I7,n7⟩:=q7; exact again I7 n7
  | cont=>obtain ⟨σ7,H7,I7,n7⟩:=q7; exact again I7 n7
  | brk=>obtain ⟨σ7,H7,I7,q7⟩:=q7; exact ⟨σ7,H7,I7.unpinned,q7⟩
  | ret v=>obtain ⟨x7,σ7,H7,I7,r7,q7⟩:=q7; exact ⟨x7,σ7,H7,I7.unpinned,r7,q7⟩
end
end L2
namespace L2
open PySem PySem.Spec PyProof.Rows
abbrev R2:=V→V→Hp→VK→Prop
def OpR (X:Cx) (f:Value→Value→Sem Value) (r:R2):Prop :=
 ∀ (pins:List (Addr × Obj)) (s:Shared) (σ:St) (H:Hp) (x y:V) (v u:Value) (Q:VK),Inv X pins σ H s→bD x v→bD y u→r x y H Q →
  wpAny (model X.prog X.w) X.A (f v u) (EP X pins σ Q) X.xe s
def UnR (X:Cx) (f:Value→Sem Value) (r:V→Hp→VK→Prop):Prop :=
 ∀ (pins:List (Addr × Obj)) (s:Shared) (σ:St) (H:Hp) (x:V) (v:Value) (Q:VK),Inv X pins σ H s→bD x v→r x H Q →
  wpAny (model X.prog X.w) X.A (f v) (EP X pins σ Q) X.xe s
def ja (X:Cx) (f:Value) (r:List V→Hp→VK→Prop):Prop :=
 ∀ (pins:List (Addr × Obj)) (s:Shared) (σ:St) (H:Hp) (xs:List V) (us:List Value) (Q:VK),Inv X pins σ H s→bi xs us→r xs H Q →
  wpAny (model X.prog X.w) X.A (call f us) (EP X pins σ Q) X.xe s
def tOp (r:R2) (ta tb:TE):TE:=fun σ H Q=>ta σ H fun x H1=>tb σ H1 fun y H2=>r x y H2 Q
def tUn (r:V→Hp→VK→Prop) (ta:TE):TE:=fun σ H Q=>ta σ H fun x H1=>r x H1 Q
def rI (C:Int→Int→Prop) (g:Int→Int→V):R2:=fun x y H Q=>∃ i j,x=.int i∧y=.int j∧C i j∧Q (g i j) H
def rI0 (g:Int→Int→V):R2:=fun x y H Q=>∃ i j,x=.int i∧y=.int j∧Q (g i j) H
def rU (g:Int→V):V→Hp→VK→Prop:=fun x H Q=>∃ i,x=.int i∧Q (g i) H
section
variable {X:Cx} {a b c:Expr} {ta tb tc:TE} {pos:Pos}
theorem xM (ha:PE X a ta) (hb:PE X b tb) {pins:List (Addr × Obj)} {s:Shared} {σ:St} {H:Hp} {R:V→V→Hp→Prop} (I:Inv X pins σ H s)
  (h:ta σ H fun x H1=>tb σ H1 fun y H2=>R x y H2) {Q:Value→Shared→Prop} {f:Value→Value→Sem Value}
  (hf:∀ v u s2 x y H2,Inv X pins σ H2 s2→bD x v→bD y u→R x y H2→wpAny (model X.prog X.w) X.A (f v u) Q X.xe s2) :
  wpAny (model X.prog X.w) X.A (eval a X.env) (fun v s₁=>wpAny (model X.prog X.w) X.A (eval b X.env) (fun u s₂=>wpAny (model X.prog X.w) X.A (f v u) Q X.xe s₂) X.xe s₁) X.xe s:=by
 refine thn (ha pins s σ H _ I h) fun v s1 ⟨x,H1,I1,r1,q1⟩=>?_
 refine thn (hb pins s1 σ H1 _ I1 q1) fun u s2 ⟨y,H2,I2,r2,q2⟩=>?_
 exact hf v u s2 x y H2 I2 r1 r2 q2
theorem Ar {op:Operator} {r:R2} (ho:OpR X (binaryOp op) r) (ha:PE X a ta) (hb:PE X b tb):PE X (.BinOp a op b pos) (tOp r ta tb):=by
 intro pins s σ H Q I h
 exact wpAny_BinOp (xM ha hb I h fun v u s2 x y H2 I2 rx ry q=>ho pins s2 σ H2 x y v u Q I2 rx ry q)
theorem Ae {op:UnaryOp} {r:V→Hp→VK→Prop} (ho:UnR X (unaryOp op) r) (ha:PE X a ta):PE X (.UnaryOp op a pos) (tUn r ta):=by
 intro pins s σ H Q I h
 exact UnaryOp_ (thn (ha pins s σ H _ I h) fun v s1 ⟨x,H1,I1,r1,q1⟩=>ho pins s1 σ H1 x v Q I1 r1 q1)
theorem opI {f:Value→Value→Sem Value} {C:Int→Int→Prop} {g:Int→Int→Int}
  (rule:∀ (i j:Int) (t u:Tok) (s:Shared) (Q:Value→Shared→Prop) (E:Value→Shared→Prop),C i j→Q (.int (g i j) s.toks) { s with toks:=s.toks + 1 }→wpAny (model X.prog X.w) X.A (f (.int i t) (.int j u)) Q E s) :
  OpR X f (rI C fun i j=>.int (g i j)):=by
 intro pins s σ H x y v u Q I rx ry h
 obtain ⟨i,j,rfl,rfl,hc,q⟩:=h
 obtain ⟨t,rfl⟩:=rx
 obtain ⟨t',rfl⟩:=ry
 exact rule i j t t' s _ _ hc ⟨.int (g i j),H,I.tok _,⟨_,rfl⟩,q⟩
theorem Aa {f:Value→Value→Sem Value} {g:Int→Int→Int}
  (rule:∀ (i j:Int) (t u:Tok) (s:Shared) (Q:Value→Shared→Prop) (E:Value→Shared→Prop),Q (.int (g i j) s.toks) { s with toks:=s.toks + 1 }→wpAny (model X.prog X.w) X.A (f (.int i t) (.int j u)) Q E s) :
  OpR X f (rI0 fun i j=>.int (g i j)):=by
 intro pins s σ H x y v u Q I rx ry h
 obtain ⟨i,j,rfl,rfl,q⟩:=h
 obtain ⟨t,rfl⟩:=rx
 obtain ⟨t',rfl⟩:=ry
 exact rule i j t t' s _ _ ⟨.int (g i j),H,I.tok _,⟨_,rfl⟩,q⟩
theorem vo {f:Value→Value→Sem Value} {g:Int→Int→Bool}
  (rule:∀ (i j:Int) (t u:Tok) (s:Shared) (Q:Value→Shared→Prop) (E:Value→Shared→Prop),Q (.bool (g i j)) s→wpAny (model X.prog X.w) X.A (f (.int i t) (.int j u)) Q E s) :
  OpR X f (rI0 fun i j=>.bl (g i j)):=by
 intro pins s σ H x y v u Q I rx ry h
 obtain ⟨i,j,rfl,rfl,q⟩:=h
 obtain ⟨t,rfl⟩:=rx
 obtain ⟨t',rfl⟩:=ry
 exact rule i j t t' s _ _ ⟨.bl (g i j),H,I,rfl,q⟩
def Ai (i j:Int):Prop:=0 < j∧j < 1073741824
def oR (i j:Int):Prop:=(-(2 ^ 64) < i∧i < 2 ^ 64)∨(-(2 ^ 64) < j∧j < 2 ^ 64)
theorem oR.ok {i j:Int} (h:oR i j):IntMulOk i j:=by
 rcases h with ⟨h1,h2⟩ | ⟨h1,h2⟩
 ·exact .of_left (intBits_le_64 h1 h2)
 ·exact .of_right (intBits_le_64 h1 h2)
theorem yG:OpR X (binaryOp .Add) (rI0 fun i j=>.int (i + j)):=Aa fun _ _ _ _ _ _ _ q=>add_int q
theorem xL:OpR X (binaryOp .Sub) (rI0 fun i j=>.int (i - j)):=Aa fun _ _ _ _ _ _ _ q=>sub_int q
theorem yL:OpR X (binaryOp .Mult) (rI oR fun i j=>.int (i * j)):=opI fun _ _ _ _ _ _ _ hc q=>mul_int q hc.ok
theorem wJ:OpR X (binaryOp .FloorDiv) (rI Ai fun i j=>.int (i / j)):=opI fun i j _ _ _ _ _ hc q=>by
 have h1:(0:Int) < j:=hc.1
 have h2:j < 1073741824:=hc.2
 exact floordiv_int (by omega) (by rw [Int.fdiv_eq_ediv_of_nonneg i (by omega)]; exact q) (.inl (PyProof.noPylong_small (by omega)))
theorem xy:OpR X (binaryOp .Mod) (rI (fun _ j=>0 < j) fun i j=>.int (i % j)):=opI fun i j _ _ _ _ _ hc q=>by
 have h1:(0:Int) < j:=hc
 exact mod_int' (by omega) (by rw [Int.fmod_eq_emod_of_nonneg i (by omega)]; exact q)
theorem unI {f:Value→Sem Value} {g:Int→Int}
  (rule:∀ (i:Int) (t:Tok) (s:Shared) (Q:Value→Shared→Prop) (E:Value→Shared→Prop),Q (.int (g i) s.toks) { s with toks:=s.toks + 1 }→wpAny (model X.prog X.w) X.A (f (.int i t)) Q E s) :
  UnR X f (rU fun i=>.int (g i)):=by
 intro pins s σ H x v Q I rx h
 obtain ⟨i,rfl,q⟩:=h
 obtain ⟨t,rfl⟩:=rx
 exact rule i t s _ _ ⟨.int (g i),H,I.tok _,⟨_,rfl⟩,q⟩
theorem yS:UnR X (unaryOp .USub) (rU fun i=>.int (-i)):=unI fun _ _ _ _ _ q=>neg_int q
end
section
variable {X:Cx} {a b c:Expr} {ta tb tc:TE} {pos:Pos}
theorem pS {pins:List (Addr × Obj)} {σ:St} {H:Hp} {s:Shared} {Q:VK} {k k':Bool} (I:Inv X pins σ H s) (q:Q (.bl k) H) (e:k=k'):EP X pins σ Q (.bool k') s:=by
 subst e
 exact ⟨.bl k,H,I,rfl,q⟩
theorem Aq:OpR X (compareOp .Lt) (rI0 fun i j=>.bl (decide (i < j))):=vo fun _ _ _ _ _ _ _ q=>lt_int q
theorem zQ:OpR X (compareOp .LtE) (rI0 fun i j=>.bl (decide (i≤j))):=vo fun _ _ _ _ _ _ _ q=>le_int q
theorem zX:OpR X (compareOp .Gt) (rI0 fun i j=>.bl (decide (j < i))):=vo fun _ _ _ _ _ _ _ q=>gt_int q
theorem zL:OpR X (compareOp .GtE) (rI0 fun i j=>.bl (decide (j≤i))):=vo fun _ _ _ _ _ _ _ q=>ge_int q
theorem sw:OpR X (compareOp .In) (fun x y H Q=>∃ i j,x=.str i∧y=.str j∧Q (.bl (!(Builtin.Str.occurrences j i 0 j.length 1).isEmpty)) H):=by
 intro pins s σ H x y v u Q I rx ry h
 obtain ⟨i,j,rfl,rfl,q⟩:=h
 obtain ⟨t,rfl⟩:=rx
 obtain ⟨t',rfl⟩:=ry
 exact in_str (pS I q rfl)
theorem zq:OpR X (compareOp .Is) (fun x y H Q=>y=.non∧Q (.bl (decide (x=.non))) H):=by
 intro pins s σ H x y v u Q I rx ry h
 obtain ⟨rfl,q⟩:=h
 cases ry
 refine is_none_gen (pS I q ?_)
 cases x <;> first
  | (cases rx; rfl)
  | (obtain ⟨t,rfl⟩:=rx; rfl)
theorem vJ:OpR X (compareOp .IsNot) (fun x y H Q=>y=.non∧Q (.bl (!decide (x=.non))) H):=by
 intro pins s σ H x y v u Q I rx ry h
 obtain ⟨rfl,q⟩:=h
 cases ry
 refine isnot_none_gen (pS I q ?_)
 cases x <;> first
  | (cases rx; rfl)
  | (obtain ⟨t,rfl⟩:=rx; rfl)
theorem qr (b:Expr) {op:CmpOp} (h:op ≠ .In:=by decide) (h2:op ≠ .NotIn:=by decide):behindInMarks op b=false:=by
 have e1:(op == CmpOp.In)=false:=by cases op <;> first | rfl | exact absurd rfl h
 have e2:(op == CmpOp.NotIn)=false:=by cases op <;> first | rfl | exact absurd rfl h2
 cases b <;> simp [behindInMarks,e1,e2]
theorem vA {op:CmpOp} {r:R2} (ho:OpR X (compareOp op) r) (ha:PE X a ta) (hb:PE X b tb) (hm:behindInMarks op b=false):PE X (.Compare a [op] [b] pos) (tOp r ta tb):=by
 intro pins s σ H Q I h
 exact wpAny_Compare1 (xM ha hb I h fun v u s2 x y H2 I2 rx ry q=>ho pins s2 σ H2 x y v u Q I2 rx ry q) hm
def xq (t:TE):TT:=fun σ H Q=>t σ H fun x H'=>∃ k,x=.bl k∧Q k H'
theorem qH {op:CmpOp} {r:R2} (ho:OpR X (compareOp op) r) (ha:PE X a ta) (hb:PE X b tb) (hm:behindInMarks op b=false):PT X (.Compare a [op] [b] pos) (xq (tOp r ta tb)):=by
 intro pins s σ H Q I h
 refine wpAny_isTrue_Compare1 (thn (ha pins s σ H _ I h) fun v s1 ⟨x,H1,I1,r1,q1⟩=>thn (hb pins s1 σ H1 _ I1 q1) fun u s2 ⟨y,H2,I2,r2,q2⟩ =>
  thn (ho pins s2 σ H2 x y v u _ I2 r1 r2 q2) fun c s3 ⟨z,H3,I3,r3,k,e,q3⟩=>?_) hm
 subst e
 cases r3
 exact wpAny_truthy_bool ⟨H3,I3,q3⟩
def sY (r r':R2) (ta tb tc:TE):TE:=fun σ H Q=>ta σ H fun x H1=>tb σ H1 fun y H2=>r x y H2 fun z H3=>∃ k,z=.bl k ∧
 (if k=true then tc σ H3 fun w' H4=>r' y w' H4 Q else Q (.bl false) H3)
theorem sN {op op':CmpOp} {r r':R2} (ho:OpR X (compareOp op) r) (ho':OpR X (compareOp op') r') (ha:PE X a ta) (hb:PE X b tb) (hc:PE X c tc)
  (hm:lastMarks [op,op'] [b,c]=false:=by with_unfolding_all rfl):PE X (.Compare a [op,op'] [b,c] pos) (sY r r' ta tb tc):=by
 intro pins s σ H Q I h
 refine Compare_chain (thn (ha pins s σ H _ I h) fun v s1 ⟨x,H1,I1,r1,q1⟩=>chain_link (thn (hb pins s1 σ H1 _ I1 q1) fun u s2 ⟨y,H2,I2,r2,q2⟩ =>
  thn (ho pins s2 σ H2 x y v u _ I2 r1 r2 q2) fun d s3 ⟨z,H3,I3,r3,k,e,q3⟩=>?_)) hm
 subst e
 cases r3
 refine wpAny_truthy_bool ?_
 cases k with
 | false=>exact ite_ff ⟨.bl false,H3,I3,rfl,q3⟩
 | true=>exact ite_tt (chain_last (thn (hc pins s3 σ H3 _ I3 q3) fun w' s4 ⟨z',H4,I4,r4,q4⟩=>ho' pins s4 σ H4 y z' u w' Q I4 r2 r4 q4))
theorem sO {op op':CmpOp} {r r':R2} (ho:OpR X (compareOp op) r) (ho':OpR X (compareOp op') r') (ha:PE X a ta) (hb:PE X b tb) (hc:PE X c tc)
  (hm:lastMarks [op,op'] [b,c]=false:=by with_unfolding_all rfl):PT X (.Compare a [op,op'] [b,c] pos) (xq (sY r r' ta tb tc)):=by
 intro pins s σ H Q I h
 refine isTrue_chain (thn (ha pins s σ H _ I h) fun v s1 ⟨x,H1,I1,r1,q1⟩=>test_link (thn (hb pins s1 σ H1 _ I1 q1) fun u s2 ⟨y,H2,I2,r2,q2⟩ =>
  thn (ho pins s2 σ H2 x y v u _ I2 r1 r2 q2) fun d s3 ⟨z,H3,I3,r3,k,e,q3⟩=>?_)) hm
 subst e
 cases r3
 refine wpAny_truthy_bool ?_
 cases k with
 | false =>
  obtain ⟨k',e',q'⟩:=q3
  cases e'
  exact ite_ff ⟨H3,I3,q'⟩
 | true =>
  refine ite_tt (test_last (thn (hc pins s3 σ H3 _ I3 q3) fun w' s4 ⟨z',H4,I4,r4,q4⟩=>thn (ho' pins s4 σ H4 y z' u w' _ I4 r2 r4 q4) fun d' s5 ⟨z2,H5,I5,r5,k2,e2,q5⟩=>?_))
  subst e2
  cases r5
  exact wpAny_truthy_bool ⟨H5,I5,q5⟩
theorem iV:(sizeLine:Nat) < 2 ^ 63:=by rw [sizeLine_eq]; decide
theorem qp:OpR X (binaryOp .Add) (fun x y H Q=>∃ i j,x=.str i∧y=.str j∧i.length + j.length≤sizeLine∧Q (.str (i ++ j)) H):=by
 intro pins s σ H x y v u Q I rx ry h
 obtain ⟨i,j,rfl,rfl,hz,q⟩:=h
 obtain ⟨t,rfl⟩:=rx
 obtain ⟨t',rfl⟩:=ry
 exact add_str (fun t' tk=>⟨.str (i ++ j),H,I.tok _,⟨_,rfl⟩,q⟩) hz
theorem iJ {x:V} {us:List Value} (r:bi [x] us):∃ u,us=[u]∧bD x u:=by
 cases r with
 | cons r1 r2=>cases r2; exact ⟨_,rfl,r1⟩
theorem AC {x y:V} {us:List Value} (r:bi [x,y] us):∃ u w',us=[u,w']∧bD x u∧bD y w':=by
 cases r with
 | cons r1 r2 =>
  cases r2 with
  | cons r3 r4=>cases r4; exact ⟨_,_,rfl,r1,r3⟩
theorem rN (hc:X.calm=true):ja X (.builtin "min") (fun xs H Q=>∃ i j,xs=[.int i,.int j]∧Q (.int (if j < i then j else i)) H):=by
 intro pins s σ H xs us Q I r h
 obtain ⟨i,j,rfl,q⟩:=h
 obtain ⟨u,w',rfl,⟨t,rfl⟩,⟨t',rfl⟩⟩:=AC r
 refine min_two_ints (I.ok.hd hc) fun h' tk k=>⟨_,H,I.kept k,?_,q⟩
 by_cases hj:j < i
 ·rw [if_pos hj,if_pos hj]; exact ⟨_,rfl⟩
 ·rw [if_neg hj,if_neg hj]; exact ⟨_,rfl⟩
end
end L2
namespace L2
open PySem PySem.Spec PyProof.Rows
structure pY (h:Heap) (x dx C:Addr) (mA:Str→Option Value):Prop where
 obj:h.get? x=some (PySem.W.instObj C dx)
 ns:h.Ns1 dx mA
 ne:dx ≠ x
theorem rV {h:Heap} {dx:Addr} {mA:Str→Option Value} (n:h.Ns1 dx mA):∃ od,h.get? dx=some od∧∀ name,PySem.W.lookIn name od=some (mA name):=by
 obtain ⟨o,es,ep,ho,hd,hk,_,hm⟩:=n
 refine ⟨o,ho,fun name=>?_⟩
 have e:=hm name
 unfold nsFind findBy at e
 rw [← Array.find?_toList] at e
 unfold PySem.W.lookIn
 rw [hd]
 dsimp only
 split
 ·rename_i y q
  rw [q] at e
  exact congrArg some e
 ·rename_i q
  rw [q] at e
  have a:es.toList.any (·.refKey)=false:=by
   rw [List.any_eq_false]
   intro y hy
   obtain ⟨z,t,hkey⟩:=hk y (Array.mem_toList_iff.mp hy)
   simp [DictEntry.refKey,hkey]
  have a':¬ es.toList.any (·.refKey)=true:=by rw [a]; exact Bool.false_ne_true
  rw [if_neg a']
  exact congrArg some e
theorem pY.look {h:Heap} {x dx C:Addr} {mA:Str→Option Value} (I:pY h x dx C mA):∃ od,PySem.W.InstAt h x (PySem.W.instObj C dx) C (some od)∧∀ name,PySem.W.lookIn name od=some (mA name) :=
 let ⟨od,ho,hl⟩:=rV I.ns
 ⟨od,⟨I.obj,rfl,rfl,ho⟩,hl⟩
section
variable {prog:Program} {w:World} {A:Around} {E:Value→Shared→Prop} {s:Shared} {K:PySem.W.Frag} {x dx C f:Addr} {mA:Str→Option Value} {name:Str} {v:Value}
theorem wG {expr:Bool} {Q:Value→Shared→Prop} (X:K.In s.heap) (I:pY s.heap x dx C mA) (hg:PySem.W.plainGet K C name=true) (hh:PySem.W.hasDictIn K C=true)
  (ha:PySem.W.findIn K (.ref C) name=some none) (hv:mA name=some v) (hv':PySem.W.handedIn v=true) (h:Q v { s with toks:=s.toks + 1 }) :
  wpAny (model prog w) A (getAttr (.ref x) name expr) Q E s:=by
 obtain ⟨od,J,hl⟩:=I.look
 exact PySem.W.get_value X J (PySem.W.plainGet_of hg).1 (PySem.W.findObj_own hh ha rfl (by rw [hl,hv])) hv' h
theorem ui {pl:Sem Bool} {Q:Value × List Value→Shared→Prop} (X:K.In s.heap) (I:pY s.heap x dx C mA) (hg:PySem.W.plainGet K C name=true)
  (hf:PySem.W.findIn K (.ref C) name=some (some (.ref f))) (ht:PySem.W.isFn K (.ref f)=true) (hv:mA name=none) (h:Q (.ref f,[.ref x]) s) :
  wpAny (model prog w) A (getMethod (.ref x) name pl) Q E s:=by
 obtain ⟨od,J,hl⟩:=I.look
 exact PySem.W.method_fn X J (PySem.W.plainGet_of hg).1 (PySem.W.plainGet_of hg).2 hf (beq_iff_eq.mp ht) (by show (PySem.W.lookIn name od).map (·.isSome)=some false; rw [hl,hv]; rfl) h
theorem vZ {ns:List Str} {Q:Unit→Shared→Prop} (X:K.In s.heap) (I:pY s.heap x dx C mA)
  (hs:PySem.W.findIn K (.ref C) "__setattr__"=some (some (.builtin "object.__setattr__"))) (hp:PySem.W.plainOver K C=true) (ht:PySem.W.takerIn K C name=some none) (hh:PySem.W.hasDictIn K C=true)
  (hw:PySem.Within mA ns) (hsz:ns.length≤sizeLine)
  (h:∀ h',pY h' x dx C (fun y=>if y=name then some v else mA y)→Heap.SameBut dx s.heap h'→Q () { s with heap:=h',toks:=s.toks + 2 }) :
  wpAny (model prog w) A (setAttr (.ref x) name v) Q E s:=by
 obtain ⟨od,J,hl⟩:=I.look
 refine PySem.W.set_plain X J hs (PySem.W.osa_open (s:={ s with toks:=s.toks + 1 }) (r:=none) X J hp ht fun b=>?_)
 obtain ⟨cd,hc,hd'⟩:=PySem.W.any_some hh
 have hx:s.heap.get? x=some ⟨.ref C,some dx,.plain,#[]⟩:=I.obj
 refine wpAny_bind (wpAny_pure (wpAny_bind (wpAny_bind (wpAny_loadPart hx (wpAny_bind (PySem.W.Looks.here (s:={ s with toks:=s.toks + 1 }) (PySem.W.looks_clsIn X hc) ?_))))))
 rw [hd']
 refine wpAny_pure (a:=some dx) (wpAny_bind (wpAny_pure (wpAny_bind ?_)))
 refine wpAny_nsSet1 (s:={ s with toks:=s.toks + 1 }) I.ns fun h' hn2 hs2=>?_
 obtain ⟨oD,esD,epD,hoD,hdD,hcD⟩:=hn2.count (PySem.Within.cons name v hw)
 refine wpAny_bind (wpAny_lookBehind hoD (by rw [hdD]; exact pastItsLine_dict (Nat.le_trans hcD (by rw [List.length_cons]; omega))) ?_)
 exact wpAny_pure (h _ ⟨(hs2.2 _ (Ne.symm I.ne)).trans I.obj,hn2,I.ne⟩ hs2)
theorem tZ {R:Result→Shared→Prop} {vs:List Value} {kw:List (Str × Value)} (X:K.In s.heap) (hm:PySem.W.makesIn K C=true)
  (hi:PySem.W.findIn K (.ref C) "__init__"=some (some (.ref f))) (hf:PySem.W.typeIn K (.ref f)=some (.type "function"))
  (h:codeAny (model prog w) (A.under (.builtin "type.__call__" ⟨.ref C :: vs,kw⟩)) (.call (.ref f) ⟨.ref (s.heap.objs.size + 1) :: vs,kw⟩) (PySem.W.InitBack (s.heap.objs.size + 1) R)
   { s with heap:=(s.heap.push PySem.W.emptyDict).push (PySem.W.instObj C s.heap.objs.size) }) :
  codeAny (model prog w) A (.call (.ref C) ⟨vs,kw⟩) R s:=by
 obtain ⟨hh,g,d,t,os⟩:=s
 exact PySem.W.make_core (PySem.W.makes_of X hm) (PySem.W.looks_findIn X hi) (fun self=>PySem.W.bind_fn X self hf) (.inl rfl) h
end
def fU (f:Str) (v:V):List (Str × V)→List (Str × V)
 | []=>[(f,v)]
 | (g,x) :: r=>if g=f then (g,v) :: r else (g,x) :: fU f v r
theorem jU (f g:Str) (v:V):∀ fs:List (Str × V),(fU f v fs).lookup g=if g=f then some v else fs.lookup g
 | []=>by
  show List.lookup g [(f,v)]=_
  by_cases h:g=f
  ·have hb:(g == f)=true:=beq_iff_eq.mpr h
   simp only [List.lookup,hb,if_pos h]
  ·have hb:(g == f)=false:=beq_eq_false_iff_ne.mpr h
   simp only [List.lookup,hb,if_neg h]
 | (k,x) :: r=>by
  have ih:=jU f g v r
  rw [show fU f v ((k,x) :: r)=(if k=f then (k,v) :: r else (k,x) :: fU f v r) from rfl]
  by_cases hk:k=f
  ·rw [if_pos hk]
   by_cases h:g=k
   ·have hb:(g == k)=true:=beq_iff_eq.mpr h
    simp only [List.lookup,hb,if_pos (h.trans hk)]
   ·have hb:(g == k)=false:=beq_eq_false_iff_ne.mpr h
    simp only [List.lookup,hb,if_neg (fun e:g=f=>h (e.trans hk.symm))]
  ·rw [if_neg hk]
   by_cases h:g=k
   ·have hb:(g == k)=true:=beq_iff_eq.mpr h
    simp only [List.lookup,hb,if_neg (fun e:g=f=>hk (h.symm.trans e))]
   ·have hb:(g == k)=false:=beq_eq_false_iff_ne.mpr h
    simp only [List.lookup,hb]
    exact ih
theorem jz (f:Str) (v:V):∀ fs:List (Str × V),f∈(fU f v fs).map (·.1)∧∀ g,g∈fs.map (·.1)→g∈(fU f v fs).map (·.1)
 | []=>⟨by simp [fU],fun g h=>by simp at h⟩
 | (k,x) :: r=>by
  obtain ⟨i1,i2⟩:=jz f v r
  rw [show fU f v ((k,x) :: r)=(if k=f then (k,v) :: r else (k,x) :: fU f v r) from rfl]
  by_cases hk:k=f
  ·rw [if_pos hk]
   subst hk
   exact ⟨by simp,fun g h=>by simpa using h⟩
  ·rw [if_neg hk]
   refine ⟨?_,fun g h=>?_⟩
   ·rw [List.map_cons]
    exact List.mem_cons_of_mem _ i1
   ·rw [List.map_cons] at h ⊢
    rcases List.mem_cons.mp h with e | e
    ·exact List.mem_cons.mpr (.inl e)
    ·exact List.mem_cons_of_mem _ (i2 g e)
theorem jW (f:Str) (v:V):∀ fs:List (Str × V),(fU f v fs).length≤fs.length + 1
 | []=>by simp [fU]
 | (k,x) :: r=>by
  have ih:=jW f v r
  rw [show fU f v ((k,x) :: r)=(if k=f then (k,v) :: r else (k,x) :: fU f v r) from rfl]
  by_cases hk:k=f
  ·rw [if_pos hk,List.length_cons,List.length_cons]; omega
  ·rw [if_neg hk,List.length_cons,List.length_cons]; omega
theorem iz.some_of {v:V} {o:Option Value} (r:iz (some v) o):∃ u,o=some u∧bD v u:=by
 cases o with
 | none=>exact (show False from r).elim
 | some u=>exact ⟨u,rfl,r⟩
theorem iz.none_of {o:Option Value} (r:iz none o):o=none:=by
 cases o with
 | none=>rfl
 | some u=>exact (show False from r).elim
theorem sg {v:V} {u:Value} (r:bD v u):PySem.W.handedIn u=true:=by
 cases v with
 | non=>cases (show u=Value.none from r); rfl
 | bl b=>cases (show u=Value.bool b from r); rfl
 | int i=>obtain ⟨t,e⟩:=(show ∃ t,u=Value.int i t from r); cases e; rfl
 | str x=>obtain ⟨t,e⟩:=(show ∃ t,u=Value.str x t from r); cases e; rfl
 | byt b=>obtain ⟨t,e⟩:=(show ∃ t,u=Value.bytes b t from r); cases e; rfl
 | flt b=>obtain ⟨t,e⟩:=(show ∃ t,u=Value.float b t from r); cases e; rfl
 | ref a=>cases (show u=Value.ref a from r); rfl
 | ty n=>cases (show u=Value.type n from r); rfl
section
variable {P:Program} {w:World} {H H':Hp} {h h':Heap} {a C dx:Addr} {fs fs':List (Str × V)}
theorem nJ (hok:HOk P w H h) (e:H a=some (.ins C dx fs)):∃ mA,pY h a dx C mA∧(∀ f,iz (fs.lookup f) (mA f))∧PySem.Within mA (fs.map (·.1))∧fs.length≤1000∧H dx=some (.own a):=by
 obtain ⟨d,z,ne,ob,mA,n,r,q⟩:=(show dE P w H h a (.ins C dx fs) from hok a _ e)
 exact ⟨mA,⟨ob,n,ne⟩,r,q,z,d⟩
end
structure Cls (K:PySem.W.Frag) (C:Addr):Prop where
 pg:PySem.W.plainGet K C Str.empty=true
 hd:PySem.W.hasDictIn K C=true
 po:PySem.W.plainOver K C=true
 sa:PySem.W.findIn K (.ref C) "__setattr__"=some (some (.builtin "object.__setattr__"))
theorem Cls.get {K:PySem.W.Frag} {C:Addr} (c:Cls K C) (f:Str):PySem.W.plainGet K C f=true:=c.pg
def bG (K:PySem.W.Frag) (C:Addr) (f:Str):Prop:=PySem.W.findIn K (.ref C) f=some none
theorem bG.taker {K:PySem.W.Frag} {C:Addr} {f:Str} (n:bG K C f):PySem.W.takerIn K C f=some none:=by
 unfold PySem.W.takerIn
 rw [show PySem.W.findIn K (.ref C) f=some none from n]
 rfl
structure Con (K:PySem.W.Frag) (C:Addr) (f:Str) (v:V) (u:Value):Prop where
 at_:PySem.W.findIn K (.ref C) f=some (some u)
 rel:bD v u
 get:PySem.W.specialIn K u "__get__"=some none
 cp:PySem.W.copiedNames.contains f=false
structure gu (K:PySem.W.Frag) (C:Addr) (m:Str) (f:Addr):Prop where
 at_:PySem.W.findIn K (.ref C) m=some (some (.ref f))
 fn:PySem.W.isFn K (.ref f)=true
 kp:PySem.W.keepIn K (.ref f)=true
section
variable {X:Cx} {pins:List (Addr × Obj)} {σ:St} {H:Hp} {s:Shared} {a C dx:Addr} {fs:List (Str × V)} {f:Str} {v:V} {A:Around} {E:Value→Shared→Prop}
theorem lv {b:Bool} {Q:Value→Shared→Prop} (I:Inv X pins σ H s) (e:H a=some (.ins C dx fs)) (c:Cls X.K C) (n:bG X.K C f) (l:fs.lookup f=some v)
  (h:∀ u s',Inv X pins σ H s'→bD v u→Q u s'):wpAny (model X.prog X.w) A (getAttr (.ref a) f b) Q E s:=by
 obtain ⟨mA,O,r,_,_,_⟩:=nJ I.hok e
 obtain ⟨u,hu,ru⟩:=iz.some_of (v:=v) (o:=mA f) (by rw [← l]; exact r f)
 exact wG I.kIn O (c.get f) c.hd n hu (sg ru) (h u _ (I.tok _) ru)
theorem lq {m:Str} {g:Addr} {pl:Sem Bool} {Q:Value × List Value→Shared→Prop} (I:Inv X pins σ H s) (e:H a=some (.ins C dx fs)) (c:Cls X.K C) (k:gu X.K C m g) (l:fs.lookup m=none)
  (h:Q (.ref g,[.ref a]) s):wpAny (model X.prog X.w) A (getMethod (.ref a) m pl) Q E s:=by
 obtain ⟨mA,O,r,_,_,_⟩:=nJ I.hok e
 have hn:mA m=none:=iz.none_of (by rw [← l]; exact r m)
 exact ui I.kIn O (c.get m) k.at_ k.fn hn h
theorem lB {y:V} {u:Value} {Q:Unit→Shared→Prop} (I:Inv X pins σ H s) (e:H a=some (.ins C dx fs)) (c:Cls X.K C) (n:bG X.K C f) (hl:fs.length < 1000) (ry:bD y u)
  (h:∀ s',Inv X pins σ (upd H a (.ins C dx (fU f y fs))) s'→Q () s'):wpAny (model X.prog X.w) A (setAttr (.ref a) f u) Q E s:=by
 obtain ⟨mA,O,r,wi,_,ho⟩:=nJ I.hok e
 have hz:(fs.map (·.1)).length≤sizeLine:=by rw [List.length_map,sizeLine_eq]; omega
 refine vZ I.kIn O c.sa c.po n.taker c.hd wi hz fun h' O' sb=>h _ ?_
 have hd:∃ o,h'.get? dx=some o:=let ⟨o,_,_,e',_⟩:=O'.ns; ⟨o,e'⟩
 refine I.write (x:=a) (e:=dx) (by rw [e]; exact True.intro) (.inr ho) (fun b q hb z=>(sb.2 b hb).trans z) hd ?_
 refine ⟨by rw [aN O.ne]; exact ho,?_,O.ne,O'.obj,_,O'.ns,fun g=>?_,fun g hg=>?_⟩
 ·have:=jW f y fs; omega
 ·show iz ((fU f y fs).lookup g) (if g=f then some u else mA g)
  rw [jU]
  by_cases q:g=f
  ·rw [if_pos q,if_pos q]; exact ry
  ·rw [if_neg q,if_neg q]; exact r g
 ·by_cases q:g=f
  ·rw [q]; exact (jz f y fs).1
  ·refine (jz f y fs).2 g (wi g fun z=>hg ?_)
   show (if g=f then some u else mA g)=none
   rw [if_neg q]; exact z
theorem Inv.made (I:Inv X pins σ H s):Inv X pins σ (upd (upd H s.heap.objs.size (.own (s.heap.objs.size + 1))) (s.heap.objs.size + 1) (.ins C s.heap.objs.size []))
  { s with heap:=(s.heap.push PySem.W.emptyDict).push (PySem.W.instObj C s.heap.objs.size) }:=by
 have e1:(s.heap.push PySem.W.emptyDict).get? s.heap.objs.size=some PySem.W.emptyDict:=Heap.get?_push_size s.heap rfl
 have e2:((s.heap.push PySem.W.emptyDict).push (PySem.W.instObj C s.heap.objs.size)).get? (s.heap.objs.size + 1)=some (PySem.W.instObj C s.heap.objs.size):=by
  have:=Heap.get?_push_size (s.heap.push PySem.W.emptyDict) (o:=PySem.W.instObj C s.heap.objs.size) rfl
  rwa [Heap.size_push] at this
 have e3:(s.heap.push PySem.W.emptyDict).Ns s.heap.objs.size (fun _=>none):=⟨PySem.W.emptyDict,#[],_,e1,rfl,(fun e he=>absurd he (by simp)),fun _=>rfl⟩
 have I1:=I.laid (a:=s.heap.objs.size) (o:=.own (s.heap.objs.size + 1)) (h':=s.heap.push PySem.W.emptyDict) (t':=s.toks) (fun b u q=>Heap.get?_push_of_some _ q) (Nat.le_refl _) ⟨_,e1⟩
 refine I1.laid (a:=s.heap.objs.size + 1) (o:=.ins C s.heap.objs.size []) (t':=s.toks) (fun b u q=>Heap.get?_push_of_some _ q) (Nat.le_of_eq (Heap.size_push _ _)) ?_
 have ne:s.heap.objs.size ≠ s.heap.objs.size + 1:=Nat.ne_of_lt (Nat.lt_succ_self _)
 refine ⟨by rw [aN ne,aU],Nat.zero_le _,ne,e2,fun _=>none,(Heap.Ns1.of_empty e3).at fun o q=>Heap.get?_push_of_some _ q,fun _=>True.intro,fun y hy=>absurd rfl hy⟩
theorem vH {prog:Program} {w:World} {env:Env} {e:Expr} {f:Str} {pos:Pos} {s:Shared} {Q:Value→Shared→Prop} (hb:attributeBase e f env (eval e env)=eval e env)
  (h:wpAny (model prog w) A (eval e env) (fun o s₁=>wpAny (model prog w) A (getAttr o f true) Q E s₁) E s):wpAny (model prog w) A (eval (.Attribute e f pos) env) Q E s :=
 Attribute_any_ h (by rw [arm_eval_Attribute,hb])
end
def AJ (K:PySem.W.Frag) (ta:TE) (f:Str):TE:=fun σ H Q=>ta σ H fun x H1=>∃ a C dx fs v,x=.ref a∧H1 a=some (.ins C dx fs)∧Cls K C∧bG K C f∧fs.lookup f=some v∧Q v H1
def AO (K:PySem.W.Frag) (ta tv:TE) (f:Str):TS:=fun D σ H=>tv σ H fun y H1=>ta σ H1 fun x H2=>∃ a C dx fs,x=.ref a∧H2 a=some (.ins C dx fs)∧Cls K C∧bG K C f∧fs.length < 1000 ∧
 D.nx σ (upd H2 a (.ins C dx (fU f y fs)))
def vC (X:Cx) (op:Operator) (rd:V→V→Hp→VK→Prop):Prop :=
 ∀ (pins:List (Addr × Obj)) (s:Shared) (σ:St) (H:Hp) (x y:V) (u v:Value) (Q:VK),Inv X pins σ H s→bD x u→bD y v→rd x y H Q→wpAny (model X.prog X.w) X.A (inplaceOp op u v) (EP X pins σ Q) X.xe s
def wQ (K:PySem.W.Frag) (ta tv:TE) (rd:V→V→Hp→VK→Prop) (f:Str):TS:=fun D σ H=>ta σ H fun x H1=>∃ a C dx fs v,x=.ref a∧H1 a=some (.ins C dx fs)∧Cls K C∧bG K C f∧fs.lookup f=some v ∧
 tv σ H1 fun y H2=>rd v y H2 fun z H3=>∃ dx' fs',H3 a=some (.ins C dx' fs')∧fs'.length < 1000∧D.nx σ (upd H3 a (.ins C dx' (fU f z fs')))
section
variable {X:Cx} {o e value:Expr} {f:Str} {pos pos' tpos:Pos} {ta tv:TE}
theorem xH (he:PE X e ta) (hb:attributeBase e f X.env (eval e X.env)=eval e X.env):PE X (.Attribute e f pos) (AJ X.K ta f):=by
 intro pins s σ H Q I h
 refine vH hb (thn (he pins s σ H _ I h) fun u s1 ⟨x,H1,I1,rx,a,C,dx,fs,v,ex,ea,c,n,l,q⟩=>?_)
 subst ex
 obtain rfl:u=Value.ref a:=rx
 exact lv I1 ea c n l fun u' s2 I2 ru=>⟨v,H1,I2,ru,q⟩
theorem xu (ha:PE X o ta) (hv:PE X value tv) (hs:swapsWith value (some (.Attribute o f pos')) pos.line X.env=pure false):PS X (.Assign [.Attribute o f pos'] value pos) (AO X.K ta tv f):=by
 intro pins s σ H D I h
 refine plainObj_wpAny_Assign_Attribute (thn (hv pins s σ H _ I h) fun u s1 ⟨y,H1,I1,ry,q⟩=>thn (ha pins s1 σ H1 _ I1 q) fun ov s2 ⟨x,H2,I2,rx,a,C,dx,fs,ex,ea,c,n,l,q2⟩=>?_) hs
 subst ex
 obtain rfl:ov=Value.ref a:=rx
 exact lB I2 ea c n l ry fun s3 I3=>⟨σ,_,I3,q2⟩
theorem rq {op:Operator} {rd:V→V→Hp→VK→Prop} (ha:PE X o ta) (hv:PE X value tv) (hop:vC X op rd):PS X (.AugAssign (.Attribute o f tpos) op value pos) (wQ X.K ta tv rd f):=by
 intro pins s σ H D I h
 refine wpAny_AugAssign_AttributeAny (thn (ha pins s σ H _ I h) fun ov s1 ⟨x,H1,I1,rx,a,C,dx,fs,v,ex,ea,c,n,l,q⟩=>?_)
 subst ex
 obtain rfl:ov=Value.ref a:=rx
 refine lv I1 ea c n l fun u s2 I2 ru=>thn (hv pins s2 σ H1 _ I2 q) fun w3 s3 ⟨y,H2,I3,ry,q3⟩=>thn (hop pins s3 σ H2 v y u w3 _ I3 ru ry q3) fun w4 s4 ⟨z,H3,I4,rz,dx',fs',ea',l',q4⟩=>?_
 exact lB I4 ea' c n l' rz fun s5 I5=>⟨σ,_,I5,q4⟩
def Bb:V→V→Hp→VK→Prop:=fun x y H Q=>∃ i j,x=.int i∧y=.int j∧Q (.int (i + j)) H
def AE:V→V→Hp→VK→Prop:=fun x y H Q=>∃ i j,x=.int i∧y=.int j∧Q (.int (i - j)) H
theorem xD:vC X .Add Bb:=by
 rintro pins s σ H x y u v Q I rx ry ⟨i,j,rfl,rfl,q⟩
 obtain ⟨t,rfl⟩:=(show ∃ t,u=Value.int i t from rx)
 obtain ⟨t',rfl⟩:=(show ∃ t',v=Value.int j t' from ry)
 exact PyProof.Rows.iadd_int ⟨.int (i + j),H,I.tok _,⟨_,rfl⟩,q⟩
theorem zp:vC X .Sub AE:=by
 rintro pins s σ H x y u v Q I rx ry ⟨i,j,rfl,rfl,q⟩
 obtain ⟨t,rfl⟩:=(show ∃ t,u=Value.int i t from rx)
 obtain ⟨t',rfl⟩:=(show ∃ t',v=Value.int j t' from ry)
 exact PyProof.Rows.isub_int ⟨.int (i - j),H,I.tok _,⟨_,rfl⟩,q⟩
end
section
variable {X:Cx} {pins:List (Addr × Obj)} {σ:St} {H:Hp} {s:Shared} {A:Around} {E:Value→Shared→Prop} {Q:Value→Shared→Prop} {c:Value} {b:Bool}
inductive lE (K:PySem.W.Frag) (H:Hp):V→Value→Prop where
 | non:lE K H .non (.type "NoneType")
 | bl (x:Bool):lE K H (.bl x) (.type "bool")
 | int (i:Int):lE K H (.int i) (.type "int")
 | str (x:Str):lE K H (.str x) (.type "str")
 | flt (x:UInt64):lE K H (.flt x) (.type "float")
 | lst {a:Addr} {xs:List V} (e:H a=some (.lst xs)):lE K H (.ref a) (.type "list")
 | frz {a:Addr} {o:Obj} {xs:List V} (e:H a=some (.frz o (.lst xs))):lE K H (.ref a) (.type "list")
 | tup {a:Addr} {xs:List V} (e:H a=some (.tup xs)):lE K H (.ref a) (.type "tuple")
 | dK {a:Addr} {kvs:List (Key × V)} (e:H a=some (.dK kvs)):lE K H (.ref a) (.type "dict")
 | dT {a:Addr} {kvs:List (List Key × V)} (e:H a=some (.dT kvs)):lE K H (.ref a) (.type "dict")
 | ins {a C dx:Addr} {fs:List (Str × V)} (e:H a=some (.ins C dx fs)) (cl:Cls K C) (ha:PySem.W.findIn K (.ref C) "__class__"=some (some (.builtin "object.__class__")))
   (hn:PySem.W.specialIn K (.builtin "object.__class__") "__get__"=some (some (.builtin "getset_descriptor.__get__"))) (htk:PySem.W.takesIn K (.builtin "object.__class__")=some true)
   (hm:PySem.W.mroIn K C (.type "object")=some true):lE K H (.ref a) (.ref C)
end
end L2
namespace L2
open PySem PySem.Spec PyProof.Rows
structure dG (k:Nat) (A:Around):Prop where
 hd:A.handled=none
 dp:A.depth + 3 * k + 5 < recursionLimit
 un:A.units + 16 * k + 200 < cLine
theorem dG.mono {j k:Nat} {A:Around} (r:dG k A) (h:j≤k):dG j A:=⟨r.hd,by have:=r.dp; omega,by have:=r.un; omega⟩
theorem dG.deeper {k:Nat} {A:Around} (r:dG (k + 1) A) (env:Env):dG k (A.deeper env) :=
 ⟨r.hd,by have:=r.dp; show A.depth + 1 + 3 * k + 5 < _; omega,by have:=r.un; show A.units + 3 + 16 * k + 200 < _; omega⟩
theorem qq {A:Around} {C:Addr} {us:List Value} {kw:List (Str × Value)}:(A.under (.builtin "type.__call__" ⟨.ref C :: us,kw⟩)).depth=A.depth + 1:=by
 first | rfl | simp [Around.under,Code.weight,Code.isCreation,Code.isGuard,Code.isCaller,Code.frames,Code.isFrame,guardIds]
theorem qi {A:Around} {C:Addr} {us:List Value} {kw:List (Str × Value)}:(A.under (.builtin "type.__call__" ⟨.ref C :: us,kw⟩)).units=A.units + 1:=by
 first | rfl | simp [Around.under,Code.cUnits,Code.frames,Code.isFrame]
theorem dG.make {k:Nat} {A:Around} (r:dG (k + 1) A) (C:Addr) (us:List Value) (kw:List (Str × Value)):dG k (A.under (.builtin "type.__call__" ⟨.ref C :: us,kw⟩)) :=
 ⟨r.hd,by have:=r.dp; rw [qq]; omega,by have:=r.un; rw [qi]; omega⟩
theorem dG.depth {k:Nat} {A:Around} (r:dG k A):A.depth < recursionLimit:=by have:=r.dp; omega
theorem dG.units {k:Nat} {A:Around} (r:dG k A):A.units + 64 < cLine:=by have:=r.un; omega
def zV:TA:=fun _ H Q=>Q [] H
def zO (ta:TE) (tr:TA):TA:=fun σ H Q=>ta σ H fun x H1=>tr σ H1 fun xs H2=>Q (x :: xs) H2
section
variable {X:Cx} {e:Expr} {es:List Expr} {te:TE} {t:TA} {pos:Pos}
theorem zt:PA X [] zV:=fun _ _ _ _ H Q I h=>Calls.spliced_nil ⟨[],H,I,.nil,h⟩
theorem wj (ha:PE X e te) (hr:PA X es t) (hs:starEach (e :: es) X.env=(false,eval e X.env) :: starEach es X.env:=by rfl):PA X (e :: es) (zO te t):=by
 intro pos pins s σ H Q I h
 rw [hs]
 show wpAny _ _ (spliced ((false,eval e X.env) :: backTo pos (starEach es X.env))) _ _ s
 refine Calls.spliced_cons (thn (ha pins s σ H _ I h) fun u s1 ⟨x,H1,I1,r1,q1⟩=>?_)
 exact thn (hr pos pins s1 σ H1 _ I1 q1) fun us s2 ⟨xs,H2,I2,r2,q2⟩=>⟨x :: xs,H2,I2,.cons r1 r2,q2⟩
def AL (t:TA):TE:=fun σ H Q=>t σ H fun xs H1=>xs.length≤sizeLine∧∀ p,H1 p=none→Q (.ref p) (upd H1 p (.tup xs))
def Bc (t:TA):TE:=fun σ H Q=>t σ H fun xs H1=>xs.length≤sizeLine∧∀ p,H1 p=none→Q (.ref p) (upd H1 p (.lst xs))
theorem xF {x1} (h:PA X es t):PE X (.Tuple es x1 pos) (AL t):=by
 intro pins s σ H Q I hq
 refine wpAny_Tuple_spliced (thn (h pos pins s σ H _ I hq) fun us s1 ⟨xs,H1,I1,r,z,q⟩=>⟨by rw [← r.length]; exact z,?_⟩)
 have hf:H1 s1.heap.objs.size=none:=I1.hok.fresh (Nat.le_refl _)
 refine ⟨.ref s1.heap.objs.size,upd H1 s1.heap.objs.size (.tup xs),I1.laid (t':=s1.toks) (fun b u e=>Heap.get?_push_of_some _ e) (Nat.le_refl _) ?_,rfl,q _ hf⟩
 exact ⟨z,us,r,⟨_,Heap.get?_push_size _ rfl,rfl,⟨_,rfl⟩,rfl⟩⟩
theorem xT (h:PA X es t):PE X (.List es pos) (Bc t):=by
 intro pins s σ H Q I hq
 refine wpAny_List_spliced (thn (h pos pins s σ H _ I hq) fun us s1 ⟨xs,H1,I1,r,z,q⟩=>⟨by rw [← r.length]; exact z,?_⟩)
 have hf:H1 s1.heap.objs.size=none:=I1.hok.fresh (Nat.le_refl _)
 refine ⟨.ref s1.heap.objs.size,upd H1 s1.heap.objs.size (.lst xs),I1.laid (t':=s1.toks) (fun b u e=>Heap.get?_push_of_some _ e) (Nat.le_refl _) ?_,rfl,q _ hf⟩
 exact ⟨z,us,0,r,Heap.get?_push_size _ rfl⟩
end
abbrev Sp:=List V→Hp→VK→XK→Prop
abbrev CXT:=List Env→Hp→Shared→XK→Value→Shared→Prop
structure pV (P:Program) (w:World) (K:PySem.W.Frag) (mg:Str→Option Value) (base:Heap) (A:Around) (outer:List Env) (s:Shared) (H:Hp):Prop where
 frames:A.frames=some outer
 mod:Mod K mg base
 bs:∀ b o,base.get? b=some o→s.heap.get? b=some o∧H b=none
 bsz:base.objs.size≤s.heap.objs.size
 funs:s.heap.FunFrames base outer
 frf:∀ b∈frs outer,H b=none
 hok:HOk P w H s.heap
 bare:AllBare s.gens
def CE (outer:List Env) (P:Program) (w:World) (H:Hp) (s:Shared) (Q:VK) (u:Value) (s':Shared):Prop :=
 ∃ v H',s'.os=s.os∧AllBare s'.gens∧Un (frs outer) [] H H' s.heap s'.heap∧HOk P w H' s'.heap∧bD v u∧Q v H'
def CR (CX:CXT) (outer:List Env) (P:Program) (w:World) (H:Hp) (s:Shared) (Q:VK) (E:XK) (r:Result) (s':Shared):Prop :=
 match r with
 | .ok (.ret u)=>CE outer P w H s Q u s'
 | .ok _=>False
 | .error e=>CX outer H s E e s'
structure iw (P:Program) (w:World) (K:PySem.W.Frag) (mg:Str→Option Value) (base:Heap) (CX:CXT) (k:Nat) (f:Addr) (fd:FuncData) (ps:List Str) (sp:Sp):Prop where
 len:∀ vs H Q E,sp vs H Q E→vs.length=ps.length
 run:∀ (A:Around) (outer:List Env) (s:Shared) (H:Hp) (args:Args) (us:List Value) (vs:List V) (Q:VK) (E:XK),dG k A→pV P w K mg base A outer s H→BindsTo s fd args (ps.zip us)→bi vs us→sp vs H Q E →
  codeAny (model P w) A (.call (.ref f) args) (CR CX outer P w H s Q E) s
theorem pV.make {P:Program} {w:World} {K:PySem.W.Frag} {mg:Str→Option Value} {base:Heap} {A:Around} {outer:List Env} {s:Shared} {H:Hp} (e:pV P w K mg base A outer s H) (C:Addr) (us:List Value) (kw:List (Str × Value)) :
  pV P w K mg base (A.under (.builtin "type.__call__" ⟨.ref C :: us,kw⟩)) outer s H:=⟨by first | exact e.frames | (simpa [Around.under,Code.envs,Code.isFrame,pushEnvs] using e.frames),e.mod,e.bs,e.bsz,e.funs,e.frf,e.hok,e.bare⟩
section
variable {X:Cx} {pins:List (Addr × Obj)} {σ:St} {H:Hp} {s s':Shared}
theorem Inv.env0 (I:Inv X pins σ H s):pV X.prog X.w X.K X.mg X.base X.A X.stack s H :=
 ⟨I.ok.frames,I.ok.mod,I.bs,Nat.le_trans I.ok.bsz I.sz,I.stack,I.stkFree,I.hok,I.bare⟩
theorem Inv.after {Q:VK} {u:Value} (I:Inv X pins σ H s) (h:CE X.stack X.prog X.w H s Q u s'):EP X pins σ Q u s':=by
 obtain ⟨v,H',os,bare,un,hok,r,q⟩:=h
 obtain ⟨hh,g,d,t,os'⟩:=s'
 obtain rfl:os'=s.os:=os
 exact ⟨v,H',I.call (h':=hh) (g':=g) (d':=d) (t':=t) (ch:=[]) un hok bare (fun b z=>absurd z (by simp)),r,q⟩
end
def zP (sp:Sp) (dvs:List V) (E:XK) (t:TA):TE:=fun σ H Q=>t σ H fun vs H1=>sp (vs ++ dvs) H1 Q E
def Ab (C:Addr) (sp:Sp) (dvs:List V) (E:XK) (t:TA):TE:=fun σ H Q=>t σ H fun vs H1=>∀ x dx,H1 x=none→H1 dx=none→dx ≠ x →
 sp (.ref x :: (vs ++ dvs)) (upd (upd H1 dx (.own x)) x (.ins C dx [])) (fun v H2=>v=.non∧Q (.ref x) H2) E
def aJ (K:PySem.W.Frag) (fd:FuncData) (ps:List Str) (ds:List Value):Prop :=
 ∀ (s:Shared) (us:List Value),K.In s.heap→(us ++ ds).length=ps.length→BindsTo s fd ⟨us,[]⟩ (ps.zip (us ++ ds))
theorem aJ.all {K:PySem.W.Frag} {fd:FuncData} {ps:List Str} (h:∀ us:List Value,us.length=ps.length→bindArgs fd ⟨us,[]⟩=pure (ps.zip us)):aJ K fd ps []:=fun s us _ hl=>by
 rw [List.append_nil] at hl ⊢
 exact .of_eq (h us hl)
def ld (CX:CXT) (X:Cx) (E:XK):Prop:=∀ (pins:List (Addr × Obj)) (σ:St) (H:Hp) (s:Shared) (e:Value) (s':Shared),Inv X pins σ H s→CX X.stack H s E e s'→X.xe e s'
section
variable {X:Cx} {CX:CXT} {k:Nat} {f C:Addr} {fd:FuncData} {ps:List Str} {sp:Sp} {dvs:List V} {ds:List Value} {E:XK} {x m:Str} {p pos apos:Pos} {e o:Expr} {es:List Expr} {ta:TE} {t:TA}
theorem pB {pins:List (Addr × Obj)} {σ:St} {H:Hp} {s:Shared} {Q:VK} {us:List Value} {vs:List V} (F:iw X.prog X.w X.K X.mg X.base CX k f fd ps sp) (hr:dG k X.A) (hb:aJ X.K fd ps ds) (hd:bi dvs ds) (hx:ld CX X E)
  (I:Inv X pins σ H s) (r:bi vs us) (h:sp (vs ++ dvs) H Q E):wpAny (model X.prog X.w) X.A (call (.ref f) us) (EP X pins σ Q) X.xe s:=by
 have r2:bi (vs ++ dvs) (us ++ ds):=r.append hd
 have hl:(us ++ ds).length=ps.length:=by rw [← r2.length]; exact F.len _ _ _ _ h
 refine wpAny_call (codeAny_mono (F.run X.A X.stack s H ⟨us,[]⟩ (us ++ ds) (vs ++ dvs) Q E hr I.env0 (hb s us I.kIn hl) r2 h) fun r s' hq=>?_)
 cases r with
 | error e=>exact hx pins σ H s e s' I hq
 | ok fl =>
  cases fl with
  | ret u=>exact I.after hq
  | next=>exact False.elim hq
  | brk=>exact False.elim hq
  | cont=>exact False.elim hq
theorem vI (F:iw X.prog X.w X.K X.mg X.base CX k f fd ps sp) (hr:dG k X.A) (hg:Gl X x) (hm:X.mg x=some (.ref f)) (hk:PySem.W.keepIn X.K (.ref f)=true) (hb:aJ X.K fd ps ds) (hd:bi dvs ds) (hx:ld CX X E)
  (ha:PA X (e :: es) t) (hdb:(x == ("__debug__":Str))=false:=by decide) (he:starEach (e :: es) X.env=(false,eval e X.env) :: starEach es X.env:=by rfl) (hpl:(backTo pos (starEach es X.env)).any (·.1)=false:=by rfl) :
  PE X (.Call (.Name x p) (e :: es) [] pos) (zP sp dvs E t):=by
 intro pins s σ H Q I h
 refine wpAny_Call_Name_kw (ij I hg hm ?_ hdb)
 refine PySem.W.callWith_K (h₀:=X.base) I.ok.mod.kin hk (thn (ha pos pins s σ H _ I h) fun us s1 ⟨vs,H1,I1,r,q⟩=>⟨I1.kIn,?_⟩) he hpl
 exact pB F hr hb hd hx I1 r q
structure Mk (K:PySem.W.Frag) (C f:Addr):Prop where
 makes:PySem.W.makesIn K C=true
 init:PySem.W.findIn K (.ref C) "__init__"=some (some (.ref f))
 fn:PySem.W.isFn K (.ref f)=true
 kp:PySem.W.keepIn K (.ref C)=true
theorem tK {pins:List (Addr × Obj)} {σ:St} {H:Hp} {s:Shared} {Q:VK} {us:List Value} {vs:List V} (M:Mk X.K C f) (F:iw X.prog X.w X.K X.mg X.base CX k f fd ps sp) (hr:dG (k + 1) X.A) (hb:aJ X.K fd ps ds) (hd:bi dvs ds)
  (hx:ld CX X E) (I:Inv X pins σ H s) (r:bi vs us)
  (h:∀ x dx,H x=none→H dx=none→dx ≠ x→sp (.ref x :: (vs ++ dvs)) (upd (upd H dx (.own x)) x (.ins C dx [])) (fun v H2=>v=.non∧Q (.ref x) H2) E) :
  wpAny (model X.prog X.w) X.A (call (.ref C) us) (EP X pins σ Q) X.xe s:=by
 have hq:=h (s.heap.objs.size + 1) s.heap.objs.size (I.hok.fresh (Nat.le_succ _)) (I.hok.fresh (Nat.le_refl _)) (Nat.ne_of_lt (Nat.lt_succ_self _))
 have I2:=Inv.made (C:=C) I
 have r2:bi (V.ref (s.heap.objs.size + 1) :: (vs ++ dvs)) (Value.ref (s.heap.objs.size + 1) :: (us ++ ds)):=.cons rfl (r.append hd)
 have hl:(Value.ref (s.heap.objs.size + 1) :: us ++ ds).length=ps.length:=by
  have e:=r2.length
  rw [F.len _ _ _ _ hq] at e
  exact e.symm
 refine wpAny_call (tZ (f:=f) I.kIn M.makes M.init (beq_iff_eq.mp M.fn) (codeAny_mono (F.run _ X.stack _ _ ⟨Value.ref (s.heap.objs.size + 1) :: us,[]⟩ (Value.ref (s.heap.objs.size + 1) :: (us ++ ds)) _ _ E (hr.make C us [])
  (I2.env0.make C us []) (hb _ (Value.ref (s.heap.objs.size + 1) :: us) I2.kIn hl) r2 hq) fun r s' hq'=>?_))
 cases r with
 | error e=>exact hx pins σ _ _ e s' I2 hq'
 | ok fl =>
  cases fl with
  | ret u =>
   obtain ⟨v,H',I3,rv,ev,q3⟩:=I2.after hq'
   subst ev
   exact ⟨rv,⟨V.ref (s.heap.objs.size + 1),H',I3,rfl,q3⟩⟩
  | next=>exact False.elim hq'
  | brk=>exact False.elim hq'
  | cont=>exact False.elim hq'
theorem wH (M:Mk X.K C f) (F:iw X.prog X.w X.K X.mg X.base CX k f fd ps sp) (hr:dG (k + 1) X.A) (hg:Gl X x) (hm:X.mg x=some (.ref C)) (hb:aJ X.K fd ps ds) (hd:bi dvs ds) (hx:ld CX X E)
  (ha:PA X (e :: es) t) (hdb:(x == ("__debug__":Str))=false:=by decide) (he:starEach (e :: es) X.env=(false,eval e X.env) :: starEach es X.env:=by rfl) (hpl:(backTo pos (starEach es X.env)).any (·.1)=false:=by rfl) :
  PE X (.Call (.Name x p) (e :: es) [] pos) (Ab C sp dvs E t):=by
 intro pins s σ H Q I h
 refine wpAny_Call_Name_kw (ij I hg hm ?_ hdb)
 refine PySem.W.callWith_K (h₀:=X.base) I.ok.mod.kin M.kp (thn (ha pos pins s σ H _ I h) fun us s1 ⟨vs,H1,I1,r,q⟩=>⟨I1.kIn,?_⟩) he hpl
 exact tK M F hr hb hd hx I1 r q
end
section
variable {X:Cx} {CX:CXT} {k:Nat} {f C:Addr} {fd:FuncData} {ps ks:List Str} {sp:Sp} {E:XK} {x m:Str} {p pos apos kpos:Pos} {e o:Expr} {es:List Expr} {kws:List Keyword} {te ta:TE} {t tk:TA} {nm:Option Str}
structure AH (K:PySem.W.Frag) (fd:FuncData) (ps ks:List Str) (g:List Value→List Value→List Value) (gV:List V→List V→List V):Prop where
 to:∀ (s:Shared) (us ws:List Value),K.In s.heap→(g us ws).length=ps.length→BindsTo s fd ⟨us,ks.zip ws⟩ (ps.zip (g us ws))
 rel:∀ {vs:List V} {us:List Value} {zs:List V} {ws:List Value},bi vs us→bi zs ws→bi (gV vs zs) (g us ws)
variable {g:List Value→List Value→List Value} {gV:List V→List V→List V}
end
structure ax (N P:List Str) (sc:Scope):Prop where
 kind:sc.kind=.function
 co:sc.isCoroutine=false
 gen:sc.isGenerator=false
 nd:N.Nodup
 pre:N.take P.length=P
 par:∀ x∈P,sc.names.lookup x=some .local∨sc.names.lookup x=some .cell
 nofree:∀ y∈sc.names,y.2 ≠ .free
theorem mB {kindOf:Str→Option NameKind} {x:Str}:∀ {binds:List (Str × Value)} {m:Str→Option Value},(∀ v,(x,v) ∉ binds)→bindL kindOf binds m x=m x
 | [],_,_=>rfl
 | (n,v) :: r,m,h=>by
  unfold bindL
  rw [mB fun w hw=>h w (List.mem_cons_of_mem _ hw)]
  split
  ·have:x ≠ n:=by rintro rfl; exact h v List.mem_cons_self
   simp [this]
  ·rfl
theorem my {kindOf:Str→Option NameKind} {x:Str}:∀ {binds:List (Str × Value)} {m:Str→Option Value},(∀ v,(x,v) ∉ binds)→bindC kindOf binds m x=m x
 | [],_,_=>rfl
 | (n,v) :: r,m,h=>by
  unfold bindC
  rw [my fun w hw=>h w (List.mem_cons_of_mem _ hw)]
  split
  ·rfl
  ·have:x ≠ n:=by rintro rfl; exact h v List.mem_cons_self
   simp [this]
theorem mq {kindOf:Str→Option NameKind} {x:Str} {v:Value}:∀ {P:List Str} {vs:List Value} {i:Nat} {m:Str→Option Value},P.Nodup→P[i]?=some x→vs[i]?=some v→kindOf x=some .local →
  bindL kindOf (P.zip vs) m x=some v
 | [],_,_,_,_,h,_,_=>by simp at h
 | _ :: _,[],_,_,_,_,h,_=>by simp at h
 | p :: P,w :: vs,0,m,nd,h1,h2,hk=>by
  simp at h1 h2; subst h1; subst h2
  show bindL kindOf ((p,w) :: P.zip vs) m p=_
  unfold bindL
  rw [mB fun v hv=>(List.nodup_cons.mp nd).1 (List.of_mem_zip hv).1,if_pos hk]
  simp
 | p :: P,w :: vs,i + 1,m,nd,h1,h2,hk=>by
  show bindL kindOf ((p,w) :: P.zip vs) m x=_
  unfold bindL
  exact mq (i:=i) (List.nodup_cons.mp nd).2 (by simpa using h1) (by simpa using h2) hk
theorem mv {kindOf:Str→Option NameKind} {x:Str} {v:Value}:∀ {P:List Str} {vs:List Value} {i:Nat} {m:Str→Option Value},P.Nodup→P[i]?=some x→vs[i]?=some v→kindOf x ≠ some .local →
  bindC kindOf (P.zip vs) m x=some v
 | [],_,_,_,_,h,_,_=>by simp at h
 | _ :: _,[],_,_,_,_,h,_=>by simp at h
 | p :: P,w :: vs,0,m,nd,h1,h2,hk=>by
  simp at h1 h2; subst h1; subst h2
  show bindC kindOf ((p,w) :: P.zip vs) m p=_
  unfold bindC
  rw [my fun v hv=>(List.nodup_cons.mp nd).1 (List.of_mem_zip hv).1,if_neg hk]
  simp
 | p :: P,w :: vs,i + 1,m,nd,h1,h2,hk=>by
  show bindC kindOf ((p,w) :: P.zip vs) m x=_
  unfold bindC
  exact mv (i:=i) (List.nodup_cons.mp nd).2 (by simpa using h1) (by simpa using h2) hk
def start (N:List Str) (vs:List V):St:=vs.map some ++ List.replicate (N.length - vs.length) none
def gI (CX:CXT) (P:Program) (w:World) (K:PySem.W.Frag) (mg:Str→Option Value) (base:Heap) (N:List Str) (qual:Str) (scope:Scope) (f:Addr) (cd:Value) (A:Around) (outer:List Env) (s:Shared) (H:Hp) (E:XK):Cx where
 prog:=P
 w:=w
 K:=K
 mg:=mg
 base:=base
 A:=A.deeper (envOfC qual scope s.heap.objs.size f cd)
 N:=N
 s₀:=s
 H₀:=H
 env:=envOfC qual scope s.heap.objs.size f cd
 outer:=outer
 stack:=envOfC qual scope s.heap.objs.size f cd :: outer
 ex:=[]
 calm:=true
 fn:=fun _=>true
 pn:=[]
 xe:=fun e s'=>wpAny (model P w) (A.deeper (envOfC qual scope s.heap.objs.size f cd)) (leaving (envOfC qual scope s.heap.objs.size f cd) e) (fun _ s''=>CX outer H s E e s'') (fun e' s''=>CX outer H s E e' s'') s'
theorem oz {sc:Scope} {n:Nat} {x:Str} (h:sc.names.lookup x=some .cell):∃ c,(cellsFrom n sc.names []).lookup x=some c:=by
 have q:=PySem.W.cellsFrom_some sc.names n [] (.inl h)
 exact Option.isSome_iff_exists.mp q
theorem se {CX:CXT} {P:Program} {w:World} {K:PySem.W.Frag} {mg:Str→Option Value} {base:Heap} {N ps:List Str} {qual:Str} {scope:Scope} {f:Addr} {cd:Value} {A:Around} {outer:List Env} {s s1:Shared} {H:Hp} {E:XK} {us:List Value} {vs:List V}
  (S:ax N ps scope) (hd:A.handled=none) (e0:pV P w K mg base A outer s H) (hl:vs.length=ps.length) (r:bi vs us)
  (x:InCallC s s.heap.objs.size (bindL (envOfC qual scope s.heap.objs.size f cd).kindOf (ps.zip us) fun _=>none) (cellsFrom (s.heap.objs.size + 1) scope.names []) (bindC (envOfC qual scope s.heap.objs.size f cd).kindOf (ps.zip us) fun _=>none) s1) :
  Inv (gI CX P w K mg base N qual scope f cd A outer s H E) [] (start N vs) H s1:=by
 have hpl:ps.length≤N.length:=by have:=congrArg List.length S.pre; rw [List.length_take] at this; omega
 obtain ⟨h1,tk,rfl,hk⟩:=x.done
 have noA:∀ b:Addr,b ∉ (gI CX P w K mg base N qual scope f cd A outer s H E).ex:=fun b z=>absurd (show b∈([]:List Addr) from z) (by simp)
 refine ⟨⟨e0.mod,S.kind,rfl,rfl,Nat.le_refl _,fun y z c h1 h2=>?_,fun y hy=>?_,fun y c _ h=>?_,fun _=>hd,Around.frames_deeper e0.frames,.inr ⟨rfl,rfl⟩,fun b z=>absurd z (noA b),e0.bs,e0.bsz,fun b _ _=>noA b,fun b z=>absurd z (noA b),e0.funs,e0.frf⟩,
  rfl,e0.bare,Un.kept hk,⟨_,x.toInCall.ns,fun i y v h1 h2 h3=>?_⟩,fun y c h=>⟨_,x.cell y c h⟩,e0.hok.fresh (Nat.le_refl _),fun y c h=>?_,fun p hp=>absurd (show p∈([]:List (Addr × Obj)) from hp) (by simp),e0.hok.kept hk,?_⟩
 ·exact name_of_addr x.apart (PySem.mem_of_lookup h1) (PySem.mem_of_lookup h2)
 ·have hy:scope.names.lookup y=some .cell∨scope.names.lookup y=some .free:=hy
  rcases hy with hy | hy
  ·exact oz hy
  ·exact absurd rfl (S.nofree _ (PySem.mem_of_lookup hy))
 ·exact Nat.le_of_lt (x.above y c (PySem.mem_of_lookup h))
 ·have hi:i < vs.length:=by
   unfold start at h2
   by_cases hi:i < vs.length
   ·exact hi
   ·rw [List.getElem?_append_right (by simpa using hi)] at h2
    rw [List.getElem?_replicate] at h2
    split at h2 <;> cases h2
  have ha:vs[i]?=some v:=by
   unfold start at h2
   rw [List.getElem?_append_left (by simpa using hi),List.getElem?_map] at h2
   cases e:vs[i]? with
   | none=>rw [e] at h2; cases h2
   | some a=>rw [e] at h2; cases h2; rfl
  obtain ⟨u,hu,rv⟩:=r.get ha
  have hp:ps[i]?=some y:=by
   rw [← S.pre,List.getElem?_take_of_lt (by omega)]; exact h1
  have ndP:ps.Nodup:=by rw [← S.pre]; exact S.nd.sublist (List.take_sublist _ _)
  refine ⟨u,rv,?_⟩
  rcases S.par y (List.mem_of_getElem? hp) with k | k
  ·exact .inl ⟨k,mq ndP hp hu k⟩
  ·obtain ⟨c,e⟩:=oz (n:=s.heap.objs.size + 1) k
   refine .inr ⟨.inl k,c,e,?_⟩
   have q:=x.cell y c e
   rw [mv ndP hp hu (by show scope.names.lookup y ≠ _; rw [k]; decide)] at q
   exact q
 ·exact e0.hok.fresh (Nat.le_of_lt (x.above y c (PySem.mem_of_lookup h)))
 ·unfold start
  show _=N.length
  rw [List.length_append,List.length_map,List.length_replicate]
  omega
theorem um {CX:CXT} {P:Program} {w:World} {K:PySem.W.Frag} {mg:Str→Option Value} {base:Heap} {k:Nat} {f:Addr} {name qual:Str} {params:Arguments} {body:List Stmt} {scope:Scope} {dV kV doc pm cdv ct oc:Value} {an od:Option Addr}
  {osl:Array (Option Value)} {N ps:List Str} {sp:Sp} (lk:K.lookup f=some ⟨oc,od,.func (PySem.W.fnOf name qual params body scope dV kV doc pm an cdv ct),osl⟩) (hcd:PySem.W.codeIn K cdv qual=true) (S:ax N ps scope)
  (len:∀ vs H Q E,sp vs H Q E→vs.length=ps.length)
  (hbody:∀ (A:Around) (outer:List Env) (s:Shared) (H:Hp) (vs:List V) (Q:VK) (E:XK),dG k (A.deeper (envOfC qual scope s.heap.objs.size f cdv))→sp vs H Q E →
   ∃ t,PSs (gI CX P w K mg base N qual scope f cdv A outer s H E) body t∧t { nx:=fun _ H'=>Q .non H',rt:=Q } (start N vs) H) :
  iw P w K mg base CX (k + 1) f (PySem.W.fnOf name qual params body scope dV kV doc pm an cdv ct) ps sp:=by
 refine ⟨len,fun A outer s H args us vs Q E hr e0 hb r hsp=>?_⟩
 have hl:=len _ _ _ _ hsp
 have KX:K.In s.heap:=e0.mod.kin.keeps fun b o e=>(e0.bs b o e).1
 have lim:s.heap.NoLimit:=e0.mod.nolimit.keeps fun b o e=>(e0.bs b o e).1
 have hkind:∀ y∈ps.zip us,scope.names.lookup y.1=some .local∨(scope.names.lookup y.1=some .cell∧((cellsFrom (s.heap.objs.size + 1) scope.names []).lookup y.1).isSome=true):=fun ⟨n,v⟩ hy=>by
  rcases S.par n (List.of_mem_zip hy).1 with q | q
  ·exact .inl q
  ·exact .inr ⟨q,PySem.W.cellsFrom_some _ _ _ (.inl q)⟩
 refine codeAny_call_function hr.depth (KX _ _ lk) rfl S.co S.gen rfl (PySem.W.codeRec_of KX hcd) (hb _ _ _ _ ?_)
 refine wpAny_newFunctionEnv_cells S.kind hkind fun env he s1 x=>?_
 subst he
 refine ⟨lim.keeps x.toInCall.keep,codeAny_func ?_⟩
 obtain ⟨t,ht,hq⟩:=hbody A outer s H vs Q E (hr.deeper _) hsp
 have I:Inv (gI CX P w K mg base N qual scope f cdv A outer s H E) [] (start N vs) H s1:=se S hr.hd e0 hl r x
 refine wpAny_mono (ht [] s1 (start N vs) H _ I hq) (fun fl s' hs=>?_) fun e s' hs=>hs
 have fin:∀ {σ':St} {H':Hp} {v:V} {u:Value},Inv (gI CX P w K mg base N qual scope f cdv A outer s H E) [] σ' H' s'→bD v u→Q v H'→CE outer P w H s Q u s' :=
  fun {σ' H' v u} J rv q=>⟨v,H',J.os,J.bare,J.base,J.hok,rv,q⟩
 cases fl with
 | ret u =>
  obtain ⟨v,σ',H',J,rv,q⟩:=hs
  exact fin J rv q
 | next =>
  obtain ⟨σ',H',J,q⟩:=hs
  exact fin (v:=V.non) (u:=Value.none) J rfl q
 | brk =>
  obtain ⟨_,_,_,q⟩:=hs
  exact False.elim q
 | cont =>
  obtain ⟨_,_,_,q⟩:=hs
  exact False.elim q
end L2
namespace L2
open PySem PySem.Spec PyProof.Rows
section
variable {X:Cx} {x:Str} {p pos:Pos} {e:Expr} {es:List Expr} {t:TA} {id T:String} {r:List V→Hp→VK→Prop}
def tCB (r:List V→Hp→VK→Prop) (t:TA):TE:=fun σ H Q=>t σ H fun vs H1=>r vs H1 Q
theorem sL (hc:ja X (.builtin id) r) (hg:Gl X x) (hm:X.mg x=none) (hv:bootBuiltins x=some (.builtin id)) (ha:PA X (e :: es) t) (hn:x ≠ "__name__":=by decide) (hdb:(x == ("__debug__":Str))=false:=by decide)
  (he:starEach (e :: es) X.env=(false,eval e X.env) :: starEach es X.env:=by rfl) (hpl:(backTo pos (starEach es X.env)).any (·.1)=false:=by rfl):PE X (.Call (.Name x p) (e :: es) [] pos) (tCB r t):=by
 intro pins s σ H Q I h
 refine wpAny_Call_Name_kw (jG I hg hm hv ?_ hn hdb)
 exact PyProof.Rows.callWith_builtin1 (thn (ha pos pins s σ H _ I h) fun us s1 ⟨vs,H1,I1,r1,q1⟩=>hc pins s1 σ H1 vs us Q I1 r1 q1) he hpl
theorem rY (hc:ja X (.type T) r) (hg:Gl X x) (hm:X.mg x=none) (hv:bootBuiltins x=some (.type T)) (ha:PA X (e :: es) t) (hn:x ≠ "__name__":=by decide) (hdb:(x == ("__debug__":Str))=false:=by decide)
  (he:starEach (e :: es) X.env=(false,eval e X.env) :: starEach es X.env:=by rfl) (hpl:(backTo pos (starEach es X.env)).any (·.1)=false:=by rfl):PE X (.Call (.Name x p) (e :: es) [] pos) (tCB r t):=by
 intro pins s σ H Q I h
 refine wpAny_Call_Name_kw (jG I hg hm hv ?_ hn hdb)
 exact PyProof.Rows.callWith_type1 (thn (ha pos pins s σ H _ I h) fun us s1 ⟨vs,H1,I1,r1,q1⟩=>hc pins s1 σ H1 vs us Q I1 r1 q1) he hpl
end
end L2
namespace HT
open PySem PyProof.Rows
section
open PySem.SeqAt
open PySem.AutoSeq1 (wpAny_loadPart')
open PySem.MeetsSeq PySem.MeetsSeq2 PySem.MeetsSeq3
end
section
variable {prog:Program} {w:World} {A:Around} {E:Value→Shared→Prop} {s:Shared}
theorem vV {t b:Addr} {vs ws:List Value} {Q:Value→Shared→Prop} (ht:IsTup s.heap t vs.toArray) (hb:IsTup s.heap b ws.toArray) (hv:vs ≠ [])
  (h1:ws=[]→Q (.ref t) s) (h2:ws ≠ []→Q (.ref s.heap.objs.size) { s with heap:=s.heap.push { cls:=.type "tuple",data:=.seq (vs ++ ws).toArray } })
  (hsz:vs.length + ws.length≤sizeLine):wpAny (model prog w) A (binaryOp .Add (.ref t) (.ref b)) Q E s:=by
 obtain ⟨⟨cls,dd,data,sl⟩,ho,hc,n,hd⟩:=id ht
 obtain ⟨⟨cls2,dd2,data2,sl2⟩,ho2,hc2,n2,hd2⟩:=id hb
 simp only at hc hd hc2 hd2
 subst hc hd hc2 hd2
 have e:vs.toArray ++ ws.toArray=(vs ++ ws).toArray:=by simp
 by_cases hw:ws=[]
 ·exact concat_meets ⟨_,ho,rfl⟩ ⟨_,ho2,rfl⟩ noFill_tuple_add seq_tuple_add PySem.F.slot_tuple_add PySem.F.entry_tuple_add (PySem.F.args_tuple_add_2 _ _)
   (tuple_addW1 t b vs.toArray ws.toArray n n2 dd dd2 sl sl2 (by simpa using hv) (by simp [hw])) ⟨ho,ho2,h1 hw⟩
 ·refine concat_meets ⟨_,ho,rfl⟩ ⟨_,ho2,rfl⟩ noFill_tuple_add seq_tuple_add PySem.F.slot_tuple_add PySem.F.entry_tuple_add (PySem.F.args_tuple_add_2 _ _)
   (tuple_addW2 t b vs.toArray ws.toArray n n2 dd dd2 sl sl2 (by simpa using hv) (by simpa using hw) (by rw [List.size_toArray,List.size_toArray]; exact hsz)) ⟨ho,ho2,?_⟩
  rw [e]
  exact h2 hw
def sIx (n d:Nat):Option Int→Nat
 | none=>d
 | some v=>if v < 0 then (v + (n:Int)).toNat else min v.toNat n
theorem oU (n d:Nat):sIx n d none=d:=rfl
theorem qV (n d k:Nat):sIx n d (some (k:Int))=min k n:=by
 show (if (k:Int) < 0 then ((k:Int) + (n:Int)).toNat else min (k:Int).toNat n)=min k n
 rw [if_neg (by omega),Int.toNat_natCast]
theorem yB (n d:Nat) (hd:d≤n) (o:Option Int):sIx n d o≤n:=by
 cases o with
 | none=>exact hd
 | some v =>
  show (if v < 0 then (v + (n:Int)).toNat else min v.toNat n)≤n
  by_cases hv:v < 0
  ·rw [if_pos hv]; omega
  ·rw [if_neg hv]; exact Nat.min_le_right _ _
theorem qY (v:Int) (n d:Nat):(if v < 0 then max (v + (n:Int)) 0 else min v (n:Int))=((sIx n d (some v):Nat):Int):=by
 show (if v < 0 then max (v + (n:Int)) 0 else min v (n:Int))=(((if v < 0 then (v + (n:Int)).toNat else min v.toNat n):Nat):Int)
 by_cases hv:v < 0
 ·simp only [if_pos hv]; omega
 ·simp only [if_neg hv]; omega
theorem pW (lo hi:Option Int) (n:Nat):Builtin.Slice.sliceAdjust lo hi 1 (n:Int)=(((sIx n 0 lo:Nat):Int),((sIx n n hi:Nat):Int)):=by
 have h1:¬ ((1:Int) < 0):=by omega
 unfold Builtin.Slice.sliceAdjust
 simp only [h1,if_false]
 refine Prod.ext ?_ ?_
 ·cases lo with
  | none=>rfl
  | some v=>exact qY v n 0
 ·cases hi with
  | none=>rfl
  | some v=>exact qY v n n
theorem pK (i j:Nat):Builtin.Slice.slicePlaces (i:Int) (j:Int) 1=j - i:=by
 unfold Builtin.Slice.slicePlaces
 have h1:(1:Int) > 0:=by omega
 simp only [h1,if_true,Int.ediv_one]
 split <;> omega
theorem lj {v:Value} {o:Option Int} {Q:Option Int→Shared→Prop} (p:IsPart v o) (h:Q o s):wpAny (model prog w) A (Builtin.Slice.slicePartIndex v) Q E s:=by
 cases p with
 | none=>exact slicePart_none h
 | int i t=>exact slicePart_int h
theorem gB {sl:Addr} {vl vu:Value} {lo hi:Option Int} {n:Nat} {Q:Int × Int × Nat→Shared→Prop} (hs:s.heap.IsSliceOf sl vl vu .none) (pl:IsPart vl lo) (pu:IsPart vu hi)
  (h:Q (((sIx n 0 lo:Nat):Int),1,sIx n n hi - sIx n 0 lo) s):wpAny (model prog w) A (Builtin.Slice.sliceApplied (.ref sl) (pure (n:Int))) Q E s:=by
 obtain ⟨os,hos,hcs,hds⟩:=id hs
 unfold Builtin.Slice.sliceApplied Builtin.Slice.sliceFields
 refine wpAny_bind (wpAny_bind (wpAny_field hos hds (x:=vl) rfl (wpAny_bind (wpAny_field hos hds (x:=vu) rfl (wpAny_bind (wpAny_field hos hds (x:=.none) rfl (wpAny_pure ?_)))))))
 refine wpAny_bind (slicePart_none ?_)
 show wpAny _ _ (if ((1:Int) == 0)=true then _ else _) _ _ s
 rw [if_neg (by decide)]
 refine wpAny_bind (lj pl (wpAny_bind (lj pu (wpAny_bind (wpAny_pure ?_)))))
 show wpAny _ _ (match Builtin.Slice.sliceAdjust lo hi 1 (n:Int) with | (lo,hi)=>pure (lo,(1:Int),Builtin.Slice.slicePlaces lo hi 1)) _ _ s
 rw [pW lo hi n]
 show wpAny _ _ (pure (((sIx n 0 lo:Nat):Int),(1:Int),Builtin.Slice.slicePlaces ((sIx n 0 lo:Nat):Int) ((sIx n n hi:Nat):Int) 1)) _ _ s
 rw [pK]
 exact wpAny_pure h
theorem ut (xs:Array Value) (i k:Nat):((List.range k).filterMap fun (m:Nat)=>xs[((i:Int) + (m:Int) * 1).toNat]?).toArray=((xs.toList.drop i).take k).toArray:=by
 have e:(fun (m:Nat)=>xs[((i:Int) + (m:Int) * 1).toNat]?)=fun m=>xs[i + m]?:=by
  funext m
  have:((i:Int) + (m:Int) * 1).toNat=i + m:=by omega
  rw [this]
 rw [e]
 have:=pick_run xs i k
 rw [List.filterMap_map] at this
 have e2:((fun x=>xs[x]?) ∘ fun x=>i + x)=fun m=>xs[i + m]?:=rfl
 rw [e2] at this
 rw [this]
theorem jc {t sl:Addr} {items:Array Value} {vl vu:Value} {lo hi:Option Int} {Q:Value→Shared→Prop} (ht:IsTup s.heap t items) (hs:s.heap.IsSliceOf sl vl vu .none) (pl:IsPart vl lo) (pu:IsPart vu hi)
  (hw:¬ (sIx items.size 0 lo=0∧sIx items.size items.size hi=items.size))
  (h:Q (.ref s.heap.objs.size) { s with heap:=s.heap.push { cls:=.type "tuple",data:=.seq ((items.toList.drop (sIx items.size 0 lo)).take (sIx items.size items.size hi - sIx items.size 0 lo)).toArray } })
  (hsz:items.size≤sizeLine):wpAny (model prog w) A (getItem (.ref t) (.ref sl)) Q E s:=by
 have htake:sizeOk (.seq ((items.toList.drop (sIx items.size 0 lo)).take (sIx items.size items.size hi - sIx items.size 0 lo)).toArray):=by
  show ((items.toList.drop (sIx items.size 0 lo)).take (sIx items.size items.size hi - sIx items.size 0 lo)).toArray.size≤sizeLine
  rw [List.size_toArray,List.length_take,List.length_drop,Array.length_toList]
  omega
 have hj:sIx items.size items.size hi≤items.size:=yB _ _ (Nat.le_refl _) hi
 obtain ⟨os,hos,hcs,hds⟩:=id hs
 have hTs:s.TypeIs (.ref sl) "slice":=⟨os,hos,hcs⟩
 unfold getItem
 try with_reducible refine wpAny_holding ?_
 first | refine wpAny_bind (wpAny_pure ?_) | skip
 refine wpAny_bind (wpAny_sequenceKey ht.typeIs (by decide) ?_)
 refine wpAny_bind (wpAny_callSpecial?_slot (name:=Str.ofString "__getitem__") ht.typeIs PyProof.Rows.slot_tuple_getitem
  (wpAny_call_entry PyProof.Rows.slot_tuple_getitem ht.typeIs entry_tuple_getitem ?_ (args_tuple_getitem _ _)))
 show wpAny _ _ (Builtin.Tuple.tupleItemsOf (.ref t) >>= _) _ _ s
 refine wpAny_bind (tupleItemsOf_ ht ?_)
 refine wpAny_bind (wpAny_typeOf hTs ?_)
 rw [if_pos (by decide)]
 refine wpAny_bind (gB hs pl pu ?_)
 have hno:¬ ((((sIx items.size 0 lo:Nat):Int) == 0 && (1:Int) == 1 && (sIx items.size items.size hi - sIx items.size 0 lo) == items.size)=true):=by
  intro q
  rw [Bool.and_eq_true,Bool.and_eq_true] at q
  have q1:((sIx items.size 0 lo:Nat):Int)=0:=eq_of_beq q.1.1
  have q2:sIx items.size items.size hi - sIx items.size 0 lo=items.size:=eq_of_beq q.2
  exact hw ⟨by omega,by omega⟩
 show wpAny _ _ (if (((sIx items.size 0 lo:Nat):Int) == 0 && (1:Int) == 1 && (sIx items.size items.size hi - sIx items.size 0 lo) == items.size)=true then _ else _) _ _ s
 rw [if_neg hno,ut]
 first
  | exact wpAny_bind (m:=Builtin.Tuple.tupleExact _) (wpAny_newObj_type (wpAny_pure ⟨_,rfl,wpAny_pure h⟩) htake)
  | exact wpAny_bind (m:=Builtin.Tuple.tupleExact _) (wpAny_newObj_type (wpAny_bind (wpAny_pure (wpAny_pure ⟨_,rfl,wpAny_pure h⟩))) htake)
  | exact wpAny_bind (wpAny_bind (m:=Builtin.Tuple.tupleExact _) (wpAny_newObj_type (wpAny_pure (wpAny_pure ⟨_,rfl,wpAny_pure h⟩)) htake))
  | exact wpAny_bind (wpAny_bind (m:=Builtin.Tuple.tupleExact _) (wpAny_newObj_type (wpAny_pure ⟨_,rfl,wpAny_pure h⟩) htake))
end
end HT
namespace L2
open PySem PySem.Spec PyProof.Rows
abbrev TO:=St→Hp→(Option Int→Hp→Prop)→Prop
def PO (X:Cx) (e:Option Expr) (t:TO):Prop :=
 ∀ (pins:List (Addr × Obj)) (s:Shared) (σ:St) (H:Hp) (Q:Option Int→Hp→Prop),Inv X pins σ H s→t σ H Q →
  wpAny (model X.prog X.w) X.A (evalPart e X.env) (fun u s'=>∃ o H',Inv X pins σ H' s'∧IsPart u o∧Q o H') X.xe s
def wv:TO:=fun _ H Q=>Q none H
def AA (t:TE):TO:=fun σ H Q=>t σ H fun x H1=>∃ i,x=.int i∧Q (some i) H1
section
variable {X:Cx} {e:Expr} {te:TE} {lo hi:Option Expr} {tl th:TO} {pos p2:Pos}
theorem v2:PO X none wv:=by
 intro pins s σ H Q I h
 rw [evalPart_none]
 exact wpAny_pure ⟨none,H,I,.none,h⟩
theorem vR (h:PE X e te):PO X (some e) (AA te):=by
 intro pins s σ H Q I hw
 rw [evalPart_some]
 refine thn (h pins s σ H _ I hw) fun u s1 ⟨x,H1,I1,r1,q1⟩=>?_
 obtain ⟨i,rfl,q⟩:=q1
 obtain ⟨t,rfl⟩:=r1
 exact ⟨some i,H1,I1,.int i t,q⟩
def SlR (X:Cx) (r:V→Option Int→Option Int→Hp→VK→Prop):Prop :=
 ∀ (pins:List (Addr × Obj)) (s:Shared) (σ:St) (H:Hp) (x:V) (v vl vu:Value) (lo hi:Option Int) (sl:Addr) (Q:VK),Inv X pins σ H s→bD x v→s.heap.IsSliceOf sl vl vu .none→IsPart vl lo→IsPart vu hi→r x lo hi H Q →
  ∃ T id,typeLookup (.type T) "__getitem__"=pure (some (.builtin id))∧s.TypeIs v T∧wpAny (model X.prog X.w) X.A (getItem v (.ref sl)) (EP X pins σ Q) X.xe s
def tSl (r:V→Option Int→Option Int→Hp→VK→Prop) (te:TE) (tl th:TO):TE:=fun σ H Q=>te σ H fun x H1=>tl σ H1 fun l H2=>th σ H2 fun u H3=>r x l u H3 Q
theorem uV {r:V→Option Int→Option Int→Hp→VK→Prop} (hr:SlR X r) (he:PE X e te) (hl:PO X lo tl) (hu:PO X hi th):PE X (.Subscript e (.Slice lo hi none p2) pos) (tSl r te tl th):=by
 intro pins s σ H Q I h
 refine Subscript_ (thn (he pins s σ H _ I h) fun v s1 ⟨x,H1,I1,r1,q1⟩=>?_)
 refine wpAny_Slice (thn (hl pins s1 σ H1 _ I1 q1) fun vl s2 ⟨l,H2,I2,pl,q2⟩=>thn (hu pins s2 σ H2 _ I2 q2) fun vu s3 ⟨u,H3,I3,pu,q3⟩=>?_)
 rw [evalPart_none]
 refine wpAny_pure ?_
 have I4:Inv X pins σ H3 { s3 with heap:=s3.heap.push { cls:=.type "slice",data:=.fields #[vl,vu,.none] } }:=I3.kept (t':=s3.toks) fun b ob q=>Heap.get?_push_of_some _ q
 obtain ⟨T,id,hT,ht,hg⟩:=hr pins { s3 with heap:=s3.heap.push { cls:=.type "slice",data:=.fields #[vl,vu,.none] } } σ H3 x v vl vu l u s3.heap.objs.size Q I4 r1 (Heap.IsSliceOf.new ..) pl pu q3
 show wpAny (model X.prog X.w) X.A (subscriptTail e (.Slice lo hi none p2) v (.ref s3.heap.objs.size)) (EP X pins σ Q) X.xe { s3 with heap:=s3.heap.push { cls:=.type "slice",data:=.fields #[vl,vu,.none] } }
 exact tail_any (ops:=[.ref s3.heap.objs.size,v]) ht hT hg (by with_unfolding_all rfl)
def lh (xs:List V) (lo hi:Option Int):List V:=(xs.drop (HT.sIx xs.length 0 lo)).take (HT.sIx xs.length xs.length hi - HT.sIx xs.length 0 lo)
theorem jT (xs:List V) (lo hi:Option Int):(lh xs lo hi).length≤xs.length:=by
 unfold lh
 rw [List.length_take,List.length_drop]
 omega
def AT (K:PySem.W.Frag):V→Option Int→Option Int→Hp→VK→Prop:=fun x lo hi H Q=>∃ a xs,x=.ref a∧SqT K H a xs ∧
 ¬ (HT.sIx xs.length 0 lo=0∧HT.sIx xs.length xs.length hi=xs.length)∧∀ p,H p=none→Q (.ref p) (upd H p (.tup (lh xs lo hi)))
theorem zm:SlR X (AT X.K):=by
 intro pins s σ H x v vl vu lo hi sl Q I rx hs pl pu h
 obtain ⟨a,xs,rfl,hx,hw,q⟩:=h
 cases rx
 obtain ⟨its,r,ht,hz⟩:=I.tuple hx
 have hlen:its.toArray.size=xs.length:=by rw [List.size_toArray]; exact r.length.symm
 refine ⟨"tuple",_,PyProof.Rows.slot_tuple_getitem.lookup,ht.typeIs,?_⟩
 refine HT.jc ht hs pl pu (by rw [hlen]; exact hw) ?_ (by rw [hlen]; exact hz)
 rw [hlen]
 refine ⟨.ref s.heap.objs.size,_,I.laid (t':=s.toks) (o:=.tup (lh xs lo hi)) (fun b ob q=>Heap.get?_push_of_some _ q) (Nat.le_refl _) ?_,rfl,q _ (I.hok.fresh (Nat.le_refl _))⟩
 exact ⟨Nat.le_trans (jT xs lo hi) hz,_,(r.drop (HT.sIx xs.length 0 lo)).take (HT.sIx xs.length xs.length hi - HT.sIx xs.length 0 lo),lO.new _ _⟩
def zM (K:PySem.W.Frag):R2:=fun x y H Q=>∃ a b xs ys,x=.ref a∧y=.ref b∧SqT K H a xs∧SqT K H b ys∧xs ≠ []∧xs.length + ys.length≤sizeLine ∧
 (ys=[]→Q (.ref a) H)∧(ys ≠ []→∀ p,H p=none→Q (.ref p) (upd H p (.tup (xs ++ ys))))
theorem bi.nil_iff {xs:List V} {us:List Value} (r:bi xs us):us=[] ↔ xs=[]:=by
 cases r with
 | nil=>simp
 | cons _ _=>simp
theorem wn:OpR X (binaryOp .Add) (zM X.K):=by
 intro pins s σ H x y v u Q I rx ry h
 obtain ⟨a,b,xs,ys,rfl,rfl,ha,hb,hx,hz,q1,q2⟩:=h
 cases rx
 cases ry
 obtain ⟨its,r1,p1,_⟩:=I.tuple ha
 obtain ⟨its2,r2,p2,_⟩:=I.tuple hb
 refine HT.vV p1 p2 (fun z=>hx (r1.nil_iff.mp z)) (fun z=>⟨.ref a,H,I,rfl,q1 (r2.nil_iff.mp z)⟩) (fun z=>?_) (by rw [← r1.length,← r2.length]; exact hz)
 refine ⟨.ref s.heap.objs.size,_,I.laid (t':=s.toks) (o:=.tup (xs ++ ys)) (fun b ob q=>Heap.get?_push_of_some _ q) (Nat.le_refl _) ?_,rfl,q2 (fun w=>z (r2.nil_iff.mpr w)) _ (I.hok.fresh (Nat.le_refl _))⟩
 exact ⟨by rw [List.length_append]; exact hz,_,r1.append r2,lO.new _ _⟩
end
end L2
namespace L2
open PySem PySem.Spec PyProof.Rows
def ixN (n:Nat) (i:Int):Option Nat:=if 0≤i then (if i < n then some i.toNat else none) else if -(n:Int)≤i then some (i + n).toNat else none
def atI {α:Type} (xs:List α) (i:Int):Option α:=(ixN xs.length i).bind fun j=>xs[j]?
theorem qt {n:Nat} {i:Int} {j:Nat} (h:ixN n i=some j):seqIndex? i n=some j∧j < n∧-(n:Int)≤i∧i < n:=by
 unfold ixN at h
 by_cases h0:0≤i
 ·rw [if_pos h0] at h
  by_cases h1:i < n
  ·rw [if_pos h1] at h
   have e:i.toNat=j:=Option.some.inj h
   exact ⟨by rw [seqIndex_of h0 h1,e],by omega,by omega,h1⟩
  ·rw [if_neg h1] at h; cases h
 ·rw [if_neg h0] at h
  by_cases h1:-(n:Int)≤i
  ·rw [if_pos h1] at h
   have e:(i + n).toNat=j:=Option.some.inj h
   exact ⟨by rw [seqIndex_neg (by omega) h1,e],by omega,h1,by omega⟩
  ·rw [if_neg h1] at h; cases h
theorem mU {α:Type} {xs:List α} {i:Int} {v:α} (h:atI xs i=some v):∃ j,seqIndex? i xs.length=some j∧xs[j]?=some v∧j < xs.length∧-(xs.length:Int)≤i∧i < xs.length:=by
 unfold atI at h
 cases e:ixN xs.length i with
 | none=>rw [e] at h; cases h
 | some j =>
  rw [e] at h
  obtain ⟨h1,h2,h3,h4⟩:=qt e
  exact ⟨j,h1,h,h2,h3,h4⟩
theorem io {α:Type} {xs:List α} {j:Nat} {v:α} (h:xs[j]?=some v):atI xs (j:Int)=some v:=by
 have hj:j < xs.length:=(List.getElem?_eq_some_iff.mp h).1
 have e:ixN xs.length (j:Int)=some j:=by
  unfold ixN
  rw [if_pos (by omega),if_pos (by omega)]; simp
 unfold atI; rw [e]; exact h
def mX (b:Expr):Prop:=∀ o i,subscripted b false o i=operate [o,i] (getItem o i)
def IxR (X:Cx) (r:R2):Prop :=
 ∀ (value slice:Expr) (pins:List (Addr × Obj)) (s:Shared) (σ:St) (H:Hp) (x y:V) (v u:Value) (Q:VK),Inv X pins σ H s→bD x v→bD y u→r x y H Q →
  subscripted slice false v u=operate [v,u] (getItem v u)→wpAny (model X.prog X.w) X.A (subscriptTail value slice v u) (EP X pins σ Q) X.xe s
def MtR (X:Cx) (id:String) (r:V→List V→Hp→VK→Prop):Prop :=
 ∀ (pins:List (Addr × Obj)) (s:Shared) (σ:St) (H:Hp) (x:V) (xs:List V) (v:Value) (us:List Value) (Q:VK),Inv X pins σ H s→bD x v→bi xs us→r x xs H Q →
  wpAny (model X.prog X.w) X.A (call (.builtin id) (v :: us)) (EP X pins σ Q) X.xe s
section
variable {X:Cx} {a b:Expr} {ta tb:TE} {pos:Pos}
theorem xo {r:R2} (hr:IxR X r) (ha:PE X a ta) (hb:PE X b tb) (hs:mX b):PE X (.Subscript a b pos) (tOp r ta tb):=by
 intro pins s σ H Q I h
 exact Subscript_ (xM ha hb I h fun v u s2 x y H2 I2 rx ry q=>hr a b pins s2 σ H2 x y v u Q I2 rx ry q (hs _ _))
def A8 (K:PySem.W.Frag):R2:=fun x y H Q=>∃ p xs i v,x=.ref p∧y=.int i∧SqL K H p xs∧atI xs i=some v∧Q v H
def AX (K:PySem.W.Frag):R2:=fun x y H Q=>∃ p xs i v,x=.ref p∧y=.int i∧SqT K H p xs∧atI xs i=some v∧Q v H
def AZ:R2:=fun x y H Q=>∃ z i c,x=.str z∧y=.int i∧z.length≤sizeLine∧atI z.cps.toList i=some c∧Q (.str ⟨#[c]⟩) H
theorem q8:IxR X (A8 X.K):=by
 intro value slice pins s σ H x y v u Q I rx ry h hs
 obtain ⟨p,xs,i,z,rfl,rfl,hq,he,q⟩:=h
 cases rx
 obtain ⟨t,rfl⟩:=ry
 obtain ⟨its,r,pl,hz⟩:=I.list hq
 obtain ⟨j,h1,h2,h3,h4,h5⟩:=mU he
 obtain ⟨w,ew,rw'⟩:=r.get h2
 have hl:=r.length
 have hn:=iV
 have fin:EP X pins σ Q w s:=⟨z,H,I,rw',q⟩
 by_cases h0:0≤i
 ·have hj:i.toNat=j:=by
   rw [seqIndex_of h0 h5] at h1
   exact Option.some.inj h1
  exact item_listR pl.isList h0 (by omega) (by rw [hj]; simpa using ew) fin hs
 ·have hj:(i + (its.toArray.size:Int)).toNat=j:=by
   rw [seqIndex_neg (by omega) h4] at h1
   rw [List.size_toArray,← hl]
   exact Option.some.inj h1
  exact subscriptTail_builtinR (x:=w) pl.isList.typeIs slot_list_getitem.lookup
   (wpAny_getItem_list_neg (Q:=fun r s'=>r=w∧EP X pins σ Q r s') pl.isList (by omega) (by rw [List.size_toArray] <;> omega) (by omega) (by rw [hj]; simpa using ew) ⟨rfl,fin⟩) hs
theorem zv:IxR X (AX X.K):=by
 intro value slice pins s σ H x y v u Q I rx ry h hs
 obtain ⟨p,xs,i,z,rfl,rfl,hq,he,q⟩:=h
 cases rx
 obtain ⟨t,rfl⟩:=ry
 obtain ⟨its,r,pl,hz⟩:=I.tuple hq
 obtain ⟨j,h1,h2,h3,h4,h5⟩:=mU he
 obtain ⟨w,ew,rw'⟩:=r.get h2
 have hl:=r.length
 have hn:=iV
 have fin:EP X pins σ Q w s:=⟨z,H,I,rw',q⟩
 exact subscriptTail_builtinR (x:=w) pl.typeIs slot_tuple_getitem.lookup
  (getItem_tuple (j:=j) (Q:=fun r s'=>r=w∧EP X pins σ Q r s') pl (by omega) (by omega) (by rw [List.size_toArray,← hl]; exact h1) (by simpa using ew) ⟨rfl,fin⟩) hs
theorem yD:IxR X AZ:=by
 intro value slice pins s σ H x y v u Q I rx ry h hs
 obtain ⟨z,i,c,rfl,rfl,hz,he,q⟩:=h
 obtain ⟨t,rfl⟩:=rx
 obtain ⟨t',rfl⟩:=ry
 obtain ⟨j,h1,h2,h3,h4,h5⟩:=mU he
 have hl:z.cps.toList.length=z.length:=by simp [Str.length]
 rw [hl] at h1 h4 h5
 have hn:=iV
 exact tail_any (typeIs_str s z t) slot_str_getitem.lookup (getItem_str (c:=c) (by
  have e1:decide (i < -(2 ^ 63:Int))=false:=decide_eq_false (by omega)
  have e2:decide (i ≥ 2 ^ 63)=false:=decide_eq_false (by omega)
  rw [e1,e2,Bool.or_false]) (by rw [h1]; simpa using h2) ⟨.str ⟨#[c]⟩,H,I.tok _,⟨_,rfl⟩,q⟩) hs
theorem qd (its:List Value) (n j:Nat) (u:Value):Obj.mapSeq (·.setIfInBounds j u) { cls:=.type "list",data:=.seq its.toArray n }={ cls:=.type "list",data:=.seq (its.set j u).toArray n }:=by
 simp [Obj.mapSeq]
theorem Inv.lst {pins:List (Addr × Obj)} {σ:St} {H:Hp} {s:Shared} {p:Addr} {xs:List V} (I:Inv X pins σ H s) (h:H p=some (.lst xs)) :
  ∃ (its:List Value) (n:Nat),bi xs its∧s.heap.get? p=some { cls:=.type "list",data:=.seq its.toArray n }∧xs.length≤sizeLine:=by
 obtain ⟨z,its,n,r,e⟩:=I.hok p _ h
 exact ⟨its,n,r,e,z⟩
theorem Inv.lstUpd {pins:List (Addr × Obj)} {σ:St} {H:Hp} {s:Shared} {p:Addr} {xs ys:List V} {its its':List Value} {n n':Nat} {f:Obj→Obj} (I:Inv X pins σ H s) (h:H p=some (.lst xs))
  (ho:s.heap.get? p=some { cls:=.type "list",data:=.seq its.toArray n }) (hf:f { cls:=.type "list",data:=.seq its.toArray n }={ cls:=.type "list",data:=.seq its'.toArray n' }) (r:bi ys its') (hz:ys.length≤sizeLine) (t:Nat) :
  Inv X pins σ (upd H p (.lst ys)) { s with heap:=s.heap.update p f,toks:=t }:=by
 have e:(s.heap.update p f).get? p=some { cls:=.type "list",data:=.seq its'.toArray n' }:=by
  rw [Heap.get?_update_self f ho (by rw [hf] <;> rfl),hf]
 refine I.write (x:=p) (e:=p) (by rw [h]; trivial) (.inl rfl) (fun b u hb q=>(Heap.get?_update_other _ _ (Ne.symm hb)).trans q) ⟨_,e⟩ ?_
 exact ⟨hz,its',n',r,e⟩
def zE:V→V→V→Hp→(Hp→Prop)→Prop:=fun o i v H Q=>∃ p xs k j,o=.ref p∧i=.int k∧H p=some (.lst xs)∧ixN xs.length k=some j∧Q (upd H p (.lst (xs.set j v)))
theorem uw:As X zE:=by
 intro pins s σ H o i v ov iv u Q I ro ri rv h
 obtain ⟨p,xs,k,j,rfl,rfl,hp,hj,q⟩:=h
 cases ro
 obtain ⟨t,rfl⟩:=ri
 obtain ⟨its,n,r,ho,hz⟩:=I.lst hp
 obtain ⟨h1,h2,h3,h4⟩:=qt hj
 have hl:=r.length
 have hn:=iV
 have I':Inv X pins σ (upd H p (.lst (xs.set j v))) { s with heap:=s.heap.update p (Obj.mapSeq (·.setIfInBounds j u)) } :=
  I.lstUpd hp ho (qd its n j u) (r.set rv j) (by rw [List.length_set]; exact hz) s.toks
 by_cases h0:0≤k
 ·have hk:k.toNat=j:=by
   rw [seqIndex_of h0 h4] at h1
   exact Option.some.inj h1
  exact PySem.W.ki_setAt ho h0 (by omega) (by rw [List.size_toArray,← hl]; exact h4) (by rw [hk]; exact ⟨_,I',q⟩)
 ·have hk:(k + (its.toArray.size:Int)).toNat=j:=by
   rw [seqIndex_neg (by omega) h3] at h1
   rw [List.size_toArray,← hl]
   exact Option.some.inj h1
  exact PySem.W.ki_setBack ho (by omega) (by rw [List.size_toArray,← hl]; exact h3) (by omega) (by rw [hk]; exact ⟨_,I',q⟩)
theorem mW (lo hi:Option Int) (n:Nat):(sliceBounds lo hi none n).1=((HT.sIx n 0 lo:Nat):Int)∧(sliceBounds lo hi none n).2.1=((HT.sIx n n hi:Nat):Int)∧(sliceBounds lo hi none n).2.2=1:=by
 refine ⟨?_,?_,rfl⟩
 ·cases lo with
  | none=>simp [sliceBounds,HT.sIx]
  | some i =>
   simp only [sliceBounds,HT.sIx,Option.getD_none,show (1:Int) > 0 by decide,if_true]
   by_cases h:i < 0
   ·simp only [h,if_true] <;> omega
   ·simp only [h,if_false] <;> omega
 ·cases hi with
  | none=>simp [sliceBounds,HT.sIx]
  | some i =>
   simp only [sliceBounds,HT.sIx,Option.getD_none,show (1:Int) > 0 by decide,if_true]
   by_cases h:i < 0
   ·simp only [h,if_true] <;> omega
   ·simp only [h,if_false] <;> omega
theorem lT (its:List Value) (lo hi:Option Int):slicePick its.toArray lo hi none=((its.drop (HT.sIx its.length 0 lo)).take (HT.sIx its.length its.length hi - HT.sIx its.length 0 lo)).toArray:=by
 obtain ⟨h1,h2,h3⟩:=mW lo hi its.toArray.size
 unfold slicePick
 rw [h1,h2,h3]
 simp only [sliceRange_one,pick_run,List.size_toArray] <;> rfl
def AG (K:PySem.W.Frag):V→Option Int→Option Int→Hp→VK→Prop:=fun x lo hi H Q=>∃ a xs,x=.ref a∧SqL K H a xs∧∀ p,H p=none→Q (.ref p) (upd H p (.lst (lh xs lo hi)))
theorem qQ:SlR X (AG X.K):=by
 intro pins s σ H x v vl vu lo hi sl Q I rx hs pl pu h
 obtain ⟨a,xs,rfl,hx,q⟩:=h
 cases rx
 obtain ⟨its,r,ht,hz⟩:=I.list hx
 have hlen:=r.length
 refine ⟨"list",_,slot_list_getitem.lookup,ht.isList.typeIs,?_⟩
 refine wpAny_getItem_list_slice ht.isList hs pl pu .none (by simp) ?_ (by rw [List.size_toArray] <;> omega)
 rw [lT,← hlen]
 refine ⟨.ref s.heap.objs.size,_,I.laid (t':=s.toks) (o:=.lst (lh xs lo hi)) (fun b ob q=>Heap.get?_push_of_some _ q) (Nat.le_refl _) ?_,rfl,q _ (I.hok.fresh (Nat.le_refl _))⟩
 exact ⟨Nat.le_trans (jT xs lo hi) hz,_,0,(r.drop (HT.sIx xs.length 0 lo)).take (HT.sIx xs.length xs.length hi - HT.sIx xs.length 0 lo),Heap.get?_push_size _ rfl⟩
def iG:V→Bool
 | .non=>true
 | .bl _=>true
 | .int _=>true
 | .str _=>true
 | _=>false
def eqV:V→V→Bool
 | .non,.non=>true
 | .bl a,.bl b=>a == b
 | .bl a,.int b=>(if a then 1 else 0) == b
 | .int a,.bl b=>a == (if b then 1 else 0)
 | .int a,.int b=>a == b
 | .str a,.str b=>a == b
 | _,_=>false
theorem xJ {A:Around} {s:Shared} {y x:V} {u v:Value} (ry:bD y u) (rx:bD x v) (fy:iG y=true) (fx:iG x=true):SeqAt.EqAt A s u v (eqV y x):=by
 cases y with
 | non =>
  cases ry
  cases x with
  | non=>cases rx; exact SeqAt.EqAt.same _
  | bl b=>cases rx; exact SeqAt.EqAt.none_bool b
  | int b=>obtain ⟨t,rfl⟩:=rx; exact SeqAt.EqAt.none_int b t
  | str b=>obtain ⟨t,rfl⟩:=rx; exact SeqAt.EqAt.none_str b t
  | _=>exact absurd (show false=true from fx) Bool.false_ne_true
 | bl a =>
  cases ry
  cases x with
  | non=>cases rx; exact SeqAt.EqAt.bool_none a
  | bl b=>cases rx; exact SeqAt.EqAt.bool_bool a b
  | int b=>obtain ⟨t,rfl⟩:=rx; exact SeqAt.EqAt.bool_int a b t
  | str b=>obtain ⟨t,rfl⟩:=rx; exact SeqAt.EqAt.bool_str a b t
  | _=>exact absurd (show false=true from fx) Bool.false_ne_true
 | int a =>
  obtain ⟨t',rfl⟩:=ry
  cases x with
  | non=>cases rx; exact SeqAt.EqAt.int_none a t'
  | bl b=>cases rx; exact SeqAt.EqAt.int_bool a t' b
  | int b=>obtain ⟨t,rfl⟩:=rx; exact SeqAt.EqAt.int_int a t' b t
  | str b=>obtain ⟨t,rfl⟩:=rx; exact SeqAt.EqAt.int_str a t' b t
  | _=>exact absurd (show false=true from fx) Bool.false_ne_true
 | str a =>
  obtain ⟨t',rfl⟩:=ry
  cases x with
  | non=>cases rx; exact SeqAt.EqAt.str_none a t'
  | bl b=>cases rx; exact SeqAt.EqAt.str_bool a t' b
  | int b=>obtain ⟨t,rfl⟩:=rx; exact SeqAt.EqAt.str_int a t' b t
  | str b=>obtain ⟨t,rfl⟩:=rx; exact SeqAt.EqAt.str_str a t' b t
  | _=>exact absurd (show false=true from fx) Bool.false_ne_true
 | _=>exact absurd (show false=true from fy) Bool.false_ne_true
def eqU (x:V) (u:Value):Bool:=match u with
 | .none=>eqV .non x
 | .bool b=>eqV (.bl b) x
 | .int i _=>eqV (.int i) x
 | .str z _=>eqV (.str z) x
 | _=>false
theorem qj {x y:V} {u:Value} (r:bD y u) (f:iG y=true):eqU x u=eqV y x:=by
 cases y with
 | non=>cases r; rfl
 | bl b=>cases r; rfl
 | int i=>obtain ⟨t,rfl⟩:=r; rfl
 | str z=>obtain ⟨t,rfl⟩:=r; rfl
 | _=>exact absurd (show false=true from f) Bool.false_ne_true
theorem i8 {x:V}:∀ {xs:List V} {us:List Value},bi xs us→xs.all iG=true→us.any (eqU x)=xs.any fun y=>eqV y x
 | _,_,.nil,_=>rfl
 | y :: xs,u :: us,.cons r t,f=>by
  rw [List.all_cons,Bool.and_eq_true] at f
  rw [List.any_cons,List.any_cons,qj r f.1,i8 t f.2]
theorem fT {A:Around} {s:Shared} {x:V} {v:Value} (rx:bD x v) (fx:iG x=true):∀ {xs:List V} {us:List Value},bi xs us→xs.all iG=true→∀ u∈us,SeqAt.EqAt A s u v (eqU x u)
 | _,_,.nil,_=>fun u hu=>by cases hu
 | y :: xs,u :: us,.cons r t,f=>fun u' hu=>by
  rw [List.all_cons,Bool.and_eq_true] at f
  rcases List.mem_cons.mp hu with rfl | hu
  ·rw [qj r f.1]; exact xJ r rx f.1 fx
  ·exact fT rx fx t f.2 u' hu
def inV (x:V) (xs:List V):Bool:=xs.any fun y=>eqV y x
def rIn (K:PySem.W.Frag) (neg:Bool):R2:=fun x y H Q=>∃ p xs,y=.ref p∧(SqL K H p xs∨SqT K H p xs)∧iG x=true∧xs.all iG=true∧Q (.bl (if neg then !inV x xs else inV x xs)) H
theorem rH:OpR X (compareOp .In) (rIn X.K false):=by
 intro pins s σ H x y v u Q I rx ry h
 obtain ⟨p,xs,rfl,hq,fx,fs,q⟩:=h
 cases ry
 rcases hq with hq | hq
 ·obtain ⟨its,r,pl,hz⟩:=I.list hq
  refine SeqAt.in_listAt (eqU x) pl.isList (fun w hw=>fT rx fx r fs w (by simpa using hw)) ⟨.bl _,H,I,rfl,?_⟩
  rw [show its.toArray.any (eqU x)=its.any (eqU x) by simp,i8 r fs]
  exact q
 ·obtain ⟨its,r,pl,hz⟩:=I.tuple hq
  refine SeqAt.in_tupleAt (eqU x) pl (fun w hw=>fT rx fx r fs w (by simpa using hw)) ⟨.bl _,H,I,rfl,?_⟩
  rw [show its.toArray.any (eqU x)=its.any (eqU x) by simp,i8 r fs]
  exact q
theorem no:OpR X (compareOp .NotIn) (rIn X.K true):=by
 intro pins s σ H x y v u Q I rx ry h
 obtain ⟨p,xs,rfl,hq,fx,fs,q⟩:=h
 cases ry
 rcases hq with hq | hq
 ·obtain ⟨its,r,pl,hz⟩:=I.list hq
  refine SeqAt.notIn_listAt (eqU x) pl.isList (fun w hw=>fT rx fx r fs w (by simpa using hw)) ⟨.bl _,H,I,rfl,?_⟩
  rw [show its.toArray.any (eqU x)=its.any (eqU x) by simp,i8 r fs]
  exact q
 ·obtain ⟨its,r,pl,hz⟩:=I.tuple hq
  refine SeqAt.notIn_tupleAt (eqU x) pl (fun w hw=>fT rx fx r fs w (by simpa using hw)) ⟨.bl _,H,I,rfl,?_⟩
  rw [show its.toArray.any (eqU x)=its.any (eqU x) by simp,i8 r fs]
  exact q
theorem mO:OpR X (compareOp .NotIn) (fun x y H Q=>∃ i j,x=.str i∧y=.str j∧Q (.bl (!(!(Builtin.Str.occurrences j i 0 j.length 1).isEmpty))) H):=by
 intro pins s σ H x y v u Q I rx ry h
 obtain ⟨i,j,rfl,rfl,q⟩:=h
 obtain ⟨t,rfl⟩:=rx
 obtain ⟨t',rfl⟩:=ry
 exact notIn_str ⟨.bl _,H,I,rfl,q⟩
theorem gP:ja X (.builtin "len") (fun xs H Q=>∃ p ys,xs=[.ref p]∧(SqL X.K H p ys∨SqT X.K H p ys)∧Q (.int ys.length) H):=by
 intro pins s σ H xs us Q I r h
 obtain ⟨p,ys,rfl,hq,q⟩:=h
 obtain ⟨u,rfl,rx⟩:=iJ r
 cases rx
 have hn:=iV
 rcases hq with hq | hq
 ·obtain ⟨its,r',pl,hz⟩:=I.list hq
  have hlen:=r'.length
  exact Calls.call_len_list pl.isList (by simp only [List.size_toArray] <;> omega) ⟨.int ys.length,H,I.tok _,⟨s.toks + 1,by rw [List.size_toArray,hlen]⟩,q⟩
 ·obtain ⟨its,r',pl,hz⟩:=I.tuple hq
  have hlen:=r'.length
  exact len_tuple pl (by simp only [List.size_toArray] <;> omega) ⟨.int ys.length,H,I.tok _,⟨s.toks + 1,by rw [List.size_toArray,hlen]⟩,q⟩
theorem nF:ja X (.builtin "len") (fun xs H Q=>∃ z,xs=[.str z]∧z.length≤sizeLine∧Q (.int z.length) H):=by
 intro pins s σ H xs us Q I r h
 obtain ⟨z,rfl,hz,q⟩:=h
 obtain ⟨u,rfl,t,rfl⟩:=iJ r
 have hn:=iV
 exact len_str (by omega) ⟨.int z.length,H,I.tok _,⟨_,rfl⟩,q⟩
theorem m8:ja X (.type "list") (fun xs H Q=>∃ p ys,xs=[.ref p]∧(SqL X.K H p ys∨SqT X.K H p ys)∧∀ l,H l=none→Q (.ref l) (upd H l (.lst ys))):=by
 intro pins s σ H xs us Q I r h
 obtain ⟨p,ys,rfl,hq,q⟩:=h
 obtain ⟨u,rfl,rx⟩:=iJ r
 cases rx
 have fin:∀ (its:List Value),bi ys its→ys.length≤sizeLine→∀ (h':Heap) (c':Nat),(∀ b o',s.heap.get? b=some o'→h'.get? b=some o') →
   h'.get? s.heap.objs.size=some { cls:=.type "list",dict:=none,data:=.seq its.toArray c',slots:=#[] }→EP X pins σ Q (.ref s.heap.objs.size) { s with heap:=h' }:=fun its r' hz h' c' kp e =>
  ⟨.ref s.heap.objs.size,_,I.laid (t':=s.toks) kp (Nat.le_refl _) (show dE X.prog X.w _ h' _ (.lst ys) from ⟨hz,its,c',r',e⟩),rfl,q _ (I.hok.fresh (Nat.le_refl _))⟩
 rcases hq with hq | hq
 ·obtain ⟨its,r',pl,hz⟩:=I.list hq
  have hlen:=r'.length
  obtain ⟨o,ho,hc,n,hd⟩:=pl.isList
  exact call_list_seq p (.inl rfl) ho hc hd (fun h' c' kp e=>fin its r' hz h' c' kp e) (by simp only [List.size_toArray] <;> omega)
 ·obtain ⟨its,r',pl,hz⟩:=I.tuple hq
  have hlen:=r'.length
  obtain ⟨o,ho,hc,n,hd⟩:=pl
  exact call_list_seq p (.inr rfl) ho hc hd (fun h' c' kp e=>fin its r' hz h' c' kp e) (by simp only [List.size_toArray] <;> omega)
theorem gk:ja X (.type "tuple") (fun xs H Q=>∃ p ys,xs=[.ref p]∧((SqL X.K H p ys∧∀ l,H l=none→Q (.ref l) (upd H l (.tup ys)))∨(SqT X.K H p ys∧Q (.ref p) H))):=by
 intro pins s σ H xs us Q I r h
 obtain ⟨p,ys,rfl,h⟩:=h
 obtain ⟨u,rfl,rx⟩:=iJ r
 cases rx
 rcases h with ⟨hq,q⟩ | ⟨hq,q⟩
 ·obtain ⟨its,r',pl,hz⟩:=I.list hq
  have hlen:=r'.length
  refine call_tuple_list pl.isList (fun h' kp=>?_) (by simp only [List.size_toArray] <;> omega)
  have I1:Inv X pins σ H { s with heap:=h' }:=I.kept (t':=s.toks) kp
  have I2:Inv X pins σ (upd H h'.objs.size (.tup ys)) { s with heap:=h'.push { cls:=.type "tuple",data:=.seq its.toArray } } :=
   I1.laid (t':=s.toks) (fun b o e=>Heap.get?_push_of_some _ e) (Nat.le_refl _) (show dE X.prog X.w _ _ _ (.tup ys) from ⟨hz,its,r',lO.new _ _⟩)
  exact ⟨.ref h'.objs.size,_,I2,rfl,q _ (I1.hok.fresh (Nat.le_refl _))⟩
 ·obtain ⟨its,r',pl,hz⟩:=I.tuple hq
  exact call_tuple_same pl ⟨.ref p,H,I,rfl,q⟩
def tyV (K:PySem.W.Frag) (T:String) (x:V) (H:Hp):Prop:=match x with
 | .str _=>T="str"
 | .int _=>T="int"
 | .ref p=>(T="list"∧∃ xs,SqL K H p xs)∨(T="tuple"∧∃ o,K.lookup p=some o∧o.cls=.type "tuple"∧o.dict=none) ∨
   (T="dict"∧((∃ kvs,H p=some (.dK kvs))∨∃ kvs,H p=some (.dT kvs)))∨(T="set"∧∃ S n,H p=some (.set S n))
 | _=>False
theorem zb {pins:List (Addr × Obj)} {σ:St} {H:Hp} {s:Shared} {T:String} {x:V} {v:Value} (I:Inv X pins σ H s) (r:bD x v) (ty:tyV X.K T x H) :
  s.TypeIs v T∧∀ a,v=.ref a→∃ ob,s.heap.get? a=some ob∧ob.dict=none:=by
 cases x with
 | str z =>
  obtain ⟨t,rfl⟩:=r
  cases (show T="str" from ty)
  exact ⟨typeIs_str s z t,fun _ e=>nomatch e⟩
 | int i =>
  obtain ⟨t,rfl⟩:=r
  cases (show T="int" from ty)
  exact ⟨typeIs_int s i t,fun _ e=>nomatch e⟩
 | ref p =>
  cases r
  rcases ty with ⟨rfl,xs,hq⟩ | ⟨rfl,o,hk,hc,hd⟩ | ⟨rfl,hk⟩ | ⟨rfl,S,n,hk⟩
  ·obtain ⟨its,_,pl,_⟩:=I.list hq
   refine ⟨pl.isList.typeIs,fun a e=>?_⟩
   cases e
   obtain ⟨o,n,e,c,hd,_⟩:=pl
   exact ⟨o,e,hd⟩
  ·refine ⟨⟨o,I.kIn p o hk,hc⟩,fun a e=>?_⟩
   cases e
   exact ⟨o,I.kIn _ o hk,hd⟩
  ·have z:∃ o,s.heap.get? p=some o∧o.ExactDict:=by
    rcases hk with ⟨kvs,hk⟩ | ⟨kvs,hk⟩
    ·obtain ⟨_,_,_,_,o,_,_,e,ex,_⟩:=I.hok p _ hk
     exact ⟨o,e,ex⟩
    ·obtain ⟨_,_,_,_,o,_,_,e,ex,_⟩:=I.hok p _ hk
     exact ⟨o,e,ex⟩
   obtain ⟨o,e,ex⟩:=z
   refine ⟨⟨o,e,ex.1⟩,fun a e2=>?_⟩
   cases e2
   exact ⟨o,e,ex.2.1⟩
  ·obtain ⟨o,_,_,_,e,ex,_⟩:=I.hok p _ hk
   refine ⟨⟨o,e,ex.1⟩,fun a e2=>?_⟩
   cases e2
   exact ⟨o,e,ex.2.1⟩
 | _=>exact False.elim ty
def tBM (K:PySem.W.Frag) (T:String) (r:V→List V→Hp→VK→Prop) (to:TE) (t:TA):TE:=fun σ H Q=>to σ H fun x H1=>tyV K T x H1∧t σ H1 fun xs H2=>r x xs H2 Q
variable {o e:Expr} {es:List Expr} {to:TE} {t:TA} {name:Str} {apos cpos:Pos} {T id:String} {r:V→List V→Hp→VK→Prop}
theorem zH (pa:PlainAttrs T) (slot:Slot T name id) (hty:typeOf (.builtin id)=pure (.type "method_descriptor")) (hm:MtR X id r) (ho:PE X o to) (ha:PA X (e :: es) t)
  (hbase:attributeBase o name X.env (eval o X.env)=eval o X.env:=by rfl)
  (hfew:((backTo cpos (starEach (e :: es) X.env)).all (fun x=>!x.1) && (backToKw cpos (keywordEach [] X.env)).all (fun x=>x.1.isSome)
   && decide ((e :: es).length + ([]:List Keyword).length + (if ([]:List Keyword).isEmpty then 0 else 1) < 30))=true:=by rfl)
  (hline:(apos.endLine == cpos.line)=true:=by rfl) (hs:starEach (e :: es) X.env=(false,eval e X.env) :: starEach es X.env:=by rfl) (hplain:(backTo cpos (starEach es X.env)).any (·.1)=false:=by rfl) :
  PE X (.Call (.Attribute o name apos) (e :: es) [] cpos) (tBM X.K T r to t):=by
 intro pins s σ H Q I h
 refine wpAny_Call_method_late hbase hfew hline rfl (thn (ho pins s σ H _ I h) fun v s1 ⟨x,H1,I1,r1,ty,q1⟩=>?_)
 obtain ⟨h1,h2⟩:=zb I1 r1 ty
 refine ⟨T,id,pa,slot,hty,h1,h2,?_⟩
 have hA:=ha cpos pins s1 σ H1 _ I1 q1
 rw [hs] at hA ⊢
 refine Calls.callWith_builtin (by show (false || (backTo cpos (starEach es X.env)).any (·.1))=false; rw [hplain] <;> rfl) (Calls.evalArgs_plain ?_)
 exact thn hA fun us s2 ⟨vs,H2,I2,r2,q2⟩=>hm pins s2 σ H2 x vs v us Q I2 r1 r2 q2
end
end L2
namespace L2
open PySem PySem.Spec PyProof.Rows
def MtM (X:Cx) (id:String) (r:V→List V→Hp→VK→Prop):Prop :=
 ∀ (pins:List (Addr × Obj)) (s:Shared) (σ:St) (H:Hp) (x:V) (xs:List V) (v:Value) (us:List Value) (Q:VK),Inv X pins σ H s→bD x v→bi xs us→r x xs H Q →
  wpAny (model X.prog X.w) X.A (call (.builtin id) (v :: us)) (EP X pins σ Q) X.xe s
theorem bi.one:∀ {x:V} {us:List Value},bi [x] us→∃ u,us=[u]∧bD x u
 | _,_,.cons r .nil=>⟨_,rfl,r⟩
section
variable {X:Cx} {pins:List (Addr × Obj)} {σ:St} {H:Hp} {s:Shared} {l b:Addr} {xs ys zs:List V}
theorem Inv.lset {its its':List Value} {n:Nat} {f:Array Value→Array Value} {t':Nat} (I:Inv X pins σ H s) (hH:H l=some (.lst xs))
  (e:s.heap.get? l=some { cls:=.type "list",data:=.seq its.toArray n }) (hf:f its.toArray=its'.toArray) (hv:bi ys its') (hz:ys.length≤sizeLine) :
  Inv X pins σ (upd H l (.lst ys)) { s with heap:=s.heap.update l (Obj.mapSeq f),toks:=t' }:=by
 have q:=PySem.IsL.update e f
 rw [hf] at q
 refine I.write (x:=l) (e:=l) (by rw [hH]; exact trivial) (.inl rfl) (fun b' u hb hu=>(Heap.get?_update_other s.heap (Obj.mapSeq f) (Ne.symm hb)).trans hu) ⟨_,q⟩ ?_
 exact ⟨hz,its',_,hv,q⟩
theorem Inv.lnew {its:List Value} {t':Nat} (I:Inv X pins σ H s) (hv:bi ys its) (hz:ys.length≤sizeLine) :
  Inv X pins σ (upd H s.heap.objs.size (.lst ys)) { s with heap:=s.heap.push { cls:=.type "list",data:=.seq its.toArray },toks:=t' } :=
 I.laid (fun _ _ q=>Heap.get?_push_of_some _ q) (Nat.le_refl _) ⟨hz,its,0,hv,Heap.get?_push_size _ rfl⟩
theorem Inv.fresh (I:Inv X pins σ H s):H s.heap.objs.size=none:=I.hok.fresh (Nat.le_refl _)
theorem Inv.lstM (I:Inv X pins σ H s) (hH:H l=some (.lst xs)):xs.length≤sizeLine∧∃ (its:List Value) (n:Nat),bi xs its∧xs.length=its.length∧s.heap.get? l=some { cls:=.type "list",data:=.seq its.toArray n }:=by
 obtain ⟨z,its,n,r,e⟩:=I.hok l _ hH
 exact ⟨z,its,n,r,r.length,e⟩
end
section
variable {X:Cx}
def vk:V→List V→Hp→VK→Prop:=fun x vs H Q=>∃ l xs y,x=.ref l∧vs=[y]∧H l=some (.lst xs)∧xs.length < sizeLine∧Q .non (upd H l (.lst (xs ++ [y])))
theorem sB:MtM X "list.append" vk:=by
 intro pins s σ H x vs v us Q I rx rv h
 obtain ⟨l,xs,y,rfl,rfl,hH,hz,q⟩:=h
 cases rx
 obtain ⟨u,rfl,ru⟩:=rv.one
 obtain ⟨z,its,n,r,hl,e⟩:=I.lstM hH
 refine call_meets F.slot_list_append ⟨_,e,rfl⟩ F.entry_list_append (F.args_list_append_2 _ _) (PySem.list_append l its.toArray n u (by rw [List.size_toArray]; omega)) ⟨e,?_⟩
 refine ⟨.non,_,I.lset (its':=its ++ [u]) hH e (by simp) (r.append (.cons ru .nil)) ?_,rfl,q⟩
 rw [List.length_append,List.length_singleton]
 omega
end
section
variable {prog:Program} {w:World} {A:Around} {E:Value→Shared→Prop} {s:Shared}
end
section
variable {X:Cx}
end
end L2
namespace Att
open PySem PySem.W PySem.Calls PyProof.Rows
theorem j8 {P:Params} {h:Heap}:∀ (ns:List Int) (vs:List Value),WellAll P h vs (ns.map WData.int)→IntsAre vs ns:=by
 intro ns
 induction ns with
 | nil =>
  intro vs w
  rw [List.map_nil] at w
  cases w
  exact .nil
 | cons n ns ih =>
  intro vs w
  rw [List.map_cons] at w
  cases w with
  | cons a b =>
   cases a
   exact .cons _ _ (ih _ b)
theorem sv {l:OpenLaw} {n:Nat} (hn:l.most=some n) {P:Params} {h:Heap} {args:List WData} {vals:List Value}
  (hpre:l.row.toRowW.claim.pre args=true) (hwl:WellAll P h vals args) :
  ∃ a vs ns,vals=[Value.ref a]∧args=[WData.list (ns.map WData.int)]∧h.get? a=some { cls:=.type "list",data:=.seq vs.toArray }∧IntsAre vs ns∧ns.length≤n:=by
 have hsh:WShape.hasAll [] args [.list .int]=true:=(pre_splitW hpre).1
 have hc:l.pre.holds [] { args:=args }=true:=(pre_splitW hpre).2
 obtain ⟨d,r,rfl,h1,h2⟩:=hasAllW_cons hsh
 obtain rfl:=hasAllW_nil h2
 obtain ⟨xs,rfl,h3⟩:=hasW_list h1
 obtain ⟨ns,rfl⟩:=items_int h3
 have hlen:ns.length≤n:=by
  unfold OpenLaw.pre at hc
  have h4:(WTm.not (.lt (.lit (.int (n:Int))) (.len (.arg 0)))).holds [] { args:=[.list (ns.map .int)] }=true:=by
   have h4:=(holds_andW hc).1
   rw [hn] at h4
   exact h4
  have h5:=condW_of h4 (w_not (w_lt w_lit (w_len_list (w_arg rfl))))
  rw [List.length_map] at h5
  refine Nat.le_of_not_lt fun q=>?_
  have q':(n:Int) < ((ns.length:Nat):Int):=by omega
  first
   | (rw [decide_eq_true q'] at h5; exact absurd h5 (by decide))
   | (simp at h5; omega)
 cases hwl with
 | cons w1 w2 =>
  cases w2
  cases w1 with
  | list ho hall=>exact ⟨_,_,ns,rfl,rfl,ho,j8 ns _ hall,hlen⟩
theorem sk (l:OpenLaw) (args:List WData):l.row.toRowW.claim.post args (.bool true) args=true :=
 postW_of (r:=l.row.toRowW) (X:=(true == true))
  (show WShape.has [] (.bool true) .bool=true by first | rfl | decide | simp [WShape.has,WShape.arms,WShape.armsAll])
  (show (WTm.eq .res (.lit (.bool true))).value [] { args:=args,res:=some (.bool true),after:=args }=some (.bool (true == true)) from w_eq_bool (w_res rfl) w_lit) rfl
theorem attach_call {l:OpenLaw} {n:Nat} {q:Program} {loose:List Str} {XP:(Str→Option Value)→Heap→Prop} {YP:World→Heap→Prop} {d:DefRec}
  (hn:l.most=some n) (hdf:d.params.defaults=[])
  (call:∀ (w:World) (s₀ s₁:Shared) (mg mb:Str→Option Value) (fa:Addr) (o:Obj) (pm cd doc:Value) (a:Addr) (vs:List Value) (ns:List Int),
   Ground q loose [] XP w s₀ mg mb s₁.heap→YP w s₁.heap →
   s₁.heap.get? fa=some o→o.data=.func (docDef d.name d.params d.body d.scope pm cd doc)→s₁.heap.CodeRec cd d.name→mg d.name=some (.ref fa) →
   s₁.heap.get? a=some { cls:=.type "list",data:=.seq vs.toArray }→IntsAre vs ns→ns.length≤n→s₁.gens=#[] →
   codeAny (model l.prog w) callerA (.call (.ref fa) ⟨[.ref a],[]⟩) (fun r s'=>r=.ok (.ret (.bool true))∧OldK s₁.heap s'.heap∧s'.os=s₁.os∧AllBare s'.gens) s₁) :
  WalkO q loose XP YP l.row.toRowW d [] (fun f vs=>PySem.call f vs):=by
 intro w s₀ s₁ mg mb G Y fa o pm cd doc dV kV ho hd hcd hD hmg hg args vals as hpre hlay hrd hwl hlo
 obtain rfl:dV=.none:=Dflts.none hD hdf
 obtain rfl:kV=.none:=Dflts.noKw hD
 obtain ⟨a,vs,ns,rfl,rfl,hobj,hints,hlen⟩:=sv hn hpre hwl
 refine enter_call (codeAny_mono (call w s₀ s₁ mg mb fa o pm cd doc a vs ns G Y ho (fd_plain hd) hcd hmg hobj hints hlen hg) fun r s' hq=>?_)
 obtain ⟨rfl,h2,h3,h4⟩:=hq
 exact ⟨.inl ⟨.bool true,.bool true,[],rfl,fun _=>rfl,.bool true,sk l _,fun _=>⟨List.Pairwise.nil,fun _ hm=>(nomatch hm)⟩⟩,h2,h3,h4⟩
section
variable {prog:Program} {w:World} {A:Around} {E:Value→Shared→Prop} {s:Shared} {K:Frag}
end
end Att
namespace L2
open PySem PySem.Spec PyProof.Rows
theorem mr:∀ {vs:List Value} {ns:List Int},IntsAre vs ns→bi (ns.map V.int) vs
 | _,_,.nil=>.nil
 | _,_,.cons n t h=>.cons ⟨t,rfl⟩ (mr h)
def tu (H:Hp):Prop:=∀ b,H b=none∨∃ o xs,H b=some (.frz o (.lst xs))
theorem tG {P:Program} {w:World} {K:PySem.W.Frag} {mg mb:Str→Option Value} {CX:CXT} {k:Nat} {fa a:Addr} {fd:FuncData} {x:Str} {sp:Sp} {s₁:Shared} {vs:List Value} {ns:List Int}
  (KX:K.In s₁.heap) (hns:s₁.heap.Ns mainGlobals mg) (hb:s₁.heap.Ns builtinsNs mb) (hbb:∀ x:Str,x ≠ "__name__"→mb x=bootBuiltins x) (hlim:s₁.heap.NoLimit) (hg:s₁.gens=#[])
  (ha:s₁.heap.get? a=some { cls:=.type "list",data:=.seq vs.toArray }) (hi:IntsAre vs ns) (hl:ns.length≤sizeLine) (hr:dG k callerA)
  (F:∀ base:Heap,K.In base→base.Ns mainGlobals mg→iw P w K mg base CX k fa fd [x] sp) (hbind:∀ (s:Shared) (u:Value),BindsTo s fd ⟨[u],[]⟩ [(x,u)])
  (hsp:∀ H:Hp,tu H→SqL K H a (ns.map V.int)→sp [.ref a] H (fun v _=>v=.bl true) fun _ _ _=>False)
  (hCX:∀ H e s',CX [] H s₁ (fun _ _ _=>False) e s'→False) :
  codeAny (model P w) callerA (.call (.ref fa) ⟨[.ref a],[]⟩) (fun r s'=>r=.ok (.ret (.bool true))∧OldK s₁.heap s'.heap∧s'.os=s₁.os∧AllBare s'.gens) s₁:=by
 have rv:=mr hi
 have lenV:=hi.length
 have core:∀ H:Hp,tu H→SqL K H a (ns.map V.int)→HOk P w H s₁.heap→(∀ b,H b ≠ none→b=a)→(H a ≠ none→K.lookup a=none) →
   codeAny (model P w) callerA (.call (.ref fa) ⟨[.ref a],[]⟩) (fun r s'=>r=.ok (.ret (.bool true))∧OldK s₁.heap s'.heap∧s'.os=s₁.os∧AllBare s'.gens) s₁:=by
  intro H hO hS hok hA hK
  have base_of:∀ {b:Addr} {o:Obj},s₁.heap.get? b=some o→H b=none→(ny s₁.heap H).get? b=some o:=fun e n=>uY e n
  have noA:∀ {b:Addr} {o:Obj} {es:Array DictEntry} {ep:Nat},s₁.heap.get? b=some o→o.data=.dict es ep→H b=none:=fun {b o es ep} e d=>by
   cases q:H b with
   | none=>rfl
   | some u =>
    have e':b=a:=hA b (by rw [q]; simp)
    subst e'
    rw [ha] at e; cases e
    have d':Data.seq vs.toArray _=Data.dict es ep:=d
    cases d'
  have nsK:∀ {b:Addr} {m:Str→Option Value},s₁.heap.Ns b m→(ny s₁.heap H).Ns b m:=fun {b m} ⟨o,es,ep,e,d,r⟩=>⟨o,es,ep,base_of e (noA e d),d,r⟩
  have hKb:K.In (ny s₁.heap H):=fun b o e=>base_of (KX b o e) (by
   cases q:H b with
   | none=>rfl
   | some u =>
    have e':b=a:=hA b (by rw [q]; simp)
    subst e'
    rw [hK (by rw [q]; simp)] at e; cases e)
  have hM:Mod K mg (ny s₁.heap H):=⟨hKb,nsK hns,⟨mb,nsK hb,hbb⟩,let ⟨mc,h1,h2⟩:=hlim; ⟨mc,nsK h1,h2⟩⟩
  have e0:pV P w K mg (ny s₁.heap H) callerA [] s₁ H:=⟨rfl,hM,fun b o e=>vN e,Nat.le_of_eq (sh _ _),trivial,fun b hb=>absurd (show b∈([]:List Addr) from hb) (by simp),hok,.of_eq hg⟩
  refine codeAny_mono ((F _ hKb (nsK hns)).run callerA [] s₁ H ⟨[.ref a],[]⟩ [.ref a] [.ref a] _ _ hr e0 (hbind s₁ (.ref a)) (.cons rfl .nil) (hsp H hO hS)) fun r s' h=>?_
  cases r with
  | error e=>exact (hCX H e s' h).elim
  | ok fl =>
   cases fl with
   | next=>exact False.elim h
   | brk=>exact False.elim h
   | cont=>exact False.elim h
   | ret u =>
    obtain ⟨v,H',os,bare,un,hok',r',q⟩:=h
    have q':v=.bl true:=q
    subst q'
    obtain rfl:u=Value.bool true:=r'
    refine ⟨rfl,OldK.of_keep fun b o e=>?_,os,bare⟩
    cases q:H b with
    | none=>exact un.keep b o e q (by intro z; exact absurd (show b∈([]:List Addr) from z) (by simp)) (by simp)
    | some u =>
     rcases hO b with z | ⟨ob,xs,z⟩
     ·rw [q] at z; cases z
     ·have z2:=un.frzs b ob _ z
      obtain ⟨e1,_⟩:=hok b _ z
      obtain ⟨e2,_⟩:=hok' b _ z2
      rw [e] at e1; cases e1
      exact e2
 cases hk:K.lookup a with
 | some o =>
  have e:=KX a o hk
  rw [ha] at e
  cases e
  refine core (fun _=>none) (fun _=>.inl rfl) (.inr ⟨_,vs.toArray,_,hk,rfl,rfl,rfl,by rw [List.size_toArray,lenV]; exact hl,by simpa using rv⟩) (fun b u z=>by have z':(none:Option HO)=some u:=z; cases z') (fun b z=>absurd rfl z) fun z=>absurd rfl z
 | none =>
  refine core (fun b=>if b=a then some (.frz { cls:=.type "list",data:=.seq vs.toArray } (.lst (ns.map V.int))) else none) (fun b=>?_) (.inl (.inr ⟨{ cls:=.type "list",data:=.seq vs.toArray },if_pos rfl⟩)) (fun b u z=>?_) (fun b z=>?_) fun _=>hk
  ·by_cases hb:b=a
   ·exact .inr ⟨_,_,if_pos hb⟩
   ·exact .inl (if_neg hb)
  ·by_cases hb:b=a
   ·have z':=(if_pos hb).symm.trans z
    cases z'
    subst hb
    exact ⟨ha,by rw [List.length_map]; exact hl,vs,_,rv,ha⟩
   ·have z':=(if_neg hb).symm.trans z
    cases z'
  ·by_cases hb:b=a
   ·exact hb
   ·exact absurd (if_neg hb) z
end L2
namespace L2
open PySem PySem.Spec PyProof.Rows
theorem vm {l:PySem.W.OpenLaw} {n k:Nat} {q:Program} {loose:List Str} {XP:(Str→Option Value)→Heap→Prop} {YP:World→Heap→Prop} {d:DefRec} {K:Params→PySem.W.Frag} {CX:World→CXT} {sp:World→Sp} {x:Str}
  (hn:l.most=some n) (hn2:n≤sizeLine) (hdf:d.params.defaults=[]) (hr:dG k callerA)
  (hY:∀ (w:World) (h:Heap),YP w h→(K w.params).In h)
  (F:∀ (w:World) (mg:Str→Option Value) (fa:Addr) (h:Heap),(K w.params).In h→h.Ns mainGlobals mg→mg d.name=some (.ref fa) →
   ∃ fd:FuncData,(∀ (s:Shared) (u:Value),BindsTo s fd ⟨[u],[]⟩ [(x,u)]) ∧
    ∀ base:Heap,(K w.params).In base→base.Ns mainGlobals mg→iw l.prog w (K w.params) mg base (CX w) k fa fd [x] (sp w))
  (hsp:∀ (w:World) (H:Hp) (a:Addr) (ns:List Int),ns.length≤n→tu H→SqL (K w.params) H a (ns.map V.int)→sp w [.ref a] H (fun v _=>v=.bl true) fun _ _ _=>False)
  (hCX:∀ (w:World) (H:Hp) (s:Shared) (e:Value) (s':Shared),CX w [] H s (fun _ _ _=>False) e s'→False) :
  PySem.W.WalkO q loose XP YP l.row.toRowW d [] (fun f vs=>PySem.call f vs):=by
 refine Att.attach_call hn hdf fun w s₀ s₁ mg mb fa o pm cd doc a vs ns G Y ho hd hcd hmg hobj hints hlen hg=>?_
 have KX:=hY w _ Y
 obtain ⟨fd,hb,hF⟩:=F w mg fa _ KX G.T.g hmg
 exact tG KX G.T.g G.T.b G.T.builtins G.T.nolimit hg hobj hints (Nat.le_trans hlen hn2) hr hF hb (fun H hO hS=>hsp w H a ns hlen hO hS) fun H e s'=>hCX w H s₁ e s'
end L2
namespace L2
open PySem PySem.Spec PyProof.Rows
def bX (s:Stmt) (j:Nat):Stmt:=match s with
 | .ClassDef _ _ _ body _ _ _ _ _ _ _=>body.getD j (.Pass ⟨0,0,0,0⟩)
 | _=>.Pass ⟨0,0,0,0⟩
def am (s:Stmt):Arguments:=match s with
 | .FunctionDef _ a _ _ _ _ _ _ _ _=>a
 | _=>{ posonlyargs:=[],args:=[],vararg:=none,kwonlyargs:=[],kw_defaults:=[],kwarg:=none,defaults:=[] }
def al (s:Stmt):List Stmt:=match s with
 | .FunctionDef _ _ b _ _ _ _ _ _ _=>b
 | _=>[]
def ah (s:Stmt):Scope:=match s with
 | .FunctionDef _ _ _ _ _ _ sc _ _ _=>sc
 | _=>{ kind:=.function,names:=[],isGenerator:=false,isCoroutine:=false }
abbrev CX0:CXT:=fun _ _ _ _ _ _=>False
abbrev E0:XK:=fun _ _ _=>False
theorem qU {X:Cx}:ld CX0 X E0:=fun _ _ _ _ _ _ _ h=>h.elim
structure Fun (K:PySem.W.Frag) (x qual:Str) (st:Stmt) (f:Addr) (fd:FuncData):Prop where
 ex:∃ (oc:Value) (od:Option Addr) (kV doc pm:Value) (an:Option Addr) (cdv ct:Value) (osl:Array (Option Value)),
  fd=PySem.W.fnOf x qual (am st) (al st) (ah st) .none kV doc pm an cdv ct∧K.lookup f=some ⟨oc,od,.func fd,osl⟩∧PySem.W.codeIn K cdv qual=true
 kp:PySem.W.keepIn K (.ref f)=true
section
variable {P:Program} {w:World} {K:PySem.W.Frag} {mg:Str→Option Value} {base:Heap}
theorem Fun.ok {x qual:Str} {st:Stmt} {f:Addr} {fd:FuncData} {N ps:List Str} {k:Nat} {sp:Sp} (F:Fun K x qual st f fd) (S:ax N ps (ah st)) (len:∀ vs H Q E,sp vs H Q E→vs.length=ps.length)
  (hbody:∀ (cdv:Value) (A:Around) (outer:List Env) (s:Shared) (H:Hp) (vs:List V) (Q:VK) (E:XK),dG k (A.deeper (envOfC qual (ah st) s.heap.objs.size f cdv))→sp vs H Q E →
   ∃ t,PSs (gI CX0 P w K mg base N qual (ah st) f cdv A outer s H E).nox (al st) t∧t { nx:=fun _ H'=>Q .non H',rt:=Q } (start N vs) H):iw P w K mg base CX0 (k + 1) f fd ps sp:=by
 obtain ⟨oc,od,kV,doc,pm,an,cdv,ct,osl,rfl,lk,hcd⟩:=F.ex
 refine um lk hcd S len fun A outer s H vs Q E hr hsp=>?_
 obtain ⟨t,h,q⟩:=hbody cdv A outer s H vs Q E hr hsp
 exact ⟨t,h.nox,q⟩
theorem Fun.binds {x qual:Str} {st:Stmt} {f:Addr} {fd:FuncData} {ps:List Str} (F:Fun K x qual st f fd)
  (h:∀ (kV doc pm:Value) (an:Option Addr) (cdv ct:Value) (us:List Value),us.length=ps.length→bindArgs (PySem.W.fnOf x qual (am st) (al st) (ah st) .none kV doc pm an cdv ct) ⟨us,[]⟩=pure (ps.zip us)):aJ K fd ps []:=by
 obtain ⟨oc,od,kV,doc,pm,an,cdv,ct,osl,rfl,lk,hcd⟩:=F.ex
 exact .all (h kV doc pm an cdv ct)
theorem aq {x qual:Str} {st:Stmt} {f:Addr} {oc:Value} {od an:Option Addr} {osl:Array (Option Value)} {kV doc pm cdv ct:Value} (l:K.lookup f=some ⟨oc,od,.func (PySem.W.fnOf x qual (am st) (al st) (ah st) .none kV doc pm an cdv ct),osl⟩)
  (c:PySem.W.codeIn K cdv qual=true) (k:PySem.W.keepIn K (.ref f)=true):Fun K x qual st f (PySem.W.fnOf x qual (am st) (al st) (ah st) .none kV doc pm an cdv ct):=⟨⟨oc,od,kV,doc,pm,an,cdv,ct,osl,rfl,l,c⟩,k⟩
end
section
variable {X:Cx}
theorem pv (i:Nat) {x:Str} {pos:Pos} (hN:X.N[i]?=some x:=by rfl) (hv:Vis X.env.scope x:=by first | exact Or.inl rfl | exact Or.inr (Or.inl rfl) | exact Or.inr (Or.inr rfl)) (hd:(x == ("__debug__":Str))=false:=by decide)
  (hcd:(x == ("__classdict__":Str))=false:=by decide):PE X (.Name x pos) (tV i):=xW hN hv hd hcd
end
theorem uL {A B:Prop} (h:B):if false=true then A else B:=by
 rw [if_neg Bool.false_ne_true]
 exact h
theorem vQ {A B:Prop} (h:A):if true=true then A else B:=by
 rw [if_pos rfl]
 exact h
theorem dc {c A B:Prop} [Decidable c] (h1:c→A) (h2:¬ c→B):if c then A else B:=by
 by_cases h:c
 ·rw [if_pos h]
  exact h1 h
 ·rw [if_neg h]
  exact h2 h
end L2
namespace L2
open PySem PySem.Spec PyProof.Rows
section
variable {κ:Type} [DecidableEq κ]
def gO (kvs:List (κ × V)) (k:κ):Option V:=(kvs.find? fun kv=>decide (kv.1=k)).map (·.2)
def iR (kvs:List (κ × V)) (k:κ) (v:V):List (κ × V) :=
 if (kvs.any fun kv=>decide (kv.1=k))=true then kvs.map (fun kv=>if kv.1=k then (kv.1,v) else kv) else kvs ++ [(k,v)]
theorem kK {p:κ × V} {r:List (κ × V)} {k:κ} (e:p.1=k):gO (p :: r) k=some p.2:=by simp [gO,List.find?_cons,e]
theorem ku {p:κ × V} {r:List (κ × V)} {k:κ} (e:¬ p.1=k):gO (p :: r) k=gO r k:=by simp [gO,List.find?_cons,e]
theorem n0 (k:κ):∀ kvs:List (κ × V),(kvs.any fun kv=>decide (kv.1=k))=(gO kvs k).isSome
 | []=>rfl
 | p :: r=>by
  rw [List.any_cons]
  by_cases e:p.1=k
  ·simp only [kK e,decide_eq_true e,Bool.true_or,Option.isSome_some]
  ·rw [ku e,decide_eq_false e,Bool.false_or]; exact n0 k r
theorem jS (kvs:List (κ × V)) (k:κ) (v:V):(iR kvs k v).length≤kvs.length + 1:=by
 unfold iR
 split
 ·rw [List.length_map]; omega
 ·rw [List.length_append,List.length_cons,List.length_nil]; omega
theorem iz.isSome_eq {o:Option V} {u:Option Value} (r:iz o u):o.isSome=u.isSome:=by
 cases o with
 | none=>cases u with
  | none=>rfl
  | some _=>exact (show False from r).elim
 | some _=>cases u with
  | none=>exact (show False from r).elim
  | some _=>rfl
theorem KV.val {kvs:List (κ × V)} {vs:List (κ × Value)} (r:KV kvs vs) (k:κ):iz (gO kvs k) (valueAt vs k):=by
 unfold KV at r
 induction r with
 | nil=>exact True.intro
 | @cons p q ps qs h t ih =>
  obtain ⟨h1,h2⟩:=h
  by_cases e:p.1=k
  ·have e':q.1=k:=h1.symm.trans e
   have b:valueAt (q :: qs) k=some q.2:=by simp [valueAt,List.find?_cons,e']
   rw [kK e,b]; exact h2
  ·have e':¬ q.1=k:=fun z=>e (h1.trans z)
   have b:valueAt (q :: qs) k=valueAt qs k:=by simp [valueAt,List.find?_cons,e']
   rw [ku e,b]; exact ih
theorem KV.any {kvs:List (κ × V)} {vs:List (κ × Value)} (r:KV kvs vs) (k:κ):(kvs.any fun kv=>decide (kv.1=k))=vs.any fun kv=>decide (kv.1=k):=by
 unfold KV at r
 induction r with
 | nil=>rfl
 | cons h t ih=>rw [List.any_cons,List.any_cons,ih,h.1]
theorem KV.repl {kvs:List (κ × V)} {vs:List (κ × Value)} (r:KV kvs vs) (k:κ) {y:V} {u:Value} (ry:bD y u) :
  KV (kvs.map fun kv=>if kv.1=k then (kv.1,y) else kv) (vs.map fun kv=>if kv.1=k then (kv.1,u) else kv):=by
 unfold KV at r ⊢
 induction r with
 | nil=>exact .nil
 | @cons p q ps qs h t ih =>
  rw [List.map_cons,List.map_cons]
  refine .cons ?_ ih
  obtain ⟨h1,h2⟩:=h
  by_cases e:p.1=k
  ·rw [if_pos e,if_pos (h1.symm.trans e)]; exact ⟨h1,ry⟩
  ·rw [if_neg e,if_neg (fun z=>e (h1.trans z))]; exact ⟨h1,h2⟩
theorem KV.put {kvs:List (κ × V)} {vs:List (κ × Value)} (r:KV kvs vs) (k:κ) {y:V} {u:Value} (ry:bD y u):KV (iR kvs k y) (stored vs k u):=by
 unfold iR stored
 rw [r.any k]
 by_cases e:(vs.any fun kv=>decide (kv.1=k))=true
 ·rw [if_pos e,if_pos e]; exact r.repl k ry
 ·rw [if_neg e,if_neg e]; exact Paired.snoc r ⟨rfl,ry⟩
theorem KV.length {kvs:List (κ × V)} {vs:List (κ × Value)} (r:KV kvs vs):kvs.length=vs.length:=Paired.length r
end
theorem nM {P:Program} {w:World} {k:Key} {u:Value} (r:bD (kV k) u):(cx P w).is k u=true:=by
 cases k with
 | inl i=>obtain ⟨t,e⟩:=(show ∃ t,u=Value.int i t from r); subst e; exact oK P w i t
 | inr x=>obtain ⟨t,e⟩:=(show ∃ t,u=Value.str x t from r); subst e; exact jO P w x t
theorem mE {P:Program} {w:World}:∀ {ks:List Key} {us:List Value},bi (ks.map kV) us→ItemsAre (cx P w) ks us
 | [],_,r=>by rw [List.map_nil] at r; cases r; exact .nil
 | k :: ks,_,r=>by
  rw [List.map_cons] at r
  cases r with
  | cons h t=>exact .cons (nM h) (mE t)
abbrev KT (H:Hp):List (List Key × V)→List (List Key × Addr × Value)→Prop:=Paired fun p q=>p.1=q.1∧H q.2.1=some (.tup (p.1.map kV))∧bD p.2 q.2.2
theorem KT.val {H:Hp} {kvs:List (List Key × V)} {xs:List (List Key × Addr × Value)} (r:KT H kvs xs) (k:List Key):iz (gO kvs k) ((atKey xs k).map (·.2)):=by
 induction r with
 | nil=>exact True.intro
 | @cons p q ps qs h t ih =>
  obtain ⟨h1,_,h2⟩:=h
  by_cases e:p.1=k
  ·have e':q.1=k:=h1.symm.trans e
   have b:atKey (q :: qs) k=some q.2:=by simp [atKey,List.find?_cons,e']
   rw [kK e,b]; exact h2
  ·have e':¬ q.1=k:=fun z=>e (h1.trans z)
   have b:atKey (q :: qs) k=atKey qs k:=by simp [atKey,List.find?_cons,e']
   rw [ku e,b]; exact ih
theorem KT.repl {H:Hp} {kvs:List (List Key × V)} {xs:List (List Key × Addr × Value)} (r:KT H kvs xs) (k:List Key) {y:V} {u:Value} (ry:bD y u) :
  KT H (kvs.map fun kv=>if kv.1=k then (kv.1,y) else kv) (xs.map (putAt k u)):=by
 induction r with
 | nil=>exact .nil
 | @cons p q ps qs h t ih =>
  rw [List.map_cons,List.map_cons]
  refine .cons ?_ ih
  obtain ⟨h1,h2,h3⟩:=h
  unfold putAt
  by_cases e:p.1=k
  ·rw [if_pos e,if_pos (h1.symm.trans e)]; exact ⟨h1,h2,ry⟩
  ·rw [if_neg e,if_neg (fun z=>e (h1.trans z))]; exact ⟨h1,h2,h3⟩
theorem KT.put {H:Hp} {kvs:List (List Key × V)} {xs:List (List Key × Addr × Value)} (r:KT H kvs xs) (k:List Key) {b:Addr} {y:V} {u:Value} (hb:H b=some (.tup (k.map kV))) (ry:bD y u) :
  KT H (iR kvs k y) (storedH xs k b u):=by
 have e:(kvs.any fun kv=>decide (kv.1=k))=(atKey xs k).isSome:=by
  rw [n0,(r.val k).isSome_eq,Option.isSome_map]
 unfold iR storedH
 rw [e]
 by_cases q:(atKey xs k).isSome=true
 ·rw [if_pos q,if_pos q]; exact r.repl k ry
 ·rw [if_neg q,if_neg q]; exact Paired.snoc r ⟨rfl,hb,ry⟩
theorem KT.keeps {H H':Hp} {kvs:List (List Key × V)} {xs:List (List Key × Addr × Value)} (r:KT H kvs xs) (ht:∀ b ys,H b=some (.tup ys)→H' b=some (.tup ys)):KT H' kvs xs :=
 Paired.mapP r fun _ _ z=>⟨z.1,ht _ _ z.2.1,z.2.2⟩
section
variable {P:Program} {w:World} {H:Hp} {h:Heap} {a:Addr}
theorem xg {u:HO} (ok:HOk P w H h) (e:Rd H a u):dE P w H h a u:=e.ok ok
theorem qE {kvs:List (Key × V)} (ok:HOk P w H h) (e:Rd H a (.dK kvs)):kvs.length≤sizeLine∧(a == sysModules)=false∧∃ vs,KV kvs vs∧h.DictOf (cx P w) a vs :=
 show dE P w H h a (.dK kvs) from xg ok e
theorem z9 {kvs:List (Key × V)} (ok:HOk P w H h) (e:H a=some (.dK kvs)):kvs.length≤sizeLine∧(a == sysModules)=false∧∃ vs,KV kvs vs∧h.DictOf (cx P w) a vs:=qE ok (.inl e)
theorem mQ {ks:List Key} (ok:HOk P w H h) (e:H a=some (.tup (ks.map kV))):(tupleKind (cx P w)).is h ks a:=by
 obtain ⟨_,its,r,o,h1,h2,⟨n,h3⟩,_⟩:=(show dE P w H h a (.tup (ks.map kV)) from ok a _ e)
 exact ⟨o,its.toArray,n,h1,h2,h3,by simpa using mE r⟩
theorem qO {kvs:List (List Key × V)} (ok:HOk P w H h) (e:Rd H a (.dT kvs)):kvs.length≤sizeLine∧(a == sysModules)=false ∧
  ∃ xs,KT H kvs xs∧h.DictOfH (tupleKind (cx P w)) a xs:=by
 obtain ⟨z,y,xs,r,o,es,ep,h1,h2,h3,h4,h5⟩:=(show dE P w H h a (.dT kvs) from xg ok e)
 refine ⟨z,y,xs,r,o,es,ep,h1,h2,h3,h4,fun x hx=>?_,h5⟩
 have all:∀ {l:List (List Key × V)} {m:List (List Key × Addr × Value)},KT H l m→∀ x∈m,(tupleKind (cx P w)).is h x.1 x.2.1:=by
  intro l m q
  induction q with
  | nil=>intro x hx; exact nomatch hx
  | @cons p q ps qs hq t ih =>
   intro x hx
   rcases List.mem_cons.mp hx with e | hx
   ·subst e
    exact mQ ok (by rw [← hq.1]; exact hq.2.1)
   ·exact ih x hx
 exact all r x hx
theorem Au {kvs:List (List Key × V)} (ok:HOk P w H h) (e:H a=some (.dT kvs)):kvs.length≤sizeLine∧(a == sysModules)=false ∧
  ∃ xs,KT H kvs xs∧h.DictOfH (tupleKind (cx P w)) a xs:=qO ok (.inl e)
end
def nE (H:Hp) (a:Addr) (y:V) (r:Option V):Prop :=
 (∃ kvs k,Rd H a (.dK kvs)∧y=kV k∧r=gO kvs k)∨∃ kvs k b,Rd H a (.dT kvs)∧y=.ref b∧H b=some (.tup (k.map kV))∧r=gO kvs k
def tT (H:Hp) (a:Addr) (y v:V) (H':Hp):Prop :=
 (∃ kvs k,H a=some (.dK kvs)∧y=kV k∧kvs.length < sizeLine∧H'=upd H a (.dK (iR kvs k v))) ∨
 ∃ kvs k b,H a=some (.dT kvs)∧y=.ref b∧H b=some (.tup (k.map kV))∧kvs.length < sizeLine∧H'=upd H a (.dT (iR kvs k v))
theorem nE.k {H:Hp} {a:Addr} {kvs:List (Key × V)} {k:Key} (e:H a=some (.dK kvs)):nE H a (kV k) (gO kvs k):=.inl ⟨kvs,k,.inl e,rfl,rfl⟩
theorem tT.k {H:Hp} {a:Addr} {kvs:List (Key × V)} {k:Key} {v:V} (e:H a=some (.dK kvs)) (hl:kvs.length < sizeLine):tT H a (kV k) v (upd H a (.dK (iR kvs k v))):=.inl ⟨kvs,k,e,rfl,hl,rfl⟩
section
variable {X:Cx} {pins:List (Addr × Obj)} {σ:St} {H:Hp} {s:Shared} {a:Addr} {y v:V} {u r:Value} {o:Option V} {A:Around} {E:Value→Shared→Prop}
theorem Inv.big (I:Inv X pins σ H s):sysModules < s.heap.objs.size:=by
 have h:mainGlobals < s.heap.objs.size:=(I.mod.glob.keeps I.bk).lt
 exact Nat.lt_trans (by decide) h
theorem rk {Q:Value→Shared→Prop} (hu:A.units + 1 < cLine) (I:Inv X pins σ H s) (g:nE H a y (some v)) (ry:bD y u) (h:∀ w' s',Inv X pins σ H s'→bD v w'→Q w' s') :
  wpAny (model X.prog X.w) A (getItem (.ref a) u) Q E s:=by
 rcases g with ⟨kvs,k,e,ey,l⟩ | ⟨kvs,k,b,e,ey,eb,l⟩
 ·subst ey
  obtain ⟨z,hd,vs,rel,dd⟩:=qE I.hok e
  obtain ⟨w',hw,rw'⟩:=iz.some_of (v:=v) (o:=valueAt vs k) (by rw [l]; exact rel.val k)
  exact wpAny_getItem_of (nM ry) dd.mapOf hw (h w' _ (I.tok _) rw')
 ·subst ey
  cases (show u=Value.ref b from ry)
  obtain ⟨z,hd,xs,rel,dd⟩:=qO I.hok e
  obtain ⟨w',hw,rw'⟩:=iz.some_of (v:=v) (o:=(atKey xs k).map (·.2)) (by rw [l]; exact rel.val k)
  obtain ⟨p,hp,hp2⟩:=Option.map_eq_some_iff.mp hw
  refine wpAny_getItem_heap (tupleKind_room_in1 hu) (mQ I.hok eb) dd hp ?_
  rw [hp2]
  exact h w' _ (I.tok _) rw'
theorem AQ {Q:Value→Shared→Prop} (hu:A.units + 1 < cLine) (I:Inv X pins σ H s) (g:nE H a y o) (ry:bD y u) (h:∀ s',Inv X pins σ H s'→Q (.bool o.isSome) s') :
  wpAny (model X.prog X.w) A (compareOp .In u (.ref a)) Q E s:=by
 rcases g with ⟨kvs,k,e,ey,l⟩ | ⟨kvs,k,b,e,ey,eb,l⟩
 ·subst ey
  obtain ⟨z,hd,vs,rel,dd⟩:=qE I.hok e
  refine wpAny_in_of (nM ry) hd dd.mapOf ?_
  rw [← (rel.val k).isSome_eq,← l]
  exact h _ (I.tok _)
 ·subst ey
  cases (show u=Value.ref b from ry)
  obtain ⟨z,hd,xs,rel,dd⟩:=qO I.hok e
  refine wpAny_in_heap (tupleKind_room_in1 hu) (mQ I.hok eb) hd dd ?_
  have q:=(rel.val k).isSome_eq
  rw [Option.isSome_map] at q
  rw [← q,← l]
  exact h _ (I.tok _)
theorem qP {h':Heap} {t':Nat} {ob:HO} (I:Inv X pins σ H s) (mu:Mut (H a)) (hs:Heap.SameBut a s.heap h') (he:∃ q,h'.get? a=some q) (new:dE X.prog X.w (upd H a ob) h' a ob) :
  Inv X pins σ (upd H a ob) { s with heap:=h',toks:=t' } :=
 I.write (x:=a) (e:=a) mu (.inl rfl) (fun b q hb z=>(hs.2 b hb).trans z) he new
theorem tm {P:Program} {w:World} {H':Hp} {h':Heap} {kvs:List (Key × V)} {vs:List (Key × Value)} (z:kvs.length≤sizeLine) (hd:(a == sysModules)=false) (rel:KV kvs vs) (dd:h'.DictOf (cx P w) a vs) :
  dE P w H' h' a (.dK kvs):=⟨z,hd,vs,rel,dd⟩
theorem sy {H':Hp} {Q:Unit→Shared→Prop} (hu:A.units + 1 < cLine) (I:Inv X pins σ H s) (g:tT H a y v H') (ry:bD y u) (rv:bD v r) (h:∀ s',Inv X pins σ H' s'→Q () s') :
  wpAny (model X.prog X.w) A (setItem (.ref a) u r) Q E s:=by
 rcases g with ⟨kvs,k,e,ey,l,eH⟩ | ⟨kvs,k,b,e,ey,eb,l,eH⟩
 ·subst ey eH
  obtain ⟨z,hd,vs,rel,dd⟩:=z9 I.hok e
  have hz:vs.length≤sizeLine:=by rw [← rel.length]; exact z
  have hl:(iR kvs k v).length≤sizeLine:=by have:=jS kvs k v; omega
  refine wpAny_setItem_pairs (hsz:=hz) (nM ry) dd fun h' dd' hs=>h _ ?_
  have he:∃ q,h'.get? a=some q:=let ⟨q,_,_,hq,_⟩:=dd'; ⟨q,hq⟩
  exact qP I (by rw [e]; exact True.intro) hs he (tm hl hd (rel.put k rv) dd')
 ·subst ey eH
  cases (show u=Value.ref b from ry)
  obtain ⟨z,hd,xs,rel,dd⟩:=Au I.hok e
  have hz:xs.length≤sizeLine:=by rw [← Paired.length rel]; exact z
  have hl:(iR kvs k v).length≤sizeLine:=by have:=jS kvs k v; omega
  refine wpAny_setItem_heap (hsz:=hz) (tupleKind_room_in1 hu) (mQ I.hok eb) dd fun h' dd' hs=>h _ ?_
  obtain ⟨q,es,ep,hq,h2,h3,h4,_,h5⟩:=dd'
  refine qP I (by rw [e]; exact True.intro) hs ⟨q,hq⟩ ⟨hl,hd,_,(rel.put k eb rv).keeps fun c ys ec=>?_,q,es,ep,hq,h2,h3,h4,h5⟩
  rw [aN (An ec e (fun z=>nomatch z))]
  exact ec
end
section
variable {X:Cx} {pins:List (Addr × Obj)} {σ:St} {H:Hp} {s:Shared} {a:Addr} {kvs:List (Key × V)} {k:Key} {u:Value} {A:Around} {E:Value→Shared→Prop}
end
theorem oS {X:Cx} {pins:List (Addr × Obj)} {σ:St} {H:Hp} {s:Shared} {a:Addr} {y:V} {o:Option V} (I:Inv X pins σ H s) (g:nE H a y o):s.TypeIs (.ref a) "dict":=by
 rcases g with ⟨kvs,k,e,_,_⟩ | ⟨kvs,k,b,e,_,_,_⟩
 ·obtain ⟨_,_,vs,_,dd⟩:=qE I.hok e
  exact dd.typeIs
 ·obtain ⟨_,_,xs,_,dd⟩:=qO I.hok e
  exact dd.typeIs
def Ax (td ty tv:TE):TS:=fun D σ H=>tv σ H fun v H1=>td σ H1 fun x H2=>ty σ H2 fun y H3=>∃ a H4,x=.ref a∧tT H3 a y v H4∧D.nx σ H4
section
variable {X:Cx} {o i e value:Expr} {pos pos' tpos:Pos} {td ty tv:TE}
theorem wl (hu:X.A.units + 1 < cLine) (ho:PE X o td) (hi:PE X i ty) (hv:PE X value tv) (hs:swapsWith value (some (.Subscript o i pos')) pos.line X.env=pure false) :
  PS X (.Assign [.Subscript o i pos'] value pos) (Ax td ty tv):=by
 intro pins s σ H D I h
 refine wpAny_Assign_Subscript (thn (hv pins s σ H _ I h) fun r s1 ⟨v,H1,I1,rv,q1⟩=>thn (ho pins s1 σ H1 _ I1 q1) fun u s2 ⟨x,H2,I2,rx,q2⟩=>thn (hi pins s2 σ H2 _ I2 q2) fun iv s3 ⟨y,H3,I3,ry,a,H4,ex,g,q3⟩=>?_) hs
 subst ex
 obtain rfl:u=Value.ref a:=rx
 exact sy hu I3 g ry rv fun s4 I4=>⟨σ,H4,I4,q3⟩
end
section
variable {X:Cx} {pos:Pos}
end
structure M1 (X:Cx) (o:Expr) (m:Str) (apos:Pos) (e:Expr) (cpos:Pos):Prop where
 base:attributeBase o m X.env (eval o X.env)=eval o X.env
 few:((backTo cpos (starEach [e] X.env)).all (fun x=>!x.1) && (backToKw cpos (keywordEach [] X.env)).all (fun x=>x.1.isSome)
  && decide (([e]:List Expr).length + ([]:List Keyword).length + (if ([]:List Keyword).isEmpty then 0 else 1) < 30))=true
 line:(apos.endLine == cpos.line)=true
 trees:backTo cpos (starEach [e] X.env)=[(false,eval e X.env)]
structure M2 (X:Cx) (o:Expr) (m:Str) (apos:Pos) (e f:Expr) (cpos:Pos):Prop where
 base:attributeBase o m X.env (eval o X.env)=eval o X.env
 few:((backTo cpos (starEach [e,f] X.env)).all (fun x=>!x.1) && (backToKw cpos (keywordEach [] X.env)).all (fun x=>x.1.isSome)
  && decide (([e,f]:List Expr).length + ([]:List Keyword).length + (if ([]:List Keyword).isEmpty then 0 else 1) < 30))=true
 line:(apos.endLine == cpos.line)=true
 trees:backTo cpos (starEach [e,f] X.env)=[(false,eval e X.env),(false,eval f X.env)]
section
variable {X:Cx} {pins:List (Addr × Obj)} {σ:St} {H:Hp} {s:Shared} {a:Addr} {y d:V} {u r:Value} {o:Option V} {A:Around} {E:Value→Shared→Prop}
end
section
variable {X:Cx} {o e f:Expr} {apos cpos:Pos} {td ty tx:TE}
end
section
variable {X:Cx} {pins:List (Addr × Obj)} {σ:St} {H:Hp} {s:Shared} {a:Addr} {kvs:List (Key × V)} {A:Around} {E:Value→Shared→Prop}
end
section
variable {X:Cx} {pins:List (Addr × Obj)} {σ:St} {H:Hp} {s:Shared} {a:Addr} {y:V} {u:Value} {A:Around} {E:Value→Shared→Prop}
end
end L2
namespace L2
open PySem PySem.Spec PyProof.Rows
section
variable {X:Cx}
end
section
variable {κ:Type} [DecidableEq κ]
end
end L2
namespace L2
open PySem PySem.Spec PyProof.Rows
def ke (env:Env):List (Str × NameKind)→List (Str × Addr)→List (Str × Addr)
 | [],acc=>acc
 | (n,k) :: r,acc=>ke env r (if k == .free then (n,(env.cells.lookup n).getD 0) :: acc else acc)
theorem oi {env:Env} {f:(Str × NameKind)→List (Str × Addr)→Sem (ForInStep (List (Str × Addr)))}
  (hf:∀ x cs,(x.2=.free→∃ c,env.cells.lookup x.1=some c)→f x cs=pure (.yield (if x.2 == .free then (x.1,(env.cells.lookup x.1).getD 0) :: cs else cs))) :
  ∀ (l:List (Str × NameKind)) (acc:List (Str × Addr)),(∀ x∈l,x.2=.free→∃ c,env.cells.lookup x.1=some c)→forIn l acc f=pure (ke env l acc)
 | [],acc,_=>by rw [List.forIn_nil]; rfl
 | (n,k) :: r,acc,h=>by
  rw [List.forIn_cons,hf (n,k) acc (h _ List.mem_cons_self),pure_bind]
  exact oi hf r _ fun x hx=>h x (List.mem_cons_of_mem _ hx)
theorem iI {scope:Scope} {env:Env} (h:∀ x∈scope.names,x.2=.free→∃ c,env.cells.lookup x.1=some c):closureFor scope env=pure (ke env scope.names []):=by
 unfold closureFor
 have e:=oi (env:=env) (f:=fun (x:Str × NameKind) (cs:List (Str × Addr))=>(do
   if x.2 == .free then
    let a ← cellOf env x.1
    pure (ForInStep.yield ((x.1,a) :: cs))
   else pure (ForInStep.yield cs))) (fun x cs hx=>by
  cases hk:x.2 == NameKind.free with
  | false=>simp
  | true =>
   obtain ⟨c,hc⟩:=hx (by simpa using hk)
   simp [cellOf,hc]) scope.names [] h
 first
  | exact (congrArg (· >>= pure) e).trans (by simp)
  | (simp only [bind_pure]; exact e)
  | (rw [← e]; rfl)
theorem tU {env:Env} {x:Str} {c:Addr}:∀ {l:List (Str × NameKind)} {acc:List (Str × Addr)},(∀ x∈l,x.2=.free→∃ c,env.cells.lookup x.1=some c)→(∀ x c,acc.lookup x=some c→env.cells.lookup x=some c)→(ke env l acc).lookup x=some c→env.cells.lookup x=some c
 | [],acc,_,ha,h=>ha x c h
 | (n,k) :: r,acc,hl,ha,h=>by
  refine tU (l:=r) (acc:=if k == .free then (n,(env.cells.lookup n).getD 0) :: acc else acc) (fun y hy=>hl y (List.mem_cons_of_mem _ hy)) (fun y d hd=>?_) h
  cases hk:k == NameKind.free with
  | false=>rw [hk] at hd; exact ha y d (by simpa using hd)
  | true =>
   rw [hk,if_pos rfl] at hd
   obtain ⟨e,he⟩:=hl (n,k) List.mem_cons_self (by simpa using hk)
   rw [List.lookup_cons] at hd
   cases hy:y == n with
   | true =>
    rw [hy] at hd
    have yn:y=n:=by simpa using hy
    subst yn
    have he:env.cells.lookup y=some e:=he
    rw [he] at hd ⊢
    exact hd
   | false =>
    rw [hy] at hd
    exact ha y d hd
theorem uP {env:Env} {x:Str}:∀ {l:List (Str × NameKind)} {acc:List (Str × Addr)},(∃ c,acc.lookup x=some c)→∃ c,(ke env l acc).lookup x=some c
 | [],_,h=>h
 | (n,k) :: r,acc,h=>by
  refine uP (l:=r) ?_
  cases hk:k == NameKind.free with
  | false=>simpa using h
  | true =>
   rw [if_pos rfl,List.lookup_cons]
   cases hy:x == n with
   | true=>exact ⟨_,rfl⟩
   | false=>exact h
theorem pZ {env:Env} {x:Str}:∀ {l:List (Str × NameKind)} {acc:List (Str × Addr)},l.lookup x=some .free→∃ c,(ke env l acc).lookup x=some c
 | [],_,h=>by simp at h
 | (n,k) :: r,acc,h=>by
  rw [List.lookup_cons] at h
  cases hy:x == n with
  | true =>
   rw [hy] at h
   have hk:k=.free:=Option.some.inj h
   subst hk
   refine uP (l:=r) ⟨(env.cells.lookup n).getD 0,?_⟩
   show List.lookup x (if NameKind.free == NameKind.free then (n,(env.cells.lookup n).getD 0) :: acc else acc)=some ((env.cells.lookup n).getD 0)
   rw [if_pos (by rfl),List.lookup_cons,hy]
  | false =>
   rw [hy] at h
   exact pZ (l:=r) h
theorem eW {env:Env} {x:Str}:∀ {l:List (Str × NameKind)},
  (l.map fun (n,k)=>if (k == NameKind.free && env.scope.kind == .function && env.kindOf n == some .cell) then (n,NameKind.cell) else (n,k)).lookup x
   = (l.lookup x).map fun k=>if (k == NameKind.free && env.scope.kind == .function && env.kindOf x == some .cell) then NameKind.cell else k
 | []=>rfl
 | (n,k) :: r=>by
  rw [List.map_cons]
  show List.lookup x ((if (k == NameKind.free && env.scope.kind == .function && env.kindOf n == some .cell)=true then (n,NameKind.cell) else (n,k)) :: _)=_
  cases hy:x == n with
  | true =>
   have yn:x=n:=by simpa using hy
   subst yn
   by_cases hc:(k == NameKind.free && env.scope.kind == .function && env.kindOf x == some .cell)=true
   ·rw [if_pos hc,List.lookup_cons,List.lookup_cons,hy]; simp only [Option.map_some]; rw [if_pos hc]
   ·rw [if_neg hc,List.lookup_cons,List.lookup_cons,hy]; simp only [Option.map_some]; rw [if_neg hc]
  | false =>
   by_cases hc:(k == NameKind.free && env.scope.kind == .function && env.kindOf n == some .cell)=true
   ·rw [if_pos hc,List.lookup_cons,List.lookup_cons,hy]; exact eW
   ·rw [if_neg hc,List.lookup_cons,List.lookup_cons,hy]; exact eW
def sel (ix:List (Option Nat)) (σ:St):St:=ix.map fun o=>o.bind fun i=>(σ[i]?).join
abbrev Cx.comp (X:Cx) (scope:Scope) (N':List Str) (C:Addr) (s0:Shared) (H0:Hp) (ex:List Addr):Cx :=
 { X with N:=N',s₀:=s0,H₀:=H0,env:=compEnvC scope (ke X.env scope.names []) C X.env,outer:=X.stack,ex:=ex,fn:=fun _=>false,pn:=[],xe:=fun _ _=>False }
structure dg (X:Cx) (scope:Scope) (ix:List (Option Nat)) (N':List Str):Prop where
 kind:scope.kind=.function
 nocell:∀ y∈scope.names,y.2 ≠ .cell
 nam:∀ y∈scope.names,y.2=.local→scope.names.lookup y.1=some .local
 fre:∀ y∈scope.names,y.2=.free→X.env.scope.names.lookup y.1=some .cell∨X.env.scope.names.lookup y.1=some .free
 len:ix.length=N'.length
 at_:∀ (j i:Nat) (x:Str),ix[j]?=some (some i)→N'[j]?=some x→X.N[i]?=some x∧scope.names.lookup x=some .free
section
variable {X:Cx} {scope:Scope} {ix:List (Option Nat)} {N':List Str} {pins:List (Addr × Obj)} {σ:St} {H:Hp} {s:Shared} {fp:List Addr}
theorem dg.cells (S:dg X scope ix N') (ok:X.Ok):∀ x∈scope.names,x.2=.free→∃ c,X.env.cells.lookup x.1=some c:=fun x hx hk=>ok.has x.1 (S.fre x hx hk)
theorem dg.sub (S:dg X scope ix N') (ok:X.Ok) {x:Str} {c:Addr} (h:(ke X.env scope.names []).lookup x=some c):X.env.cells.lookup x=some c:=tU (S.cells ok) (fun _ _ z=>by simp at z) h
theorem fS {x:Str} {k:NameKind}:∀ {l:List (Str × NameKind)},l.lookup x=some k→(x,k)∈l
 | [],h=>by simp at h
 | (n,j) :: r,h=>by
  rw [List.lookup_cons] at h
  cases hy:x == n with
  | true =>
   rw [hy] at h
   have yn:x=n:=by simpa using hy
   subst yn
   rw [Option.some.inj h]
   exact List.mem_cons_self
  | false =>
   rw [hy] at h
   exact List.mem_cons_of_mem _ (fS h)
theorem Inv.comp {C:Addr} {h1:Heap} {tk:Nat} (I:Inv X pins σ H s) (S:dg X scope ix N') (hf:∀ b∈fp,kT X pins H b) (hlt:∀ b∈fp,b < s.heap.objs.size) (hC:s.heap.objs.size≤C)
  (k:∀ b o,s.heap.get? b=some o→h1.get? b=some o) (hn:h1.Ns C (fun _=>none)):Inv (X.comp scope N' C s H fp) (X.pn ++ pins) (sel ix σ) H { s with heap:=h1,toks:=tk }:=by
 have sub:∀ {x:Str} {c:Addr},(ke X.env scope.names []).lookup x=some c→X.env.cells.lookup x=some c:=fun h=>S.sub I.ok h
 refine ⟨⟨I.ok.mod,S.kind,I.ok.glob,I.ok.blt,hC,fun x y c e1 e2=>I.ok.inj x y c (sub e1) (sub e2),fun x hx=>?_,fun _ _ z=>(Bool.false_ne_true z).elim,I.ok.hd,I.ok.frames,.inl rfl,fun b hb=>⟨Nat.ne_of_lt (Nat.lt_of_lt_of_le (hlt b hb) hC),fun x c e=>(hf b hb).2.2.2.2.1 x c (sub e)⟩,I.bs,
   Nat.le_trans I.ok.bsz I.sz,fun b o e hb=>?_,fun b hb hfs=>?_,I.stack,I.stkFree⟩,rfl,I.bare,Un.kept k,⟨_,hn,fun i x v e1 e2 e3=>?_⟩,fun x c e=>?_,I.hok.fresh hC,fun x c e=>I.freeC x c (sub e),fun p hp=>?_,I.hok.kept k,?_⟩
 ·have hx:(relabel scope X.env).names.lookup x=some .cell∨(relabel scope X.env).names.lookup x=some .free:=hx
  have e:(relabel scope X.env).names.lookup x=(scope.names.lookup x).map fun k=>if (k == NameKind.free && X.env.scope.kind == .function && X.env.kindOf x == some .cell) then NameKind.cell else k:=eW
  rw [e] at hx
  cases q:scope.names.lookup x with
  | none=>rw [q] at hx; rcases hx with hx | hx <;> simp at hx
  | some kd =>
   cases kd with
   | free=>exact pZ q
   | cell=>exact absurd rfl (S.nocell _ (fS q))
   | _=>rw [q] at hx; rcases hx with hx | hx <;> simp at hx
 ·rcases (hf b hb).2.2.2.1 with z | z
  ·exact I.ok.noex b o e z
  ·exact absurd (Nat.lt_of_lt_of_le (Heap.lt_size e) (Nat.le_trans I.ok.bsz z)) (Nat.lt_irrefl _)
 ·rcases List.mem_cons.mp (I.stkSub b hfs) with z | z
  ·exact (hf b hb).2.1 z
  ·exact (hf b hb).2.2.1 z
 ·have e2':(ix[i]?).map (fun o=>o.bind fun i=>(σ[i]?).join)=some (some v):=by
   have z:(sel ix σ)[i]?=some (some v):=e2
   unfold sel at z
   rw [List.getElem?_map] at z
   exact z
  cases q:ix[i]? with
  | none=>rw [q] at e2'; cases e2'
  | some o =>
   rw [q] at e2'
   cases o with
   | none=>cases e2'
   | some j =>
    have e2'':(σ[j]?).join=some v:=Option.some.inj e2'
    have e4:σ[j]?=some (some v):=by
     cases r:σ[j]? with
     | none=>rw [r] at e2''; cases e2''
     | some w=>rw [r] at e2''; exact congrArg some e2''
    obtain ⟨n1,n2⟩:=S.at_ i j x q e1
    obtain ⟨m,hm,hl⟩:=I.loc
    have hk:=S.fre _ (fS n2) rfl
    have hv:Vis X.env.scope x:=by
     rcases hk with z | z
     ·exact .inr (.inl z)
     ·exact .inr (.inr z)
    obtain ⟨u,ru,lk⟩:=hl j x v n1 e4 hv
    refine ⟨u,ru,?_⟩
    have hk':X.env.kindOf x=some .cell∨X.env.kindOf x=some .free:=hk
    rcases lk with ⟨z,_⟩ | ⟨_,c,hc,hcell⟩
    ·rcases hk' with y | y <;> (rw [y] at z; cases z)
    ·obtain ⟨c',hc'⟩:=pZ (env:=X.env) (acc:=[]) n2
     have:=sub hc'
     rw [hc] at this
     cases this
     refine .inr ⟨?_,c,hc',hcell.keeps k⟩
     show (relabel scope X.env).names.lookup x=some .cell∨(relabel scope X.env).names.lookup x=some .free
     have e:(relabel scope X.env).names.lookup x=(scope.names.lookup x).map fun k=>if (k == NameKind.free && X.env.scope.kind == .function && X.env.kindOf x == some .cell) then NameKind.cell else k:=eW
     rw [e,n2]
     simp only [Option.map_some]
     split
     ·exact .inl rfl
     ·exact .inr rfl
 ·obtain ⟨v,q⟩:=I.cell x c (sub e)
  exact ⟨v,q.keeps k⟩
 ·obtain ⟨e,n,ne,nf,d⟩:=I.pin p (by simpa using hp)
  refine ⟨k _ _ e,n,Nat.ne_of_lt (Nat.lt_of_lt_of_le (Heap.lt_size e) hC),fun z=>?_,d⟩
  rcases List.mem_cons.mp (I.stkSub p.1 z) with y | y
  ·exact ne y
  ·exact nf y
 ·show (sel ix σ).length=N'.length
  unfold sel
  rw [List.length_map]
  exact S.len
end
section
variable {prog:Program} {w:World} {A:Around} {R:Result→Shared→Prop} {s:Shared}
theorem ia {elt target iter:Expr} {ifs:List Expr} {scope:Scope} {pos:Pos} {it acc:Value} {env:Env} (I:Nat→Shared→Prop) {EX:Value→Shared→Prop} (hEX:∀ e s',EX e s'→notedBy (model prog w) A env (fun x s'=>R (.error x) s') e s')
  (turn:∀ n s,I n s→wpAny (model prog w) A (pyNext it) (fun r s₁=>match r with
   | none=>R (.ok .next) s₁
   | some v=>wpAny (model prog w) A (letOwnedTupleGo target it v) (fun _ s₁=>wpAny (model prog w) A (assign target env v) (fun _ s₂ =>
     wpAny (model prog w) A (forIn ifs true fun c r=>if r=true then do let ok ← isTrue c env (eval c env); pure (ForInStep.yield ok) else pure (ForInStep.yield r)) (fun ok s₃ =>
      if ok=true then wpAny (model prog w) A (eval elt env) (fun x s₄ =>
       wpAny (model prog w) A (call (.builtin "list.append") [acc,x]) (fun _ s₅=>∃ m,m < n∧I m s₅) (fun _ _=>False) s₄) EX s₃
      else ∃ m,m < n∧I m s₃) (fun _ _=>False) s₂) (fun _ _=>False) s₁) (fun _ _=>False) s₁) (fun _ _=>False) s)
  (n:Nat) (h:I n s) :
  codeAny (model prog w) A (.compLoop (.ListComp elt [⟨target,iter,ifs,0⟩] scope pos) 0 it acc env) R s:=by
 refine codeAny_loop rfl I (fun n s hI=>?_) n h
 show wpAny _ A ((compTurn (.ListComp elt [⟨target,iter,ifs,0⟩] scope pos) 0 it acc env).onRaise (fun x=>do noteFrame x env; theTreesLotGoes x)) _ _ s
 refine wpAny_noted ?_
 rw [compTurn_list]
 refine wpAny_bind (wpAny_standAt (wpAny_bind (wpAny_mono (turn n s hI) (fun r s₁ h₁=>?_) fun _ _ h'=>h'.elim)))
 cases r with
 | none=>exact wpAny_pure h₁
 | some v =>
  refine wpAny_bind (wpAny_mono h₁ (fun _ s₁' h₁'=>?_) fun _ _ h'=>h'.elim)
  refine wpAny_bind (wpAny_mono h₁' (fun _ s₂ h₂=>wpAny_bind (wpAny_mono h₂ (fun ok s₃ h₃=>?_) fun _ _ h'=>h'.elim)) fun _ _ h'=>h'.elim)
  cases ok with
  | false=>exact wpAny_pure ⟨rfl,h₃⟩
  | true =>
   exact wpAny_bind (wpAny_bind (wpAny_mono h₃ (fun x s₄ h₄=>wpAny_bind (wpAny_mono h₄ (fun _ s₅ h₅=>wpAny_pure (wpAny_pure ⟨rfl,h₅⟩)) fun _ _ h'=>h'.elim)) hEX))
end
def PF (X:Cx) (ifs:List Expr) (t:TT):Prop :=
 ∀ (pins:List (Addr × Obj)) (s:Shared) (σ:St) (H:Hp) (Q:Bool→Hp→Prop),Inv X pins σ H s→t σ H Q →
  wpAny (model X.prog X.w) X.A (forIn ifs true fun c r=>if r=true then do let ok ← isTrue c X.env (eval c X.env); pure (ForInStep.yield ok) else pure (ForInStep.yield r)) (TP X pins σ Q) X.xe s
def Am:TT:=fun _ H Q=>Q true H
theorem x9 {X:Cx}:PF X [] Am:=fun _ _ _ H _ I h=>wpAny_tests_nil ⟨H,I,h⟩
theorem xw {X:Cx} {c:Expr} {t:TT} (h:PT X c t):PF X [c] t:=fun pins s σ H Q I q=>wpAny_tests_one (h pins s σ H Q I q)
def xj (ix:List (Option Nat)) (g:TG) (tt:TT) (te:TE) (σ:St) (J:It) (Q:VK) (H:Hp):Prop :=
 ∃ W:Nat→Nat→List V→St→Hp→Prop,(∃ m,W 0 m [] (sel ix σ) H)∧∀ i m ys σ' H,W i m ys σ' H →
  (J.stop i H∧ys.length≤sizeLine∧∀ D,H D=none→Q (.ref D) (upd H D (.lst ys))) ∨
  (J.go i H∧ys.length < sizeLine∧∀ x H',J.yld i H x H'→g x σ' H' fun σ2 H2=>tt σ2 H2 fun b H3=>if b=true then te σ2 H3 fun y H4=>∃ m',m' < m∧W (i + 1) m' (ys ++ [y]) σ2 H4 else ∃ m',m' < m∧W (i + 1) m' ys σ2 H3)
def uE (ix:List (Option Nat)) (wi:TI) (g:TG) (tt:TT) (te:TE):TE:=fun σ H Q=>wi σ H fun J H1=>xj ix g tt te σ J Q H1
section
variable {X:Cx} {scope:Scope} {ix:List (Option Nat)} {N':List Str} {pins:List (Addr × Obj)} {σ:St} {H:Hp} {s:Shared} {fp:List Addr} {tg iter elt:Expr} {ifs:List Expr} {pos:Pos} {g:TG} {tt:TT} {te:TE} {J:It} {it:Addr} {tn:Nat→Heap→Prop} {Q:VK}
theorem kA {XP:Addr→Shared→Hp→List Addr→List (Addr × Obj)→St→Value→Shared→Prop} {RR:Value→Addr→Result→Shared→Prop} {E:Value→Shared→Prop} (hc:X.calm=true) (S:dg X scope ix N') (I:Inv X pins σ H s) (T:p0 X.prog X.w X.K tg J fp it tn) (st:tn 0 s.heap) (hf:∀ b∈fp,kT X pins H b)
  (hg:∀ C s0 H0 ex,PG (X.comp scope N' C s0 H0 ex) tg g) (ht:∀ C s0 H0 ex,PF (X.comp scope N' C s0 H0 ex) ifs tt) (he:∀ C s0 H0 ex pins s σ H Q,Inv (X.comp scope N' C s0 H0 ex) pins σ H s→te σ H Q→wpAny (model X.prog X.w) X.A (eval elt (X.comp scope N' C s0 H0 ex).env) (EP (X.comp scope N' C s0 H0 ex) pins σ Q) (XP C s0 H0 ex pins σ) s)
  (hx:∀ C D e s',s.heap.objs.size≤C→(∃ pins' σ',(∀ b∈fp,∃ o,(b,o)∈pins')∧XP C s H fp pins' σ' e s')→notedBy (model X.prog X.w) X.A (compEnvC scope (ke X.env scope.names []) C X.env) (fun x s'=>RR D C (.error x) s') e s')
  (hw:xj ix g tt te σ J Q H)
  (fin:∀ D C s' H' m,s.heap.objs.size≤C→H' C=none→s'.heap.Ns C m→Inv X pins σ H' s'→Q (.ref D) H'→RR (.ref D) C (.ok .next) s') :
  wpAny (model X.prog X.w) X.A (newList []) (fun acc s₃=>wpAny (model X.prog X.w) X.A (newFunctionEnv scope X.env.globals (ke X.env scope.names []) [] X.env.qual none .none (some X.env)) (fun cenv s₄ =>
   codeAny (model X.prog X.w) X.A (.compStart (.ListComp elt [⟨tg,iter,ifs,0⟩] scope pos) 0 (.ref it) acc { cenv with scope:=relabel scope X.env }) (RR acc cenv.locals) s₄) E s₃) E s:=by
 obtain ⟨W,⟨m0,w0⟩,turn⟩:=hw
 have hlt:∀ b∈fp,b < s.heap.objs.size:=fun b hb=>by
  obtain ⟨o,e,_⟩:=T.obj _ _ st b hb
  exact Heap.lt_size e
 refine wpAny_newObj_type (wpAny_newFunctionEnv S.nocell (by intro y hy; simp at hy) (fun h₁ hns₁ hsb₁=>?_) S.kind)
 dsimp only at hns₁ hsb₁ ⊢
 generalize hH2:s.heap.push { cls:=.type "list",dict:=none,data:=.seq ([]:List Value).toArray }=H2 at hns₁ hsb₁ ⊢
 have hC:H2.objs.size=s.heap.objs.size + 1:=by rw [← hH2,Heap.size_push]
 have hDC:s.heap.objs.size ≠ H2.objs.size:=by rw [hC]; exact Nat.ne_of_lt (Nat.lt_succ_self _)
 have hCle:s.heap.objs.size≤H2.objs.size:=by rw [hC]; exact Nat.le_succ _
 have below:∀ b,b < s.heap.objs.size→b ≠ H2.objs.size∧b ≠ s.heap.objs.size:=fun b hb=>⟨by rw [hC]; exact Nat.ne_of_lt (Nat.lt_succ_of_lt hb),Nat.ne_of_lt hb⟩
 have old:∀ b o,s.heap.get? b=some o→h₁.get? b=some o:=fun b o e=>hsb₁.extBut b o (below b (Heap.lt_size e)).1 (Heap.get?_push_of_some _ (hH2 ▸ Heap.get?_push_of_some _ e))
 have hacc:h₁.get? s.heap.objs.size=some { cls:=.type "list",data:=.seq ([]:List Value).toArray 0 }:=hsb₁.extBut _ _ hDC (Heap.get?_push_of_some _ (hH2 ▸ Heap.get?_push_size _ rfl))
 have hns₁:h₁.Ns H2.objs.size (fun _=>none):=hns₁
 have stat:∀ {H':Hp} {pl:List (Addr × Obj)},(∀ b∈fp,H' b=none)→(∀ p∈pl,p.1 ∉ fp)→∀ b∈fp,kT (X.comp scope N' H2.objs.size s H fp) (X.pn ++ pins ++ pl) H' b:=fun {H' pl} hn hpl b hb=>by
  refine ⟨hn b hb,Nat.ne_of_lt (Nat.lt_of_lt_of_le (hlt b hb) hCle),fun z=>?_,.inl hb,fun x c e=>(hf b hb).2.2.2.2.1 x c (S.sub I.ok e),fun p hp=>?_⟩
  ·rcases List.mem_cons.mp (I.stkSub b z) with y | y
   ·exact (hf b hb).2.1 y
   ·exact (hf b hb).2.2.1 y
  ·rcases List.mem_append.mp (show p∈X.pn ++ pins ++ pl by simpa using hp) with z | z
   ·exact (hf b hb).2.2.2.2.2 p z
   ·intro q
    exact hpl p z (q ▸ hb)
 have loop:∀ s₃:Shared,s₃={ s with heap:=h₁,toks:=s.toks + ([]:List (Str × Value)).length } →
   codeAny (model X.prog X.w) X.A (.compLoop (.ListComp elt [⟨tg,iter,ifs,0⟩] scope pos) 0 (.ref it) (.ref s.heap.objs.size) (compEnvC scope (ke X.env scope.names []) H2.objs.size X.env))
    (RR (.ref s.heap.objs.size) H2.objs.size) s₃:=by
  rintro s₃ rfl
  refine ia (hEX:=fun e s' z=>hx _ _ e s' hCle z) (fun n s'=>∃ (i:Nat) (ys:List V) (us:List Value) (k:Nat) (σ':St) (H':Hp),Inv (X.comp scope N' H2.objs.size s H fp) (X.pn ++ pins) σ' H' s'∧tn i s'.heap∧(∀ b∈fp,H' b=none)∧H' s.heap.objs.size=none ∧
   s'.heap.get? s.heap.objs.size=some { cls:=.type "list",data:=.seq us.toArray k }∧bi ys us∧ys.length≤sizeLine∧W i n ys σ' H') ?_ m0
   ⟨0,[],[],0,sel ix σ,H,I.comp S hf hlt hCle old hns₁,T.keep _ _ _ st fun b _ o e=>old b o e,fun b hb=>(hf b hb).1,I.hok.fresh (Nat.le_refl _),hacc,.nil,Nat.zero_le _,w0⟩
  rintro n s' ⟨i,ys,us,k,σ',H',I',st',fr',hD',ho',rv',hz',w'⟩
  have cellD:∀ x c,(X.comp scope N' H2.objs.size s H fp).env.cells.lookup x=some c→c ≠ s.heap.objs.size:=fun x c e=>by
   obtain ⟨v,q⟩:=I.cell x c (S.sub I.ok e)
   exact Nat.ne_of_lt q.lt
  have pinD:∀ p∈X.pn ++ pins,p.1 ≠ s.heap.objs.size:=fun p hp=>Nat.ne_of_lt (Heap.lt_size (I.pin p hp).1)
  have dfs:s.heap.objs.size ∉ (X.comp scope N' H2.objs.size s H fp).fs:=fun z=>by
   rcases List.mem_cons.mp (I.stkSub _ z) with y | y
   ·exact absurd I.lt (by rw [← y]; exact Nat.lt_irrefl _)
   ·exact I.nofs (Nat.le_refl _) y
  have dfp:s.heap.objs.size ∉ fp:=fun z=>absurd (hlt _ z) (Nat.lt_irrefl _)
  have IpD:Inv (X.comp scope N' H2.objs.size s H fp) (X.pn ++ pins ++ [(s.heap.objs.size,{ cls:=.type "list",data:=.seq us.toArray k })]) σ' H' s':=I'.pins_of fun p hp=>by
   rcases List.mem_append.mp hp with z | z
   ·exact I'.pin p (List.mem_append_right _ z)
   ·have e:p=(s.heap.objs.size,{ cls:=.type "list",data:=.seq us.toArray k }):=by simpa using z
    subst e
    exact ⟨ho',hD',hDC,dfs,fun v z=>by cases z⟩
  have pfp:∀ p∈[((s.heap.objs.size,{ cls:=.type "list",data:=.seq us.toArray k }):Addr × Obj)],p.1 ∉ fp:=fun p hp=>by
   have e:p=(s.heap.objs.size,{ cls:=.type "list",data:=.seq us.toArray k }):=by simpa using hp
   subst e
   exact dfp
  rcases turn i n ys σ' H' w' with ⟨stop,hz,q⟩ | ⟨go,hz,step⟩
  ·refine wpAny_mono (T.done (X.comp scope N' H2.objs.size s H fp) rfl rfl rfl hc i _ s' σ' H' (fun _ _=>False) IpD (stat fr' pfp) st' stop) (fun r s1 ⟨hr,I1⟩=>?_) fun _ _ z=>z
   subst hr
   show RR _ _ _ _
   have ho1:s1.heap.get? s.heap.objs.size=some { cls:=.type "list",data:=.seq us.toArray k }:=(I1.pin (s.heap.objs.size,{ cls:=.type "list",data:=.seq us.toArray k }) (by simp)).1
   obtain ⟨m,hnC,_⟩:=id I1.loc
   refine fin _ _ s1 (upd H' s.heap.objs.size (.lst ys)) m hCle (by rw [aN (Ne.symm hDC)]; exact I1.free) hnC ?_ (q _ hD')
   have nD:∀ b o,s.heap.get? b=some o→b ≠ s.heap.objs.size:=fun b o e=>(below b (Heap.lt_size e)).2
   have hD0:H s.heap.objs.size=none:=I.hok.fresh (Nat.le_refl _)
   refine I.call' (s':=s1) (ch:=fp) I1.os ⟨fun b o e n1 n2 n3=>?_,fun b o e n1 n2 n3=>?_,fun b o e n1 n2=>?_,fun b o e n1=>?_,fun b xs e=>?_,fun b o u e=>?_,fun b ps e=>?_⟩ (fun b u e=>?_) I1.bare fun b hb=>⟨(hf b hb).2.2.2.1,(hf b hb).2.1,(hf b hb).2.2.2.2.1,(hf b hb).2.2.2.2.2⟩
   ·exact I1.base.keep b o e n1 n2 n3
   ·exact I1.base.slot b o e n1 n2 n3
   ·rw [aN (nD b o e)]
    exact I1.base.free b o e n1 n2
   ·exact I1.base.there b o e n1
   ·rw [aN (bE e hD0)]
    exact I1.base.tups b xs e
   ·rw [aN (bE e hD0)]
    exact I1.base.frzs b o u e
   ·obtain ⟨more,z⟩:=I1.base.tbls b ps e
    exact ⟨more,by rw [aN (bE e hD0)]; exact z⟩
   ·by_cases hb:b=s.heap.objs.size
    ·subst hb
     rw [aU] at e
     cases e
     exact ⟨hz,us,k,rv',ho1⟩
    ·rw [aN hb] at e
     exact (I1.hok b u e).stay (fun c v _ z=>z) (fun c z=>by rw [aN (bE z hD')]; exact z) (fun c xs z=>by rw [aN (bE z hD')]; exact z)
  ·refine wpAny_mono (T.item (X.comp scope N' H2.objs.size s H fp) rfl rfl rfl hc i _ s' σ' H' (fun _ _=>False) IpD (stat fr' pfp) st' go) (fun r s1 ⟨v,hr,h4⟩=>?_) fun _ _ z=>z
   subst hr
   show wpAny _ _ (letOwnedTupleGo tg (.ref it) v) _ _ s1
   refine wpAny_mono h4 (fun _ s2 ⟨x,H5,I5,r5,y5,st5,fr5⟩=>?_) fun _ _ z=>z
   have I5':=I5.pinned (stat fr5 pfp) (T.obj _ _ st5)
   refine wpAny_mono (hg H2.objs.size s H fp _ s2 σ' H5 x v _ I5' r5 (step x H5 y5)) (fun _ s3 ⟨σ6,H6,I6,q6⟩=>?_) fun _ _ z=>z
   refine wpAny_mono (ht H2.objs.size s H fp _ s3 σ6 H6 _ I6 q6) (fun ok s4 ⟨H7,I7,q7⟩=>?_) fun _ _ z=>z
   have facts:∀ {σ7:St} {H7:Hp} {s7:Shared},Inv (X.comp scope N' H2.objs.size s H fp) (X.pn ++ pins ++ [(s.heap.objs.size,{ cls:=.type "list",data:=.seq us.toArray k })] ++ lA fp s2.heap) σ7 H7 s7 →
     tn (i + 1) s7.heap∧(∀ b∈fp,H7 b=none)∧H7 s.heap.objs.size=none∧s7.heap.get? s.heap.objs.size=some { cls:=.type "list",data:=.seq us.toArray k }:=fun {σ7 H7 s7} K7=>by
    have pd:=K7.pin (s.heap.objs.size,{ cls:=.type "list",data:=.seq us.toArray k }) (by simp)
    refine ⟨T.keep _ _ _ st5 fun b hb o e=>(K7.pin (b,o) (List.mem_append_right _ (List.mem_append_right _ (fR hb e)))).1,fun b hb=>?_,pd.2.1,pd.1⟩
    obtain ⟨o,e,d⟩:=T.obj _ _ st5 b hb
    exact (K7.pin (b,o) (List.mem_append_right _ (List.mem_append_right _ (fR hb e)))).2.1
   cases ok with
   | false =>
    rw [if_neg Bool.false_ne_true] at q7 ⊢
    obtain ⟨m',hm,w7⟩:=q7
    obtain ⟨t7,f7,d7,o7⟩:=facts I7
    exact ⟨m',hm,i + 1,ys,us,k,σ6,H7,I7.unpinned.unpinned,t7,f7,d7,o7,rv',hz',w7⟩
   | true =>
    rw [if_pos rfl] at q7 ⊢
    refine wpAny_mono (he H2.objs.size s H fp _ s4 σ6 H7 _ I7 q7) (fun yv s5 ⟨y,H8,I8,r8,m',hm,w8⟩=>?_) fun _ _ z=>⟨_,_,fun b hb=>(by
     obtain ⟨o,e,_⟩:=T.obj _ _ st5 b hb
     exact ⟨o,List.mem_append_right _ (fR hb e)⟩),z⟩
    obtain ⟨t8,f8,d8,o8⟩:=facts I8
    have hsz:us.toArray.size≤sizeLine:=by
     rw [List.size_toArray,← rv'.length]
     exact hz'
    refine append_at (hsz:=hsz) o8 fun h' sb od=>?_
    refine ⟨m',hm,i + 1,ys ++ [y],us ++ [yv],k + 1,σ6,H8,?_,T.keep _ _ _ t8 fun b hb o e=>(sb.2 b fun q=>dfp (q ▸ hb)).trans e,f8,d8,?_,rv'.append (.cons r8 .nil),?_,w8⟩
    ·exact I8.unpinned.unpinned.turned (it:=s.heap.objs.size) (t':=s5.toks) (fun b o hb e=>(sb.2 b hb).trans e) d8 hDC (.inr (Nat.le_refl _)) cellD (by simpa using pinD)
    ·rw [od,List.push_toArray]
    ·rw [List.length_append,List.length_singleton]
     exact hz
 exact codeAny_compStart_list (loop _ rfl) (T.self _ 0 _ _ _ (T.keep _ _ _ st fun b _ o e=>old b o e) (loop _ rfl))
theorem Inv.letGo {C:Addr} {s':Shared} {H':Hp} {σ':St} {h':Heap} (I:Inv X pins σ H s) (I':Inv X pins σ' H' s') (hC:s.heap.objs.size≤C) (hn:H' C=none) (hs:Heap.SameBut C s'.heap h'):Inv X pins σ' H' { s' with heap:=h' } :=
 I'.turned (t':=s'.toks) (it:=C) (fun b o hb e=>(hs.2 b hb).trans e) hn (fun z=>absurd (Nat.lt_of_lt_of_le I.lt hC) (by rw [z]; exact Nat.lt_irrefl _)) (.inr (Nat.le_trans I.sz hC))
  (fun x c e z=>by
   obtain ⟨v,r⟩:=I.cell x c e
   exact absurd (Nat.lt_of_lt_of_le r.lt hC) (by rw [z]; exact Nat.lt_irrefl _))
  (fun p hp z=>absurd (Nat.lt_of_lt_of_le (Heap.lt_size (I.pin p hp).1) hC) (by rw [z]; exact Nat.lt_irrefl _))
theorem xb {wi:TI} (hc:X.calm=true) (S:dg X scope ix N') (hi:PI X tg iter wi) (hg:∀ C s0 H0 ex,PG (X.comp scope N' C s0 H0 ex) tg g) (ht:∀ C s0 H0 ex,PF (X.comp scope N' C s0 H0 ex) ifs tt) (he:∀ C s0 H0 ex,PE (X.comp scope N' C s0 H0 ex) elt te)
  (hs:∀ x,foldedSetIterable iter X.env x=pure x:=by intro _; rfl):PE X (.ListComp elt [⟨tg,iter,ifs,0⟩] scope pos) (uE ix wi g tt te):=by
 intro pins s σ H Q I h
 rw [eval_ListComp]
 refine wpAny_comprehension_free (use:=none) rfl hs (iI (S.cells I.ok)) S.kind S.nam (wpAny_mono (hi pins s σ H _ I h) (fun xv s₁ h₁=>wpAny_mono h₁ (fun itv s₂ h₂=>?_) fun _ _ e=>e) fun _ _ e=>e)
 obtain ⟨it,fp,tn,J,H2,e,I2,T,st2,f2,hw⟩:=h₂
 subst e
 refine kA (RR:=fun acc C=>compPost (model X.prog X.w) X.A X.xe none (EP X pins σ Q) acc C) hc S I2 T st2 f2 hg ht (XP:=fun _ _ _ _ _ _ _ _=>False) he (fun _ _ _ _ _ z=>by obtain ⟨_,_,_,z⟩:=z; exact z.elim) hw fun D C s' H' m hCs hCn hn I3 q=>?_
 exact ⟨m,hn,fun h' hs'=>⟨.ref D,_,I2.letGo I3 hCs hCn hs',rfl,q⟩⟩
theorem pQ {wi:TI} {i:Nat} {x:Str} {px spos:Pos} (hN:X.N.Nodup) (hix:X.N[i]?=some x) (hx:Loc X.env.scope x) (hc:X.calm=true) (S:dg X scope ix N') (hi:PI X tg iter wi) (hg:∀ C s0 H0 ex,PG (X.comp scope N' C s0 H0 ex) tg g) (ht:∀ C s0 H0 ex,PF (X.comp scope N' C s0 H0 ex) ifs tt)
  (he:∀ C s0 H0 ex,PE (X.comp scope N' C s0 H0 ex) elt te) (hsw:swapsWith (.ListComp elt [⟨tg,iter,ifs,0⟩] scope pos) (some (.Name x px)) spos.line X.env=pure true)
  (hf:X.fn x=true∨X.env.scope.names.lookup x=some .local:=by first | exact .inl rfl | exact .inr rfl | assumption) (hs:∀ x,foldedSetIterable iter X.env x=pure x:=by intro _; rfl) :
  PS X (.Assign [.Name x px] (.ListComp elt [⟨tg,iter,ifs,0⟩] scope pos) spos) (zg (uE ix wi g tt te) (tJ i)):=by
 intro pins s σ H D I h
 rw [exec_Assign_Name_used _ _ _ _ hsw]
 refine wpAny_bind (wpAny_standAt (wpAny_bind ?_))
 show wpAny _ X.A (do let _ ← comprehension (.ListComp elt [⟨tg,iter,ifs,0⟩] scope pos) scope X.env _ (newList []) false (eval iter X.env) (some (assign (.Name x px) X.env))) _ _ s
 refine wpAny_bind (wpAny_mono (wpAny_comprehension_free (use:=some (assign (.Name x px) X.env)) (Q:=fun _ s'=>SP X pins D .next s') rfl hs (iI (S.cells I.ok)) S.kind S.nam
  (wpAny_mono (hi pins s σ H _ I h) (fun xv s₁ h₁=>wpAny_mono h₁ (fun itv s₂ h₂=>?_) fun _ _ e=>e) fun _ _ e=>e)) (fun _ s' hq=>wpAny_pure (wpAny_pure hq)) fun _ _ e=>e)
 obtain ⟨it,fp,tn,J,H2,e,I2,T,st2,f2,hw⟩:=h₂
 subst e
 refine kA (RR:=fun acc C=>compPost (model X.prog X.w) X.A X.xe (some (assign (.Name x px) X.env)) (fun _ s'=>SP X pins D .next s') acc C) hc S I2 T st2 f2 hg ht (XP:=fun _ _ _ _ _ _ _ _=>False) he (fun _ _ _ _ _ z=>by obtain ⟨_,_,_,z⟩:=z; exact z.elim) hw fun Da C s' H' m hCs hCn hn I3 q=>?_
 show wpAny _ X.A (assign (.Name x px) X.env (.ref Da)) _ _ _
 refine wpAny_assign_Name (mx I3 hN hix hx (v:=.ref Da) rfl (fun s4 I4 ⟨a,sb,ha⟩=>?_) hf)
 have ca:C ≠ a:=fun z=>by
  rcases ha with y | y
  ·exact absurd (Nat.lt_of_lt_of_le I2.lt hCs) (by rw [z,y]; exact Nat.lt_irrefl _)
  ·obtain ⟨v,r⟩:=I2.cell x a y
   exact absurd (Nat.lt_of_lt_of_le r.lt hCs) (by rw [z]; exact Nat.lt_irrefl _)
 exact ⟨m,hn.sameBut sb ca,fun h' hs'=>⟨_,H',I2.letGo I4 hCs hCn hs',q⟩⟩
end
end L2
namespace L2
open PySem PySem.Spec PyProof.Rows
theorem j6:typeLookup (.type "list") "__getattr__"=pure none:=by rw [typeLookup_type,builtinLookup_eq_fast]; kernel_rfl
theorem nH:typeLookup (.type "list") "keys"=pure none:=by rw [typeLookup_type,builtinLookup_eq_fast]; kernel_rfl
section
variable {prog:Program} {w:World} {A:Around} {E:Value→Shared→Prop}
theorem sP (a:Addr) (u:Tok) (its:Array Value) (n:Nat) (sl:Array (Option Value)) :
  Meets (Builtin.«object.__getattribute__» ⟨[.ref a,.str "keys" u],[]⟩) fun A R s=>s.heap.get? a=some ⟨.type "list",none,.seq its n,sl⟩∧A.handled=none∧∀ h' tk e,Heap.NewAttrErr s.heap h' e (.ref a) "keys"→R (.error (.ref e)) { s with heap:=h',toks:=tk } :=
 Meets.of_wp fun prog w A R s hs=>by
  obtain ⟨hp,g,d,tk,os⟩:=s
  obtain ⟨h1,h2,h3⟩:=hs
  have hT:(⟨hp,g,d,tk,os⟩:Shared).TypeIs (.ref a) "list":=⟨_,h1,rfl⟩
  have f1:=nH
  unfold Builtin.«object.__getattribute__»
  repeat (any_goals (first | assumption | wp_step))
  exact wpAny_raiseAttrError h2 h3 (attrMsg_fits (by decide +kernel) (by decide))
theorem mL {s:Shared} {a:Addr} {its:Array Value} {n:Nat} {sl:Array (Option Value)} {Q:Option Value→Shared→Prop} (ha:s.heap.get? a=some ⟨.type "list",none,.seq its n,sl⟩) (hA:A.handled=none)
  (h:∀ h' tk,(∀ b o,s.heap.get? b=some o→h'.get? b=some o)→Q none { s with heap:=h',toks:=tk }):wpAny (model prog w) A (getAttr? (.ref a) "keys") Q E s:=by
 obtain ⟨hp,g,d,tk,os⟩:=s
 have hT:(⟨hp,g,d,tk,os⟩:Shared).TypeIs (.ref a) "list":=⟨_,ha,rfl⟩
 have f1:=sub_AttributeError
 have f3:=F.slot_list_getattribute.lookup
 have f4:=F.slot_list_getattribute.bind (.ref a)
 have f5:=j6
 unfold getAttr? getAttrBy? getAttrBy
 repeat (any_goals (first | assumption | ((with_reducible show wpAny _ _ (call (Value.builtin "list.__getattribute__") _ _) _ _ _); refine call_meets F.slot_list_getattribute hT F.entry_list_ga (F.args_list_getattribute_2 _ _) (sP a _ its n sl) ⟨ha,hA,fun h' tk' e hx=>?_⟩) | wp_step))
 obtain ⟨t',u',he⟩:=hx.there
 show wpAny _ _ (getattributeRaised _ _ _ _ _ _ _) _ _ _
 unfold getattributeRaised
 repeat (any_goals (first | assumption | wp_step))
 all_goals first | exact h _ _ hx.keeps | skip
end
end L2
namespace L2
open PySem PySem.Spec PyProof.Rows
theorem jV:entryFor table "dict.update.loop"=some Builtin.«dict.update.loop»:=entryFor_of_tree (by kernel_rfl)
theorem gc:plainId "dict.update.loop"=true:=by decide +kernel
section
variable {prog:Program} {w:World} {A:Around} {E:Value→Shared→Prop} {R:Result→Shared→Prop} {κ:Type} [DecidableEq κ] {knd:PySem.KeyKind prog w κ}
 {I:Addr} {fp wr:List Addr} {G:Array GenState→Array GenState→Prop} {P:Nat→Value→Prop} {St:Nat→Shared→Prop}
theorem wT {s:Shared} {t:Addr} {x y:Value} {Q:List Value→Shared→Prop} (h:s.heap.IsTuple t #[x,y]) (q:Q [x,y] s):wpAny (model prog w) A (Builtin.Dict.pairItems (.ref t)) Q E s:=by
 obtain ⟨⟨oc,od,oda,osl⟩,h1,h2,n,h3⟩:=h
 simp only at h2 h3
 subst h2 h3
 have hT:s.TypeIs (.ref t) "tuple":=⟨_,h1,rfl⟩
 obtain ⟨hp,g,d,tk,os⟩:=s
 unfold Builtin.Dict.pairItems
 repeat (any_goals (first | assumption | wp_step))
theorem sr {all:List (κ × Value)} (W:WalksS prog w A.in1 I fp wr G all.length P St) (d:Addr) (hdf:d ∉ fp) (kv:Nat→Value) (tp:Nat→Addr) (hP:∀ i v,P i v→v=.ref (tp i)) (hw:∀ j,j < all.length→tp j ∉ wr∧tp j ≠ d)
  (hk:∀ j p,all[j]?=some p→knd.is p.1 (kv j)=true) (hz:all.length≤sizeLine) :
  ∀ (k i:Nat) (z:Int) (s:Shared),all.length - i=k→i≤all.length→St i s→(∀ j p,all[j]?=some p→s.heap.IsTuple (tp j) #[kv j,p.2])→s.heap.DictOf knd d (merged [] (all.take i)) →
   (∀ s',Moved (d :: wr) G s s'→s'.heap.DictOf knd d (merged [] all)→R (.ok (.ret .none)) s')→codeAny (model prog w) A (.builtin "dict.update.loop" ⟨[.ref d,.ref I,.int z 0,.none],[]⟩) R s:=by
 have hdw:d ∉ wr:=fun h=>hdf (W.sub _ h)
 have hsub:∀ b∈wr,b∈d :: wr:=fun b hb=>List.mem_cons_of_mem _ hb
 intro k
 induction k with
 | zero =>
  intro i z s hk0 hi hst hT hD hR
  have hin:i=all.length:=by omega
  subst hin
  refine codeAny_builtin jV ?_
  rw [Around.under_plainId gc _]
  show wpAny _ A.in1 (pyNext (.ref I) >>= _) _ _ s
  refine wpAny_bind (W.done s _ _ hst fun s' hm=>?_)
  show wpAny _ A.in1 (Builtin.Dict.addKeywords d [] >>= _) _ _ s'
  refine wpAny_bind (wpAny_pure (wpAny_pure (hR s' (hm.mono hsub) ?_)))
  rw [List.take_length] at hD
  obtain ⟨o,es,ep,ho,rest⟩:=hD
  exact ⟨o,es,ep,hm.heap d _ hdw ho,rest⟩
 | succ k ih =>
  intro i z s hk0 hi hst hT hD hR
  have hlt:i < all.length:=by omega
  have hget:all[i]?=some all[i]:=List.getElem?_eq_getElem hlt
  refine codeAny_builtin jV ?_
  rw [Around.under_plainId gc _]
  show wpAny _ A.in1 (pyNext (.ref I) >>= _) _ _ s
  refine wpAny_bind (W.item i s _ _ hlt hst fun v s' hPv hst' hm=>?_)
  obtain rfl:=hP i v hPv
  have hT':∀ j p,all[j]?=some p→s'.heap.IsTuple (tp j) #[kv j,p.2]:=fun j p e=>by
   obtain ⟨o,h1,h2⟩:=hT j p e
   exact ⟨o,hm.heap _ _ (hw j (List.getElem?_eq_some_iff.mp e).1).1 h1,h2⟩
  have hD':s'.heap.DictOf knd d (merged [] (all.take i)):=by
   obtain ⟨o,es,ep,ho,rest⟩:=hD
   exact ⟨o,es,ep,hm.heap d _ hdw ho,rest⟩
  show wpAny _ A.in1 (holding [Value.ref (tp i)] _ >>= _) _ _ s'
  refine wpAny_bind (wpAny_holding (wpAny_bind (wpAny_tryCatch (wT (hT' i _ hget) ?_))))
  show wpAny _ A.in1 (holding [kv i,all[i].2] (dictSet d (kv i) all[i].2)) _ _ s'
  refine wpAny_holding ?_
  unfold dictSet
  refine wpAny_holding (wpAny_bind (knd.pyHash (hk i _ hget) ?_))
  have hl:(merged [] (all.take i)).length≤sizeLine:=by
   have:=merged_length_le [] (all.take i)
   rw [List.length_take] at this
   simp only [List.length_nil] at this
   omega
  refine wpAny_dictSetHashed_pairs (hsz:=hl) (hk i _ hget) hD' fun h' dd hs=>?_
  rw [← merged_take_succ [] all i _ hget] at dd
  refine wpAny_pure ⟨plainId_quiet gc _,ih (i + 1) _ _ (by omega) hlt (W.frame _ s' _ _ hst' (Nat.le_succ _) fun b hb o e=>?_) (fun j p e=>?_) dd fun s'' hm'' hD''=>?_⟩
  ·rw [hs.2 b (fun z:b=d=>hdf (z ▸ hb))]; exact e
  ·obtain ⟨o,h1,h2⟩:=hT' j p e
   refine ⟨o,?_,h2⟩
   show h'.get? (tp j)=some o
   rw [hs.2 _ (hw j (List.getElem?_eq_some_iff.mp e).1).2]
   exact h1
  ·refine hR s'' (Moved.trans W.gtrans ((hm.mono hsub).then_heap (Nat.le_succ _) fun b o hb e=>?_) hm'') hD''
   rw [hs.2 b (fun z:b=d=>hb (by rw [z]; exact List.mem_cons_self))]; exact e
end
end L2
namespace L2
open PySem PySem.Spec PyProof.Rows
section
variable {prog:Program} {w:World} {A:Around} {E:Value→Shared→Prop} {κ:Type} [DecidableEq κ] {knd:PySem.KeyKind prog w κ} {s:Shared}
theorem jX {l:Addr} {its:Array Value} {n:Nat} {sl:Array (Option Value)} {all:List (κ × Value)} {Q:Value→Shared→Prop} (kv:Nat→Value) (tp:Nat→Addr) (hh:A.handled=none) (hl:s.heap.get? l=some ⟨.type "list",none,.seq its n,sl⟩)
  (hits:∀ (j:Nat) (v:Value),its[j]?=some v→v=.ref (tp j)) (hlen:its.size=all.length) (hT:∀ j p,all[j]?=some p→s.heap.IsTuple (tp j) #[kv j,p.2]) (hk:∀ j p,all[j]?=some p→knd.is p.1 (kv j)=true) (hz:all.length≤sizeLine)
  (h:∀ h' tk,h'.DictOf knd s.heap.objs.size (merged [] all)→(∀ b o,s.heap.get? b=some o→h'.get? b=some o)→Q (.ref s.heap.objs.size) { s with heap:=h',toks:=tk }) :
  wpAny (model prog w) A (call (.type "dict") [.ref l]) Q E s:=by
 refine callType_codes (Q₁:=fun obj s₁=>obj=Value.ref s.heap.objs.size∧s₁={ s with heap:=s.heap.push { cls:=.type "dict",data:=.dict #[] } }) PySem.F.kt_called_dict (PySem.F.kt_typeCall_dict_1 _) F.entry_dict_init (kt_code_dict_new _ ⟨rfl,rfl⟩) ?_
 rintro obj s₁ ⟨rfl,rfl⟩
 have hnew:(s.heap.push { cls:=.type "dict",data:=.dict #[] }).DictOf knd s.heap.objs.size []:=Heap.DictOf.new s.heap
 have hl':(s.heap.push { cls:=.type "dict",data:=.dict #[] }).get? l=some ⟨.type "list",none,.seq its n,sl⟩:=Heap.get?_push_of_some _ hl
 have hTl:Shared.TypeIs { s with heap:=s.heap.push { cls:=.type "dict",data:=.dict #[] } } (.ref l) "list":=⟨_,hl',rfl⟩
 have lsz:l < s.heap.objs.size:=Heap.lt_size hl
 refine ⟨hnew.typeIs,F.args_dict_init_2 _ _,?_⟩
 unfold Builtin.«dict.__init__»
 refine wpAny_bind ?_
 unfold Builtin.Dict.selfAndRest
 refine wpAny_bind (wpAny_notOrdered_dict hnew.typeIs ?_)
 show wpAny _ _ (pure (s.heap.objs.size,[Value.ref l])) _ _ _
 refine wpAny_pure ?_
 show wpAny _ _ (Builtin.Dict.updateFrom "dict.__init__" s.heap.objs.size (.ref l) [] .none) _ _ _
 unfold Builtin.Dict.updateFrom
 refine wpAny_bind (wpAny_typeOf hTl ?_)
 rw [if_pos (by decide)]
 refine wpAny_bind (mL hl' (by simpa using hh) fun h' tk keep=>?_)
 have hl2:h'.IsList l its:=⟨_,keep _ _ hl',rfl,n,rfl⟩
 show wpAny _ _ (rule _ >>= _) _ _ _
 refine wpAny_bind (wpAny_rule (wpAny_bind (wpAny_pyIter_list hl2 ?_)))
 have nd:h'.objs.size > s.heap.objs.size:=by
  have z:h'.get? s.heap.objs.size=some _:=keep _ _ (Heap.get?_push_size _ rfl)
  exact Heap.lt_size z
 have hDn:h'.DictOf knd s.heap.objs.size []:=by
  obtain ⟨o,es,ep,ho,rest⟩:=hnew
  exact ⟨o,es,ep,keep _ _ ho,rest⟩
 have hTs:∀ j p,all[j]?=some p→h'.IsTuple (tp j) #[kv j,p.2]:=fun j p e=>by
  obtain ⟨o,h1,h2⟩:=hT j p e
  exact ⟨o,keep _ _ (Heap.get?_push_of_some _ h1),h2⟩
 have hne:l ≠ h'.objs.size:=Nat.ne_of_lt (Nat.lt_trans lsz nd)
 have W:=(Walks.list (prog:=prog) (w:=w) (A:=A.in1.in1) (by simpa using hh) h'.objs.size l hne its).toS
 rw [hlen] at W
 refine wpAny_pure ⟨plainId_quiet gc _,sr (A:=A.in1) W s.heap.objs.size ?_ kv tp (fun i v e=>hits i v e) (fun j hj=>?_) hk hz all.length 0 0 _ (by omega) (Nat.zero_le _) ⟨⟨_,Heap.get?_push_size _ rfl,rfl,rfl⟩,hl2.push _⟩ (fun j p e=>(hTs j p e).push _) ?_ fun s' hm hD=>?_⟩
 ·simp only [List.mem_cons,List.not_mem_nil,or_false,not_or]
  exact ⟨Nat.ne_of_lt nd,Nat.ne_of_gt lsz⟩
 ·have hj':all[j]?=some all[j]:=List.getElem?_eq_getElem hj
  obtain ⟨o,h1,_⟩:=hT j _ hj'
  have tsz:=Heap.lt_size h1
  simp only [List.mem_cons,List.not_mem_nil,or_false]
  exact ⟨Nat.ne_of_lt (Nat.lt_trans tsz nd),Nat.ne_of_lt tsz⟩
 ·obtain ⟨o,es,ep,ho,rest⟩:=hDn
  exact ⟨o,es,ep,Heap.get?_push_of_some _ ho,rest⟩
 ·obtain ⟨h2,g2,d2,t2,o2⟩:=s'
  have eg:g2=s.gens:=hm.gens
  have ed:d2=s.drawn:=hm.drawn
  have eo:o2=s.os:=hm.os
  subst eg ed eo
  refine ⟨rfl,h h2 t2 hD fun b o e=>?_⟩
  have hb:=Heap.lt_size e
  refine hm.heap b o ?_ (Heap.get?_push_of_some _ (keep _ _ (Heap.get?_push_of_some _ e)))
  simp only [List.mem_cons,List.not_mem_nil,or_false,not_or]
  exact ⟨Nat.ne_of_lt hb,Nat.ne_of_lt (Nat.lt_trans hb nd)⟩
end
end L2
namespace L2
open PySem PySem.Spec PyProof.Rows
def dM {κ:Type} [DecidableEq κ] (l:List κ):List κ:=l.foldl (fun acc k=>if k∈acc then acc else acc ++ [k]) []
theorem jB {κ:Type} [DecidableEq κ] (l:List κ) (k:κ):dM (l ++ [k])=if k∈dM l then dM l else dM l ++ [k]:=by
 unfold dM
 rw [List.foldl_append]
 rfl
theorem vX {κ:Type} [DecidableEq κ]:∀ l:List κ,(dM l).length≤l.length:=by
 have go:∀ (l acc:List κ),(l.foldl (fun acc k=>if k∈acc then acc else acc ++ [k]) acc).length≤acc.length + l.length:=by
  intro l
  induction l with
  | nil=>intro acc; simp
  | cons k r ih =>
   intro acc
   rw [List.foldl_cons]
   refine Nat.le_trans (ih _) ?_
   split
   ·simp only [List.length_cons]; omega
   ·simp only [List.length_cons,List.length_append,List.length_nil]; omega
 intro l
 have:=go l []
 simpa [dM] using this
theorem pJ {κ:Type} [DecidableEq κ]:∀ l:List κ,l.Nodup→dM l=l:=by
 have go:∀ (l acc:List κ),(acc ++ l).Nodup→l.foldl (fun acc k=>if k∈acc then acc else acc ++ [k]) acc=acc ++ l:=by
  intro l
  induction l with
  | nil=>intro acc _; simp
  | cons k r ih =>
   intro acc h
   have hk:k ∉ acc:=fun z=>by
    rw [List.nodup_append] at h
    exact h.2.2 k z k List.mem_cons_self rfl
   rw [List.foldl_cons,if_neg hk,ih]
   ·rw [List.append_assoc]; rfl
   ·rw [List.append_assoc]; exact h
 intro l h
 have:=go l [] (by simpa using h)
 simpa [dM] using this
section
variable {prog:Program} {w:World} {A:Around} {E:Value→Shared→Prop} {R:Result→Shared→Prop} {κ:Type} [DecidableEq κ] [BEq κ] [LawfulBEq κ] {knd:PySem.KeyKind prog w κ}
 {I:Addr} {fp wr:List Addr} {G:Array GenState→Array GenState→Prop} {P:Nat→Value→Prop} {St:Nat→Shared→Prop}
theorem oW {all:List κ} (W:WalksS prog w A.in1 I fp wr G all.length P St) (S:Addr) (hSf:S ∉ fp) (hval:∀ i v k,P i v→all[i]?=some k→knd.is k v=true∧v.scannable=true) (hb:all.length + 1 < scanBound) :
  ∀ (n i:Nat) (s:Shared),all.length - i=n→i≤all.length→St i s→s.heap.SetOf knd S (fun x=>decide (x∈dM (all.take i))) (dM (all.take i)).length →
   (∀ s',Moved (S :: wr) G s s'→s'.heap.SetOf knd S (fun x=>decide (x∈dM all)) (dM all).length→R (.ok (.ret .none)) s')→codeAny (model prog w) A (.builtin "set.update.loop" ⟨[.ref S,.ref I],[]⟩) R s:=by
 have hSw:S ∉ wr:=fun h=>hSf (W.sub _ h)
 have up:∀ b∈wr,b∈S :: wr:=fun b hb=>List.mem_cons_of_mem _ hb
 have kept:∀ {s s':Shared} {T:κ→Bool} {m:Nat},Moved wr G s s'→s.heap.SetOf knd S T m→s'.heap.SetOf knd S T m:=fun hm ⟨o,es,ep,t,ho,rest⟩=>⟨o,es,ep,t,hm.heap S _ hSw ho,rest⟩
 intro n
 induction n with
 | zero =>
  intro i s h0 hi hst hS hR
  obtain rfl:i=all.length:=by omega
  refine codeAny_builtin PyProof.Rows.F.entry_set_update_loop ?_
  rw [Around.under_plainId PyProof.Rows.F.plain_set_update_loop _]
  rw [List.take_length] at hS
  exact wpAny_bind (W.done s _ _ hst fun s' hm=>wpAny_pure (hR s' (hm.mono up) (kept hm hS)))
 | succ n ih =>
  intro i s h0 hi hst hS hR
  have hlt:i < all.length:=by omega
  have hget:all[i]?=some all[i]:=List.getElem?_eq_getElem hlt
  refine codeAny_builtin PyProof.Rows.F.entry_set_update_loop ?_
  rw [Around.under_plainId PyProof.Rows.F.plain_set_update_loop _]
  refine wpAny_bind (W.item i s _ _ hlt hst fun v s' hP hst' hm=>?_)
  obtain ⟨k1,k2⟩:=hval i v _ hP hget
  have hS':=kept hm hS
  show wpAny _ A.in1 (holding [v] (setAdd S v) >>= _) _ _ s'
  refine wpAny_bind (wpAny_holding ?_)
  unfold setAdd
  refine wpAny_holding (wpAny_bind (knd.pyHash k1 ?_))
  have room:(dM (all.take i)).length + 1 < scanBound:=by
   have h1:=vX (all.take i)
   rw [List.length_take] at h1
   omega
  refine wpAny_setAddHashed_of (knd:=knd) (s:={ s' with toks:=s'.toks + 1 }) k1 k2 hS' room fun h' hsb hS2=>?_
  have et:all.take (i + 1)=all.take i ++ [all[i]]:=by rw [List.take_add_one,hget]; rfl
  have hSi:h'.SetOf knd S (fun x=>decide (x∈dM (all.take (i + 1)))) (dM (all.take (i + 1))).length:=by
   refine PyProof.Rows.SetOf_congr hS2 (fun x=>?_) ?_
   ·rw [et]
    by_cases hm1:all[i]∈dM (all.take i)
    ·rw [jB,if_pos hm1]
     by_cases hx:x=all[i]
     ·subst hx; simp [hm1]
     ·simp [hx]
    ·rw [jB,if_neg hm1]
     by_cases hx:x=all[i]
     ·subst hx; simp
     ·simp [hx]
   ·rw [et,jB]
    by_cases hm1:all[i]∈dM (all.take i)
    ·rw [if_pos hm1]; simp [hm1]
    ·rw [if_neg hm1]; simp [hm1]
  refine wpAny_pure ⟨plainId_quiet PyProof.Rows.F.plain_set_update_loop _,ih (i + 1) _ (by omega) hlt (W.frame _ s' _ _ hst' (Nat.le_succ _) fun b hb o e=>?_) hSi fun s'' hm'' hS''=>?_⟩
  ·rw [hsb.2 b (fun z:b=S=>hSf (z ▸ hb))]; exact e
  ·refine hR s'' (Moved.trans W.gtrans ((hm.mono up).then_heap (Nat.le_succ _) fun b o hb e=>?_) hm'') hS''
   rw [hsb.2 b (fun z:b=S=>hb (by rw [z]; exact List.mem_cons_self))]; exact e
end
theorem mP:isSubtype (.type "list") (.type "set")=pure false:=by rw [isSubtype_type]; kernel_rfl
theorem jY:isSubtype (.type "list") (.type "frozenset")=pure false:=by rw [isSubtype_type]; kernel_rfl
section
variable {prog:Program} {w:World} {A:Around} {E:Value→Shared→Prop} {κ:Type} [DecidableEq κ] [BEq κ] [LawfulBEq κ] {knd:PySem.KeyKind prog w κ} {s:Shared}
set_option maxHeartbeats 4000000 in
theorem lR {l:Addr} {items:Array Value} {all:List κ} {Q:Value→Shared→Prop} (hh:A.handled=none) (hl:s.heap.IsList l items) (hn:items.size=all.length) (hi:∀ (i:Nat) (v:Value) (k:κ),items[i]?=some v→all[i]?=some k→knd.is k v=true∧v.scannable=true) (hb:all.length + 1 < scanBound)
  (h:∀ (h':Heap) (tk:Nat),h'.SetOf knd s.heap.objs.size (fun x=>decide (x∈dM all)) (dM all).length→(∀ b o,s.heap.get? b=some o→h'.get? b=some o)→Q (.ref s.heap.objs.size) { s with heap:=h',toks:=tk }) :
  wpAny (model prog w) A (call (.type "set") [.ref l]) Q E s:=by
 obtain ⟨c,tl,hmro⟩:=F.called_set.mro
 have hmade:=F.called_set.made
 have hsub:=F.called_set.sub
 refine wpAny_call (codeAny_of_tree ?_)
 show wpAny _ _ (callAny (.type "set") _) _ _ _
 refine wpAny_pure ⟨Code.quiet_builtin _ (by decide +kernel),codeAny_builtin F.entry_type_call ?_⟩
 rw [Around.under_plain (weight_type_call_type "set" [.ref l] []) rfl]
 have h1:=F.called_set.notType
 have h2:=F.called_set.canCreate
 have hct:=F.typeCall_set_1 (.ref l)
 repeat (any_goals (first | assumption | wp_step))
 have fresh:∀ led:Bool,(s.heap.push { cls:=.type "set",dict:=none,data:=.set #[] 0 (.fresh 0 0 led) }).get? s.heap.objs.size=some { cls:=.type "set",dict:=none,data:=.set #[] 0 (.fresh 0 0 led) }:=fun led=>Heap.get?_push_size _ rfl
 refine codeAny_mono (code_set_new_1 (.ref l) (E:=E) (Q₁:=fun obj s₁=>∃ led:Bool,obj=Value.ref s.heap.objs.size∧s₁={ s with heap:=s.heap.push { cls:=.type "set",dict:=none,data:=.set #[] 0 (.fresh 0 0 led) } }) fun led=>⟨led,rfl,rfl⟩) fun r s₁ hr=>?_
 cases r with
 | error e=>exact hr
 | ok fl =>
  cases fl with
  | ret obj =>
   obtain ⟨led,rfl,rfl⟩:=hr
   have hS:=fresh led
   have hT:Shared.TypeIs { s with heap:=s.heap.push { cls:=.type "set",dict:=none,data:=.set #[] 0 (.fresh 0 0 led) } } (.ref s.heap.objs.size) "set":=⟨_,hS,rfl⟩
   have hli:=F.called_set.init.lookup
   have hbi:=F.called_set.init.bind (.ref s.heap.objs.size)
   repeat (any_goals (first | assumption | wp_step))
   refine codeAny_mono (codeAny_call_builtin (R:=wants (fun r s₂=>r=.none∧∃ h' tk,s₂={ s with heap:=h',toks:=tk }∧h'.SetOf knd s.heap.objs.size (fun x=>decide (x∈dM all)) (dM all).length∧(∀ b o,s.heap.get? b=some o→h'.get? b=some o)) E) F.called_set.init.plain F.entry_set_init (check_set_init_1 hT ?_)) fun r₂ s₂ hr₂=>?_
   ·obtain ⟨ol,hol,hcl,nl,hdl⟩:=hl
    obtain ⟨ocls,odict,odata,oslots⟩:=ol
    simp only at hcl hdl
    subst hcl; subst hdl
    have hol':(s.heap.push { cls:=.type "set",dict:=none,data:=.set #[] 0 (.fresh 0 0 led) }).get? l=some { cls:=.type "list",dict:=odict,data:=.seq items nl,slots:=oslots }:=Heap.get?_push_of_some _ hol
    have hsls:=mP
    have hslf:=jY
    have hnd:(Value.type "list" == Value.type "dict")=false:=by decide
    have hl1:(s.heap.push { cls:=.type "set",dict:=none,data:=.set #[] 0 (.fresh 0 0 led) }).IsList l items:=⟨_,hol',rfl,nl,rfl⟩
    unfold Builtin.«set.__init__» noKeywords Builtin.Frozenset.updateFrom
    generalize hPI:pyIter=PI
    wp_walk
    subst hPI
    refine wpAny_pyIter_list hl1 ?_
    refine wpAny_bind (wpAny_runValue ?_)
    have lS:l < s.heap.objs.size:=Heap.lt_size hol
    have hh3:A.in1.in1.in1.handled=none:=by simp [hh]
    have lI:l ≠ (s.heap.push { cls:=.type "set",dict:=none,data:=.set #[] 0 (.fresh 0 0 led) }).objs.size:=by
     rw [Heap.size_push]; exact Nat.ne_of_lt (Nat.lt_succ_of_lt lS)
    have W:=(Walks.list (prog:=prog) (w:=w) hh3 _ l lI items).toS
    rw [hn] at W
    refine oW W s.heap.objs.size ?hf (fun i v k e1 e2=>hi i v k e1 e2) hb all.length 0 _ (by omega) (Nat.zero_le _) ⟨⟨_,Heap.get?_push_size _ rfl,rfl,rfl⟩,(hl1.push _)⟩ ?h0 ?hR
    case hf =>
     rw [Heap.size_push]; simp only [List.mem_cons,List.not_mem_nil,or_false,not_or]
     exact ⟨Nat.ne_of_lt (Nat.lt_succ_self _),Nat.ne_of_gt lS⟩
    case h0=>exact PyProof.Rows.SetOf_congr ((PyProof.Rows.setObjOf_fresh (knd:=knd) led).setOf (Heap.get?_push_of_some _ hS) (by unfold scanBound; omega)) (fun _=>rfl) rfl
    case hR =>
     intro s' hm hS'
     obtain ⟨h',g',d',tk',os'⟩:=s'
     have eg:g'=s.gens:=hm.gens
     have ed:d'=s.drawn:=hm.drawn
     have eo:os'=s.os:=hm.os
     subst eg; subst ed; subst eo
     refine wpAny_pure ?_
     show wpAny _ _ (ret Value.none) _ _ _
     refine wpAny_pure ⟨rfl,h',tk',rfl,hS',fun b o e=>?_⟩
     have hb:=Heap.lt_size e
     refine hm.heap b o ?_ (Heap.get?_push_of_some _ (Heap.get?_push_of_some _ e))
     rw [Heap.size_push]
     simp only [List.mem_cons,List.not_mem_nil,or_false,not_or]
     exact ⟨Nat.ne_of_lt hb,Nat.ne_of_lt (Nat.lt_succ_of_lt hb)⟩
   ·cases r₂ with
    | error e=>exact hr₂
    | ok fl₂ =>
     cases fl₂ with
     | ret r =>
      obtain ⟨rfl,h',tk,rfl,hS',hk'⟩:=hr₂
      repeat (any_goals (first | assumption | wp_step))
      exact h _ _ hS' hk'
     | _=>exact hr₂.elim
  | _=>exact hr.elim
end
theorem lV:isSubtype (.type "tuple") (.type "set")=pure false:=by rw [isSubtype_type]; kernel_rfl
theorem jx:isSubtype (.type "tuple") (.type "frozenset")=pure false:=by rw [isSubtype_type]; kernel_rfl
section
variable {prog:Program} {w:World} {A:Around} {E:Value→Shared→Prop} {κ:Type} [DecidableEq κ] [BEq κ] [LawfulBEq κ] {knd:PySem.KeyKind prog w κ} {s:Shared}
set_option maxHeartbeats 4000000 in
theorem kQ {l:Addr} {items:Array Value} {all:List κ} {Q:Value→Shared→Prop} (hh:A.handled=none) (hl:s.heap.IsTuple l items) (hn:items.size=all.length) (hi:∀ (i:Nat) (v:Value) (k:κ),items[i]?=some v→all[i]?=some k→knd.is k v=true∧v.scannable=true) (hb:all.length + 1 < scanBound)
  (h:∀ (h':Heap) (tk:Nat),h'.SetOf knd s.heap.objs.size (fun x=>decide (x∈dM all)) (dM all).length→(∀ b o,s.heap.get? b=some o→h'.get? b=some o)→Q (.ref s.heap.objs.size) { s with heap:=h',toks:=tk }) :
  wpAny (model prog w) A (call (.type "set") [.ref l]) Q E s:=by
 obtain ⟨c,tl,hmro⟩:=F.called_set.mro
 have hmade:=F.called_set.made
 have hsub:=F.called_set.sub
 refine wpAny_call (codeAny_of_tree ?_)
 show wpAny _ _ (callAny (.type "set") _) _ _ _
 refine wpAny_pure ⟨Code.quiet_builtin _ (by decide +kernel),codeAny_builtin F.entry_type_call ?_⟩
 rw [Around.under_plain (weight_type_call_type "set" [.ref l] []) rfl]
 have h1:=F.called_set.notType
 have h2:=F.called_set.canCreate
 have hct:=F.typeCall_set_1 (.ref l)
 repeat (any_goals (first | assumption | wp_step))
 have fresh:∀ led:Bool,(s.heap.push { cls:=.type "set",dict:=none,data:=.set #[] 0 (.fresh 0 0 led) }).get? s.heap.objs.size=some { cls:=.type "set",dict:=none,data:=.set #[] 0 (.fresh 0 0 led) }:=fun led=>Heap.get?_push_size _ rfl
 refine codeAny_mono (code_set_new_1 (.ref l) (E:=E) (Q₁:=fun obj s₁=>∃ led:Bool,obj=Value.ref s.heap.objs.size∧s₁={ s with heap:=s.heap.push { cls:=.type "set",dict:=none,data:=.set #[] 0 (.fresh 0 0 led) } }) fun led=>⟨led,rfl,rfl⟩) fun r s₁ hr=>?_
 cases r with
 | error e=>exact hr
 | ok fl =>
  cases fl with
  | ret obj =>
   obtain ⟨led,rfl,rfl⟩:=hr
   have hS:=fresh led
   have hT:Shared.TypeIs { s with heap:=s.heap.push { cls:=.type "set",dict:=none,data:=.set #[] 0 (.fresh 0 0 led) } } (.ref s.heap.objs.size) "set":=⟨_,hS,rfl⟩
   have hli:=F.called_set.init.lookup
   have hbi:=F.called_set.init.bind (.ref s.heap.objs.size)
   repeat (any_goals (first | assumption | wp_step))
   refine codeAny_mono (codeAny_call_builtin (R:=wants (fun r s₂=>r=.none∧∃ h' tk,s₂={ s with heap:=h',toks:=tk }∧h'.SetOf knd s.heap.objs.size (fun x=>decide (x∈dM all)) (dM all).length∧(∀ b o,s.heap.get? b=some o→h'.get? b=some o)) E) F.called_set.init.plain F.entry_set_init (check_set_init_1 hT ?_)) fun r₂ s₂ hr₂=>?_
   ·obtain ⟨ol,hol,hcl,nl,hdl⟩:=hl
    obtain ⟨ocls,odict,odata,oslots⟩:=ol
    simp only at hcl hdl
    subst hcl; subst hdl
    have hol':(s.heap.push { cls:=.type "set",dict:=none,data:=.set #[] 0 (.fresh 0 0 led) }).get? l=some { cls:=.type "tuple",dict:=odict,data:=.seq items nl,slots:=oslots }:=Heap.get?_push_of_some _ hol
    have hsls:=lV
    have hslf:=jx
    have hnd:(Value.type "tuple" == Value.type "dict")=false:=by decide
    have hl1:(s.heap.push { cls:=.type "set",dict:=none,data:=.set #[] 0 (.fresh 0 0 led) }).IsTuple l items:=⟨_,hol',rfl,nl,rfl⟩
    unfold Builtin.«set.__init__» noKeywords Builtin.Frozenset.updateFrom
    generalize hPI:pyIter=PI
    wp_walk
    subst hPI
    refine wpAny_pyIter_tuple hl1 ?_
    refine wpAny_bind (wpAny_runValue ?_)
    have lS:l < s.heap.objs.size:=Heap.lt_size hol
    have hh3:A.in1.in1.in1.handled=none:=by simp [hh]
    have lI:l ≠ (s.heap.push { cls:=.type "set",dict:=none,data:=.set #[] 0 (.fresh 0 0 led) }).objs.size:=by
     rw [Heap.size_push]; exact Nat.ne_of_lt (Nat.lt_succ_of_lt lS)
    have W:=(Walks.tuple (prog:=prog) (w:=w) hh3 _ l lI items).toS
    rw [hn] at W
    refine oW W s.heap.objs.size ?hf (fun i v k e1 e2=>hi i v k e1 e2) hb all.length 0 _ (by omega) (Nat.zero_le _) ⟨⟨_,Heap.get?_push_size _ rfl,rfl,rfl⟩,(hl1.push _)⟩ ?h0 ?hR
    case hf =>
     rw [Heap.size_push]; simp only [List.mem_cons,List.not_mem_nil,or_false,not_or]
     exact ⟨Nat.ne_of_lt (Nat.lt_succ_self _),Nat.ne_of_gt lS⟩
    case h0=>exact PyProof.Rows.SetOf_congr ((PyProof.Rows.setObjOf_fresh (knd:=knd) led).setOf (Heap.get?_push_of_some _ hS) (by unfold scanBound; omega)) (fun _=>rfl) rfl
    case hR =>
     intro s' hm hS'
     obtain ⟨h',g',d',tk',os'⟩:=s'
     have eg:g'=s.gens:=hm.gens
     have ed:d'=s.drawn:=hm.drawn
     have eo:os'=s.os:=hm.os
     subst eg; subst ed; subst eo
     refine wpAny_pure ?_
     show wpAny _ _ (ret Value.none) _ _ _
     refine wpAny_pure ⟨rfl,h',tk',rfl,hS',fun b o e=>?_⟩
     have hb:=Heap.lt_size e
     refine hm.heap b o ?_ (Heap.get?_push_of_some _ (Heap.get?_push_of_some _ e))
     rw [Heap.size_push]
     simp only [List.mem_cons,List.not_mem_nil,or_false,not_or]
     exact ⟨Nat.ne_of_lt hb,Nat.ne_of_lt (Nat.lt_succ_of_lt hb)⟩
   ·cases r₂ with
    | error e=>exact hr₂
    | ok fl₂ =>
     cases fl₂ with
     | ret r =>
      obtain ⟨rfl,h',tk,rfl,hS',hk'⟩:=hr₂
      repeat (any_goals (first | assumption | wp_step))
      exact h _ _ hS' hk'
     | _=>exact hr₂.elim
  | _=>exact hr.elim
end
end L2
namespace HT
open PySem PyProof.Rows
section
variable {prog:Program} {w:World} {A:Around} {E:Value→Shared→Prop} {s:Shared}
theorem jo {t sl:Addr} {items:Array Value} {vl vu:Value} {lo hi:Option Int} {Q:Value→Shared→Prop} (ht:IsTup s.heap t items) (hs:s.heap.IsSliceOf sl vl vu .none) (pl:IsPart vl lo) (pu:IsPart vu hi)
  (hw:sIx items.size 0 lo=0∧sIx items.size items.size hi=items.size) (h:Q (.ref t) s):wpAny (model prog w) A (getItem (.ref t) (.ref sl)) Q E s:=by
 obtain ⟨os,hos,hcs,hds⟩:=id hs
 have hTs:s.TypeIs (.ref sl) "slice":=⟨os,hos,hcs⟩
 unfold getItem
 try with_reducible refine wpAny_holding ?_
 first | refine wpAny_bind (wpAny_pure ?_) | skip
 refine wpAny_bind (wpAny_sequenceKey ht.typeIs (by decide) ?_)
 refine wpAny_bind (wpAny_callSpecial?_slot (name:=Str.ofString "__getitem__") ht.typeIs PyProof.Rows.slot_tuple_getitem (wpAny_call_entry PyProof.Rows.slot_tuple_getitem ht.typeIs entry_tuple_getitem ?_ (args_tuple_getitem _ _)))
 show wpAny _ _ (Builtin.Tuple.tupleItemsOf (.ref t) >>= _) _ _ s
 refine wpAny_bind (tupleItemsOf_ ht ?_)
 refine wpAny_bind (wpAny_typeOf hTs ?_)
 rw [if_pos (by decide)]
 refine wpAny_bind (gB hs pl pu ?_)
 have yes:(((sIx items.size 0 lo:Nat):Int) == 0 && (1:Int) == 1 && (sIx items.size items.size hi - sIx items.size 0 lo) == items.size)=true:=by
  rw [hw.1,hw.2]
  simp
 show wpAny _ _ (if (((sIx items.size 0 lo:Nat):Int) == 0 && (1:Int) == 1 && (sIx items.size items.size hi - sIx items.size 0 lo) == items.size)=true then _ else _) _ _ s
 rw [if_pos yes]
 have hT:=ht.typeIs
 obtain ⟨hp,g,d,tk,o⟩:=s
 repeat (any_goals (first | assumption | wp_step))
 exact ⟨_,rfl,wpAny_pure h⟩
end
end HT
namespace L2
open PySem PySem.Spec PyProof.Rows
section
variable {X:Cx} {p p2 pos pos2:Pos} {e:Expr} {te:TE}
def Bo (K:PySem.W.Frag):V→Option Int→Option Int→Hp→VK→Prop:=fun x lo hi H Q=>∃ a xs,x=.ref a∧SqT K H a xs∧(HT.sIx xs.length 0 lo=0∧HT.sIx xs.length xs.length hi=xs.length)∧Q (.ref a) H
theorem yF:SlR X (Bo X.K):=by
 intro pins s σ H x v vl vu lo hi sl Q I rx hs pl pu h
 obtain ⟨a,xs,rfl,hx,hw,q⟩:=h
 cases rx
 obtain ⟨its,r,ht,hz⟩:=I.tuple hx
 have hlen:its.toArray.size=xs.length:=by rw [List.size_toArray]; exact r.length.symm
 exact ⟨"tuple",_,PyProof.Rows.slot_tuple_getitem.lookup,ht.typeIs,HT.jo ht hs pl pu (by rw [hlen]; exact hw) ⟨.ref a,H,I,rfl,q⟩⟩
local instance (priority:=5000) keyBEq:BEq Key:=instBEqOfDecidableEq
local instance (priority:=5000) keyLaw:LawfulBEq Key:=inferInstanceAs (LawfulBEq (Sum Int Str))
def wp (K:PySem.W.Frag) (te:TE):TE:=fun σ H Q=>te σ H fun x H1=>∃ a,∃ ss:List Str,x=.ref a∧(SqL K H1 a (ss.map V.str)∨SqT K H1 a (ss.map V.str))∧ss.length + 1 < scanBound∧Q (.int (dM ss).length) H1
theorem oZ {P:Program} {w:World} {ss:List Str} {us:List Value} (r:bi (ss.map V.str) us):us.length=ss.length∧∀ (i:Nat) (v:Value) (k:Key),us[i]?=some v→(ss.map fun x=>(Sum.inr x:Key))[i]?=some k→(cx P w).is k v=true∧v.scannable=true:=by
 refine ⟨by rw [← r.length,List.length_map],fun i v k e1 e2=>?_⟩
 rw [List.getElem?_map] at e2
 cases q:ss[i]? with
 | none=>rw [q] at e2; cases e2
 | some x =>
  rw [q] at e2
  cases e2
  obtain ⟨u,e3,t,rfl⟩:=r.get (i:=i) (x:=V.str x) (by rw [List.getElem?_map,q]; rfl)
  rw [e3] at e1
  cases e1
  exact ⟨jO P w x t,rfl⟩
theorem vb {ss:List Str}:(dM (ss.map fun x=>(Sum.inr x:Key))).length=(dM ss).length:=by
 have go:∀ (l acc:List Str),(l.map fun x=>(Sum.inr x:Key)).foldl (fun acc k=>if k∈acc then acc else acc ++ [k]) (acc.map Sum.inr)=(l.foldl (fun acc k=>if k∈acc then acc else acc ++ [k]) acc).map Sum.inr:=by
  intro l
  induction l with
  | nil=>intro acc; rfl
  | cons k r ih =>
   intro acc
   rw [List.map_cons,List.foldl_cons,List.foldl_cons]
   have hm:(Sum.inr k:Key)∈acc.map Sum.inr ↔ k∈acc:=by
    rw [List.mem_map]
    constructor
    ·rintro ⟨y,h1,h2⟩; cases h2; exact h1
    ·exact fun h=>⟨k,h,rfl⟩
   by_cases h:k∈acc
   ·rw [if_pos h,if_pos (hm.mpr h)]; exact ih acc
   ·rw [if_neg h,if_neg fun z=>h (hm.mp z)]
    have:=ih (acc ++ [k])
    rw [List.map_append] at this
    exact this
 have:=go ss []
 unfold dM
 rw [List.map_nil] at this
 rw [this,List.length_map]
theorem rB (hc:X.calm=true) (he:PE X e te) (hg1:Gl X "len") (hm1:X.mg "len"=none) (hg2:Gl X "set") (hm2:X.mg "set"=none) (b1:bootBuiltins "len"=some (.builtin "len")) (b2:bootBuiltins "set"=some (.type "set"))
  (hs:starEach [e] X.env=[(false,eval e X.env)]:=by rfl):PE X (.Call (.Name "len" p) [.Call (.Name "set" p2) [e] [] pos2] [] pos) (wp X.K te):=by
 intro pins s σ H Q I h
 refine wpAny_Call_Name_kw (jG I hg1 hm1 b1 ?_)
 refine PyProof.Rows.callWith_builtin1 ?_ rfl rfl
 show wpAny _ _ (spliced ((false,eval (.Call (.Name "set" p2) [e] [] pos2) X.env) :: backTo pos (starEach [] X.env))) _ _ s
 refine Calls.spliced_cons ?_
 refine wpAny_Call_Name_kw (jG I hg2 hm2 b2 ?_)
 refine PyProof.Rows.callWith_type1 ?_ hs rfl
 rw [hs]
 show wpAny _ _ (spliced ((false,eval e X.env) :: backTo pos2 (starEach [] X.env))) _ _ s
 refine Calls.spliced_cons (thn (he pins s σ H _ I h) fun u s1 ⟨x,H1,I1,r1,a,ss,ex,hq,hb,q⟩=>Calls.spliced_nil ?_)
 subst ex
 obtain rfl:u=Value.ref a:=r1
 have hb':(ss.map fun x=>(Sum.inr x:Key)).length + 1 < scanBound:=by rw [List.length_map]; exact hb
 have fin:∀ (h':Heap) (tk:Nat),h'.SetOf (cx X.prog X.w) s1.heap.objs.size (fun x=>decide (x∈dM (ss.map fun x=>(Sum.inr x:Key)))) (dM (ss.map fun x=>(Sum.inr x:Key))).length→(∀ b o,s1.heap.get? b=some o→h'.get? b=some o) →
   wpAny (model X.prog X.w) X.A (spliced (backTo pos (starEach [] X.env))) (fun vs s₁=>wpAny (model X.prog X.w) X.A (call (.builtin "len") (.ref s1.heap.objs.size :: vs)) (EP X pins σ Q) X.xe s₁) X.xe { s1 with heap:=h',toks:=tk }:=fun h' tk hS keep=>by
  refine Calls.spliced_nil ?_
  obtain ⟨o,es,ep,t,ho,hex,hd,_,_,hz,hf,hn⟩:=hS
  have hlt:(es.size:Int) < 2 ^ 63:=by
   have:scanBound=4096:=rfl
   omega
  refine call_len_set ho hex hd hf hlt ?_
  refine ⟨.int es.size,H1,I1.kept keep,⟨_,rfl⟩,?_⟩
  rw [hn,vb]
  exact q
 rcases hq with hq | hq
 ·obtain ⟨its,r,pl,hz⟩:=I1.list hq
  obtain ⟨k1,k2⟩:=oZ (P:=X.prog) (w:=X.w) r
  exact L2.lR (knd:=cx X.prog X.w) (all:=ss.map fun x=>(Sum.inr x:Key)) (I1.ok.hd hc) pl.isList (by rw [List.size_toArray,k1,List.length_map]) (fun i v k e1 e2=>k2 i v k (by simpa using e1) e2) hb' fin
 ·obtain ⟨its,r,pl,hz⟩:=I1.tuple hq
  obtain ⟨k1,k2⟩:=oZ (P:=X.prog) (w:=X.w) r
  exact L2.kQ (knd:=cx X.prog X.w) (all:=ss.map fun x=>(Sum.inr x:Key)) (I1.ok.hd hc) pl (by rw [List.size_toArray,k1,List.length_map]) (fun i v k e1 e2=>k2 i v k (by simpa using e1) e2) hb' fin
end
section
variable {X:Cx} {pins:List (Addr × Obj)} {σ:St} {H:Hp} {s:Shared}
theorem ma (I:Inv X pins σ H s):∀ (ts:List Addr) (kvs:List (Key × V)),ts.length=kvs.length→(∀ (j:Nat) (t:Addr) (p:Key × V),ts[j]?=some t→kvs[j]?=some p→SqT X.K H t [kV p.1,p.2]) →
  ∃ (us:List Value) (all:List (Key × Value)),us.length=kvs.length∧KV kvs all∧∀ (j:Nat) (t:Addr) (p:Key × Value),ts[j]?=some t→all[j]?=some p→∃ u,us[j]?=some u∧s.heap.IsTuple t #[u,p.2]∧(cx X.prog X.w).is p.1 u=true
 | [],[],_,_=>⟨[],[],rfl,.nil,fun j t p e=>by simp at e⟩
 | [],_ :: _,h,_=>by simp at h
 | _ :: _,[],h,_=>by simp at h
 | t :: ts,(k,v) :: kvs,h,hq=>by
  obtain ⟨us,all,h1,h2,h3⟩:=ma I ts kvs (by simpa using h) (fun j t p e1 e2=>hq (j + 1) t p (by simpa using e1) (by simpa using e2))
  obtain ⟨its,r,pl,_⟩:=I.tuple (hq 0 t (k,v) (by simp) (by simp))
  cases r with
  | cons r1 r2 =>
   cases r2 with
   | cons r3 r4 =>
    cases r4
    rename_i u w
    refine ⟨u :: us,(k,w) :: all,by simpa using h1,.cons ⟨rfl,r3⟩ h2,fun j t' p e1 e2=>?_⟩
    cases j with
    | zero =>
     have e1':t=t':=by simpa using e1
     have e2':(k,w)=p:=by simpa using e2
     subst e1' e2'
     exact ⟨u,by simp,pl,nM r1⟩
    | succ j=>simpa using h3 j t' p (by simpa using e1) (by simpa using e2)
end
section
variable {X:Cx}
theorem tL:∀ {kvs:List (Key × V)} {all:List (Key × Value)},KV kvs all→all.map (·.1)=kvs.map (·.1)
 | _,_,.nil=>rfl
 | _,_,.cons r rs=>by rw [List.map_cons,List.map_cons,tL rs,r.1]
theorem pR (hc:X.calm=true):ja X (.type "dict") (fun xs H Q=>∃ l,∃ ts:List Addr,∃ kvs:List (Key × V),xs=[V.ref l]∧SqL X.K H l (ts.map V.ref)∧ts.length=kvs.length ∧
  (∀ (j:Nat) (t:Addr) (p:Key × V),ts[j]?=some t→kvs[j]?=some p→SqT X.K H t [kV p.1,p.2])∧(kvs.map (·.1)).Nodup∧∀ d,H d=none→Q (.ref d) (upd H d (.dK kvs))):=by
 intro pins s σ H xs us Q I r h
 obtain ⟨l,ts,kvs,rfl,hl,hlen,hq,hnd,q⟩:=h
 obtain ⟨u,rfl,ru⟩:=iJ r
 cases ru
 obtain ⟨its,rv,⟨⟨c1,d1,t1,sl1⟩,n,g1,e1,e2,e3⟩,hz⟩:=I.list hl
 simp only at e1 e2 e3
 subst e1 e2 e3
 obtain ⟨ks,all,h1,h2,h3⟩:=ma I ts kvs hlen hq
 have la:all.length=kvs.length:=(Paired.length h2).symm
 have li:its.length=kvs.length:=by rw [← rv.length,List.length_map,hlen]
 have zl:all.length≤sizeLine:=by rw [la,← hlen]; simpa using hz
 have at_:∀ (j:Nat) (p:Key × Value),all[j]?=some p→∃ t,ts[j]?=some t:=fun j p e=>by
  have:=(List.getElem?_eq_some_iff.mp e).1
  exact ⟨ts[j],List.getElem?_eq_getElem (by omega)⟩
 refine jX (knd:=cx X.prog X.w) (all:=all) (fun j=>(ks[j]?).getD .none) (fun j=>(ts[j]?).getD 0) (I.ok.hd hc) g1 (fun j v e=>?_) (by rw [List.size_toArray,li,la]) (fun j p e=>?_) (fun j p e=>?_) zl fun h' tk hD keep=>?_
 ·have e':its[j]?=some v:=by simpa using e
  have hj:=(List.getElem?_eq_some_iff.mp e').1
  have hj2:j < ts.length:=by omega
  obtain ⟨w,e4,e5⟩:=rv.get (i:=j) (x:=V.ref ts[j]) (by rw [List.getElem?_map,List.getElem?_eq_getElem hj2]; rfl)
  rw [e'] at e4
  cases e4
  show v=Value.ref ((ts[j]?).getD 0)
  rw [List.getElem?_eq_getElem hj2]
  exact e5
 ·obtain ⟨t,et⟩:=at_ j p e
  obtain ⟨u,e4,e5,_⟩:=h3 j t p et e
  show s.heap.IsTuple ((ts[j]?).getD 0) #[(ks[j]?).getD .none,p.2]
  rw [et,e4]
  exact e5
 ·obtain ⟨t,et⟩:=at_ j p e
  obtain ⟨u,e4,_,e6⟩:=h3 j t p et e
  show (cx X.prog X.w).is p.1 ((ks[j]?).getD .none)=true
  rw [e4]
  exact e6
 ·rw [merged_nil_of_nodup all (by rw [tL h2]; exact hnd)] at hD
  have fr:=I.hok.fresh (Nat.le_refl s.heap.objs.size)
  exact ⟨.ref s.heap.objs.size,_,I.laid (t':=tk) (o:=.dK kvs) keep (Nat.le_refl _) (tm (by rw [← la]; exact zl) (beq_eq_false_iff_ne.mpr (Ne.symm (Nat.ne_of_lt I.big))) h2 hD),rfl,q _ fr⟩
def A9:R2:=fun x y H Q=>∃ a v,x=.ref a∧nE H a y (some v)∧Q v H
theorem v4 (hu:X.A.units + 1 < cLine):IxR X A9:=by
 intro value slice pins s σ H x y o i Q I rx ry h hs
 obtain ⟨a,v,rfl,g,q⟩:=h
 obtain rfl:o=Value.ref a:=rx
 have hT:=oS I g
 have h2:wpAny (model X.prog X.w) X.A (getItem (.ref a) i) (EP X pins σ Q) X.xe s:=rk hu I g ry fun w' s3 I3 rw'=>⟨v,H,I3,rw',q⟩
 unfold subscriptTail
 refine wpAny_bind ?_
 rw [getitemInPython_of_ne hT.not_modules]
 refine wpAny_bind (wpAny_specialOf hT PySem.F.slot_dict_getitem.lookup ?_)
 have fin:wpAny (model X.prog X.w) X.A (subscripted slice false (.ref a) i) (fun r s₃=>wpAny (model X.prog X.w) X.A (letTemporaryGo value (.ref a) r >>= fun _=>pure r) (EP X pins σ Q) X.xe s₃) X.xe s:=by
  rw [hs]
  exact wpAny_operating (wpAny_mono h2 (fun r s₃ h₃=>wpAny_bind (wpAny_letTemporaryGo (wpAny_pure h₃))) fun _ _ x=>x)
 first
  | exact wpAny_pure (wpAny_bind fin)
  | exact wpAny_bind (wpAny_pure (wpAny_bind fin))
  | exact wpAny_bind fin
theorem yU (hu:X.A.units + 1 < cLine):OpR X (compareOp .In) (fun x y H Q=>∃ a o,y=.ref a∧nE H a x o∧Q (.bl o.isSome) H):=by
 intro pins s σ H x y v u Q I rx ry h
 obtain ⟨a,o,rfl,g,q⟩:=h
 obtain rfl:u=Value.ref a:=ry
 exact AQ hu I g rx fun s3 I3=>⟨.bl o.isSome,H,I3,rfl,q⟩
end
end L2
namespace L2
open PySem PySem.Spec PyProof.Rows
section
variable {prog:Program} {w:World} {A:Around} {E:Value→Shared→Prop} {s:Shared} {a:Addr} {δ:Type} {R:δ→Value→Prop} {D:List (Str × δ)} {k:Str} {tk:Tok}
end
section
variable {X:Cx} {x:Str} {F:List (Str × List Str)}
theorem wC {K:PySem.W.Frag} {t:Addr} {xs:List V} {H:Hp} (h:SqT K (fun _=>none) t xs):SqT K H t xs:=by
 rcases h with (h | ⟨o,h⟩) | h
 ·cases h
 ·cases h
 ·exact .inr h
end
def Itc (x:Str):It:=⟨fun i _=>i < x.cps.size,fun i H v H'=>H'=H∧∃ c,x.cps[i]?=some c∧v=.str ⟨#[c]⟩,fun i _=>i=x.cps.size⟩
theorem nP {P:Program} {w:World} {K:PySem.W.Frag} {tg:Expr} {ty:String} {x:Str} {t:Tok} (it:Addr) (W:∀ A':Around,A'.handled=none→Walks P w A' it [it] [it] x.cps.size (SignAt x) (fun i h=>h.IsStrIter it ty x t i))
  (hself:∀ (A:Around) (i:Nat) (s:Shared) (Q:Value→Shared→Prop) (E:Value→Shared→Prop),s.heap.IsStrIter it ty x t i→Q (.ref it) s→wpAny (model P w) A (pyIter (.ref it)) Q E s)
  (hn:["enumerate","zip","dict_itemiterator","dict_reverseitemiterator","odict_iterator","itertools.zip_longest","itertools.pairwise"].contains ty=false):p0 P w K tg (Itc x) [it] it (fun i h=>h.IsStrIter it ty x t i) where
 mem:=by simp
 obj:=fun i h st b hb=>by
  obtain rfl:b=it:=by simpa using hb
  obtain ⟨o,e,c,d⟩:=st
  exact ⟨o,e,fun v z=>by rw [d] at z; cases z⟩
 keep:=fun i h h' st k=>by
  obtain ⟨o,e,r⟩:=st
  exact ⟨o,k it (by simp) o e,r⟩
 item:=by
  intro X hP hw hK hc i pins s σ H E I hf st hg
  subst hP hw hK
  obtain ⟨f0,f1,f2,f3,f4,f5⟩:=hf it (by simp)
  refine (W X.A (I.ok.hd hc)).item i s _ _ hg st fun v h' tk hv st' kp=>?_
  obtain ⟨c,u,e1,e2⟩:=hv
  have I1:Inv X pins σ H { s with heap:=h',toks:=tk }:=I.turned (t':=tk) (fun b o hb e=>kp b o (by simpa using hb) e) f0 f1 f3 f4 f5
  obtain ⟨o,e,cl,d⟩:=id st'
  exact ⟨v,rfl,qG (s:={ s with heap:=h',toks:=tk }) e cl d hn ⟨.str ⟨#[c]⟩,H,I1,⟨u,e2⟩,⟨rfl,c,e1,rfl⟩,st',fun b hb=>(hf b hb).1⟩⟩
 done:=by
  intro X hP hw hK hc i pins s σ H E I hf st hg
  subst hP hw hK
  obtain ⟨f0,f1,f2,f3,f4,f5⟩:=hf it (by simp)
  obtain rfl:i=x.cps.size:=hg
  exact (W X.A (I.ok.hd hc)).done s _ _ st fun h' tk kp=>⟨rfl,I.turned (t':=tk) (fun b o hb e=>kp b o (by simpa using hb) e) f0 f1 f3 f4 f5⟩
 self:=hself
section
variable {X:Cx} {tg:Expr}
theorem vt {l:Expr} {tl:TE} (hc:X.calm=true) (hl:PE X l tl):PI X tg l (fun σ H R=>tl σ H fun x H1=>(∃ a,x=.ref a∧(((∃ xs,SqL X.K H1 a xs)∧R (Itl X.K a) H1)∨((∃ xs,SqT X.K H1 a xs)∧R (Itt X.K a) H1)))∨∃ z,x=.str z∧R (Itc z) H1):=by
 intro pins s σ H R I h
 refine thn (hl pins s σ H _ I h) fun v s1 ⟨x,H1,I1,r1,q1⟩=>?_
 rcases q1 with ⟨a,e,q1⟩ | ⟨z,e,q⟩
 ·subst e
  cases r1
  rcases q1 with ⟨⟨xs,hq⟩,q⟩ | ⟨⟨xs,hq⟩,q⟩
  ·obtain ⟨its,rv,p,hz⟩:=I1.list hq
   refine wpAny_pyIter_list p.isList ?_
   refine ⟨s1.heap.objs.size,[s1.heap.objs.size],_,_,H1,rfl,I1.kept (t':=s1.toks) fun b o e=>Heap.get?_push_of_some _ e,rR a _,⟨_,Heap.get?_push_size _ rfl,rfl,rfl⟩,fun b hb=>?_,q⟩
   obtain rfl:b=s1.heap.objs.size:=by simpa using hb
   exact I1.fpOk (Nat.le_refl _) (I1.hok.fresh (Nat.le_refl _))
  ·obtain ⟨its,rv,p,hz⟩:=I1.tuple hq
   refine wpAny_pyIter_tuple (show s1.heap.IsTuple a its.toArray from p) ?_
   refine ⟨s1.heap.objs.size,[s1.heap.objs.size],_,_,H1,rfl,I1.kept (t':=s1.toks) fun b o e=>Heap.get?_push_of_some _ e,p7 a _,⟨_,Heap.get?_push_size _ rfl,rfl,rfl⟩,fun b hb=>?_,q⟩
   obtain rfl:b=s1.heap.objs.size:=by simpa using hb
   exact I1.fpOk (Nat.le_refl _) (I1.hok.fresh (Nat.le_refl _))
 ·subst e
  obtain ⟨t,rfl⟩:=r1
  have fp:∀ b∈[s1.heap.objs.size],kT X pins H1 b:=fun b hb=>by
   obtain rfl:b=s1.heap.objs.size:=by simpa using hb
   exact I1.fpOk (Nat.le_refl _) (I1.hok.fresh (Nat.le_refl _))
  cases ha:z.cps.all (· < 128)
  ·refine wpAny_pyIter_wide ha ?_
   exact ⟨s1.heap.objs.size,[s1.heap.objs.size],_,_,H1,rfl,I1.kept (t':=s1.toks) fun b o e=>Heap.get?_push_of_some _ e,nP _ (fun A' hA=>Walks.strWide hA _ z t) (fun A i s Q E st h=>wpAny_pyIter_striter_wide st h) (by decide),⟨_,Heap.get?_push_size _ rfl,rfl,rfl⟩,fp,q⟩
  ·refine wpAny_pyIter_ascii ha ?_
   exact ⟨s1.heap.objs.size,[s1.heap.objs.size],_,_,H1,rfl,I1.kept (t':=s1.toks) fun b o e=>Heap.get?_push_of_some _ e,nP _ (fun A' hA=>Walks.strAscii hA _ z t) (fun A i s Q E st h=>wpAny_pyIter_striter_ascii st h) (by decide),⟨_,Heap.get?_push_size _ rfl,rfl,rfl⟩,fp,q⟩
end
end L2
namespace L2
open PySem
def Ay (a C:Addr) (h:Heap):Prop:=∃ oe vs,h.get? a=some oe∧oe.cls=.ref C∧oe.data=.fields vs∧oe.dict=none
end L2
namespace L3
open PySem PySem.Spec PyProof.Rows L2
inductive D where
 | non | bl (b:Bool) | int (i:Int) | str (x:Str) | tup (ds:List D) | ref (a:Addr) | ty (n:String)
 | rl (ds:List D)
def RoL (K:PySem.W.Frag) (H:Hp) (a:Addr) (xs:List V):Prop:=(∃ o,H a=some (.frz o (.lst xs))) ∨
 ∃ (o:Obj) (its:Array Value) (n:Nat),K.lookup a=some o∧o.cls=.type "list"∧o.dict=none∧o.data=.seq its n∧its.size≤sizeLine∧bi xs its.toList
theorem RoL.sq {K:PySem.W.Frag} {H:Hp} {a:Addr} {xs:List V} (h:RoL K H a xs):SqL K H a xs:=by
 rcases h with ⟨o,h⟩ | h
 ·exact .inl (.inr ⟨o,h⟩)
 ·exact .inr h
mutual
def Has (K:PySem.W.Frag) (H:Hp):D→V→Prop
 | .non,v=>v=.non
 | .bl b,v=>v=.bl b
 | .int i,v=>v=.int i
 | .str x,v=>v=.str x
 | .ref a,v=>v=.ref a
 | .ty n,v=>v=.ty n
 | .tup ds,v=>∃ a xs,v=.ref a∧SqT K H a xs∧aT K H ds xs
 | .rl ds,v=>∃ a xs,v=.ref a∧RoL K H a xs∧aT K H ds xs
def aT (K:PySem.W.Frag) (H:Hp):List D→List V→Prop
 | [],xs=>xs=[]
 | d :: ds,xs=>∃ x r,xs=x :: r∧Has K H d x∧aT K H ds r
end
structure bH (K:PySem.W.Frag) (H H':Hp):Prop where
 t:∀ a xs,SqT K H a xs→SqT K H' a xs
 f:∀ a o xs,H a=some (.frz o (.lst xs))→H' a=some (.frz o (.lst xs))
theorem bH.refl {K:PySem.W.Frag} {H:Hp}:bH K H H:=⟨fun _ _ h=>h,fun _ _ _ h=>h⟩
theorem bH.trans {K:PySem.W.Frag} {H H1 H2:Hp} (a:bH K H H1) (b:bH K H1 H2):bH K H H2:=⟨fun c xs h=>b.t c xs (a.t c xs h),fun c o xs h=>b.f c o xs (a.f c o xs h)⟩
theorem bH.upd {K:PySem.W.Frag} {H:Hp} {p:Addr} {o:HO} (h:∀ xs,¬ Rd H p (.tup xs)) (h':∀ u xs,H p ≠ some (.frz u (.lst xs))):bH K H (upd H p o):=⟨fun a xs q=>by
 rcases q with q | q
 ·have ne:a ≠ p:=fun z=>h xs (z ▸ q)
  rcases q with q | ⟨u,q⟩
  ·exact .inl (.inl (by rw [aN ne]; exact q))
  ·exact .inl (.inr ⟨u,by rw [aN ne]; exact q⟩)
 ·exact .inr q,fun a u xs q=>by
 have ne:a ≠ p:=fun z=>h' u xs (z ▸ q)
 rw [aN ne]
 exact q⟩
theorem bH.new {K:PySem.W.Frag} {H:Hp} {p:Addr} {o:HO} (h:H p=none):bH K H (L2.upd H p o):=.upd (fun xs q=>by
 rcases q with q | ⟨u,q⟩ <;> (rw [h] at q; cases q)) fun u xs q=>by rw [h] at q; cases q
theorem RoL.mono {K:PySem.W.Frag} {H H':Hp} {a:Addr} {xs:List V} (e:bH K H H') (h:RoL K H a xs):RoL K H' a xs:=by
 rcases h with ⟨o,h⟩ | h
 ·exact .inl ⟨o,e.f a o xs h⟩
 ·exact .inr h
mutual
theorem Has.mono {K:PySem.W.Frag} {H H':Hp} (e:bH K H H'):∀ {d:D} {v:V},Has K H d v→Has K H' d v
 | .non,_,h=>h
 | .bl _,_,h=>h
 | .int _,_,h=>h
 | .str _,_,h=>h
 | .ref _,_,h=>h
 | .ty _,_,h=>h
 | .tup ds,v,h=>by
  unfold Has at h ⊢
  obtain ⟨a,xs,e1,e2,e3⟩:=h
  exact ⟨a,xs,e1,e.t _ _ e2,aT.mono e e3⟩
 | .rl ds,v,h=>by
  unfold Has at h ⊢
  obtain ⟨a,xs,e1,e2,e3⟩:=h
  exact ⟨a,xs,e1,e2.mono e,aT.mono e e3⟩
theorem aT.mono {K:PySem.W.Frag} {H H':Hp} (e:bH K H H'):∀ {ds:List D} {xs:List V},aT K H ds xs→aT K H' ds xs
 | [],_,h=>h
 | d :: ds,xs,h=>by
  unfold aT at h ⊢
  obtain ⟨x,r,e1,e2,e3⟩:=h
  exact ⟨x,r,e1,Has.mono e e2,aT.mono e e3⟩
end
section
variable {K:PySem.W.Frag} {H H':Hp}
theorem aT.nil:aT K H [] []:=by unfold aT; rfl
theorem aT.cons {d:D} {ds:List D} {x:V} {xs:List V} (a:Has K H d x) (b:aT K H ds xs):aT K H (d :: ds) (x :: xs):=by unfold aT; exact ⟨x,xs,rfl,a,b⟩
theorem aT.inv {d:D} {ds:List D} {xs:List V} (h:aT K H (d :: ds) xs):∃ x r,xs=x :: r∧Has K H d x∧aT K H ds r:=by unfold aT at h; exact h
theorem aT.nil_inv {xs:List V} (h:aT K H [] xs):xs=[]:=by unfold aT at h; exact h
theorem aT.length:∀ {ds:List D} {xs:List V},aT K H ds xs→ds.length=xs.length
 | [],_,h=>by rw [h.nil_inv]; rfl
 | d :: ds,_,h=>by
  obtain ⟨x,r,rfl,_,e⟩:=h.inv
  simp [aT.length e]
theorem aT.get:∀ {ds:List D} {xs:List V} {i:Nat} {d:D},aT K H ds xs→ds[i]?=some d→∃ x,xs[i]?=some x∧Has K H d x
 | [],_,_,_,_,e=>by simp at e
 | d :: ds,_,0,_,h,e=>by
  obtain ⟨x,r,rfl,a,_⟩:=h.inv
  simp at e
  subst e
  exact ⟨x,by simp,a⟩
 | d :: ds,_,i + 1,_,h,e=>by
  obtain ⟨x,r,rfl,_,b⟩:=h.inv
  obtain ⟨y,e1,e2⟩:=aT.get b (by simpa using e)
  exact ⟨y,by simpa using e1,e2⟩
theorem aT.append:∀ {ds es:List D} {xs ys:List V},aT K H ds xs→aT K H es ys→aT K H (ds ++ es) (xs ++ ys)
 | [],_,_,_,h,g=>by rw [h.nil_inv]; exact g
 | d :: ds,_,_,_,h,g=>by
  obtain ⟨x,r,rfl,a,b⟩:=h.inv
  exact .cons a (aT.append b g)
theorem aT.take:∀ {ds:List D} {xs:List V} (n:Nat),aT K H ds xs→aT K H (ds.take n) (xs.take n)
 | _,_,0,_=>by simp only [List.take_zero]; exact .nil
 | [],_,n + 1,h=>by rw [h.nil_inv]; exact .nil
 | d :: ds,_,n + 1,h=>by
  obtain ⟨x,r,rfl,a,b⟩:=h.inv
  exact .cons a (aT.take n b)
theorem aT.drop:∀ {ds:List D} {xs:List V} (n:Nat),aT K H ds xs→aT K H (ds.drop n) (xs.drop n)
 | _,_,0,h=>h
 | [],_,n + 1,h=>by rw [h.nil_inv]; exact .nil
 | d :: ds,_,n + 1,h=>by
  obtain ⟨x,r,rfl,a,b⟩:=h.inv
  exact aT.drop n b
theorem aT.snoc {ds:List D} {xs:List V} {d:D} {x:V} (h:aT K H ds xs) (a:Has K H d x):aT K H (ds ++ [d]) (xs ++ [x]):=h.append (.cons a .nil)
theorem aT.ints:∀ {ns:List Int},aT K H (ns.map D.int) (ns.map V.int)
 | []=>.nil
 | n :: r=>.cons (by unfold Has; rfl) aT.ints
theorem Has.tup {ds:List D} {a:Addr} {xs:List V} (q:SqT K H a xs) (h:aT K H ds xs):Has K H (.tup ds) (.ref a):=by unfold Has; exact ⟨a,xs,rfl,q,h⟩
theorem Has.tup_inv {ds:List D} {v:V} (h:Has K H (.tup ds) v):∃ a xs,v=.ref a∧SqT K H a xs∧aT K H ds xs:=by unfold Has at h; exact h
theorem Has.rl_inv {ds:List D} {v:V} (h:Has K H (.rl ds) v):∃ a xs,v=.ref a∧RoL K H a xs∧aT K H ds xs:=by unfold Has at h; exact h
theorem Has.int {i:Int}:Has K H (.int i) (.int i):=by unfold Has; rfl
theorem Has.bl {i:Bool}:Has K H (.bl i) (.bl i):=by unfold Has; rfl
theorem Has.str {i:Str}:Has K H (.str i) (.str i):=by unfold Has; rfl
theorem Has.ref {i:Addr}:Has K H (.ref i) (.ref i):=by unfold Has; rfl
theorem Has.non:Has K H .non .non:=by unfold Has; rfl
theorem Has.int_inv {i:Int} {v:V} (h:Has K H (.int i) v):v=.int i:=by unfold Has at h; exact h
theorem Has.bl_inv {i:Bool} {v:V} (h:Has K H (.bl i) v):v=.bl i:=by unfold Has at h; exact h
theorem Has.str_inv {i:Str} {v:V} (h:Has K H (.str i) v):v=.str i:=by unfold Has at h; exact h
theorem Has.ref_inv {i:Addr} {v:V} (h:Has K H (.ref i) v):v=.ref i:=by unfold Has at h; exact h
theorem Has.ty_inv {i:String} {v:V} (h:Has K H (.ty i) v):v=.ty i:=by unfold Has at h; exact h
theorem Has.non_inv {v:V} (h:Has K H .non v):v=.non:=by unfold Has at h; exact h
end
inductive gz where
 | lst (ds:List D)
 | ins (C:Addr) (fs:List (Str × D))
 | dk (kvs:List (Key × D))
 | exc (C:Addr)
abbrev Mp:=Addr→Option gz
def au (M:Mp) (a:Addr) (c:gz):Mp:=fun b=>if b=a then some c else M b
theorem aZ {M:Mp} {a:Addr} {c:gz}:au M a c a=some c:=by unfold au; rw [if_pos rfl]
theorem fv {M:Mp} {a b:Addr} {c:gz} (h:b ≠ a):au M a c b=M b:=by unfold au; rw [if_neg h]
theorem sA {M:Mp} {a:Addr} {c d:gz}:au (au M a c) a d=au M a d:=by
 funext b; unfold au; split <;> rfl
theorem neM {M:Mp} {a b:Addr} {c:gz} (h:M a=some c) (h':M b=none):a ≠ b:=by
 intro e; subst e; rw [h] at h'; cases h'
def kN (K:PySem.W.Frag) (H:Hp) (fs:List (Str × D)) (vs:List (Str × V)):Prop:=vs.map (·.1)=fs.map (·.1)∧aT K H (fs.map (·.2)) (vs.map (·.2))
def hU (K:PySem.W.Frag) (H:Hp) (a:Addr):gz→Prop
 | .lst ds=>∃ xs,H a=some (.lst xs)∧aT K H ds xs
 | .ins C fs=>∃ dx vs,H a=some (.ins C dx vs)∧Cls K C∧(∀ f,f∈fs.map (·.1)→bG K C f)∧kN K H fs vs
 | .dk kvs=>∃ vs,H a=some (.dK vs)∧vs.map (·.1)=kvs.map (·.1)∧aT K H (kvs.map (·.2)) (vs.map (·.2))
 | .exc C=>H a=some (.ext (Ay a C))
def HM (K:PySem.W.Frag) (H:Hp) (M:Mp):Prop:=∀ a c,M a=some c→hU K H a c
section
variable {K:PySem.W.Frag} {H H':Hp} {M:Mp}
theorem kN.mono {fs:List (Str × D)} {vs:List (Str × V)} (e:bH K H H') (h:kN K H fs vs):kN K H' fs vs:=⟨h.1,h.2.mono e⟩
theorem hU.keep {a:Addr} {c:gz} (e:bH K H H') (k:H' a=H a) (h:hU K H a c):hU K H' a c:=by
 cases c with
 | lst ds=>obtain ⟨xs,e1,e2⟩:=h; exact ⟨xs,by rw [k]; exact e1,e2.mono e⟩
 | ins C fs=>obtain ⟨dx,vs,e1,c,n,e2⟩:=h; exact ⟨dx,vs,by rw [k]; exact e1,c,n,e2.mono e⟩
 | dk kvs=>obtain ⟨vs,e1,e2,e3⟩:=h; exact ⟨vs,by rw [k]; exact e1,e2,e3.mono e⟩
 | exc C=>exact k.trans h
theorem hU.there {a:Addr} {c:gz} (h:hU K H a c):∃ o,H a=some o∧(∀ xs,¬ Rd H a (.tup xs))∧∀ u xs,H a ≠ some (.frz u (.lst xs)):=by
 have go:∀ o,H a=some o→(∀ xs,o ≠ .tup xs)→(∀ u v,o ≠ .frz u v)→∃ o,H a=some o∧(∀ xs,¬ Rd H a (.tup xs))∧∀ u xs,H a ≠ some (.frz u (.lst xs)):=fun o e n1 n2=>⟨o,e,fun xs q=>by
  rcases q with q | ⟨u,q⟩
  ·rw [e] at q; exact n1 xs (Option.some.inj q)
  ·rw [e] at q; exact n2 u _ (Option.some.inj q),fun u xs q=>by rw [e] at q; exact n2 u _ (Option.some.inj q)⟩
 cases c with
 | lst ds=>obtain ⟨xs,e1,e2⟩:=h; exact go _ e1 (fun _ z=>by cases z) fun _ _ z=>by cases z
 | ins C fs=>obtain ⟨dx,vs,e1,e2⟩:=h; exact go _ e1 (fun _ z=>by cases z) fun _ _ z=>by cases z
 | dk kvs=>obtain ⟨vs,e1,e2,e3⟩:=h; exact go _ e1 (fun _ z=>by cases z) fun _ _ z=>by cases z
 | exc C=>exact go _ h (fun _ z=>by cases z) fun _ _ z=>by cases z
theorem HM.fresh (h:HM K H M) {p:Addr} (n:H p=none):M p=none:=by
 cases e:M p with
 | none=>rfl
 | some c =>
  obtain ⟨o,q,_⟩:=(h p c e).there
  rw [n] at q; cases q
theorem HM.keep (h:HM K H M) (e:bH K H H') (k:∀ a c,M a=some c→H' a=H a):HM K H' M:=fun a c q=>(h a c q).keep e (k a c q)
theorem HM.add (h:HM K H M) {p:Addr} {o:HO} (n:H p=none):HM K (upd H p o) M:=h.keep (.new n) fun a c q=>by
 obtain ⟨u,e,_⟩:=(h a c q).there
 rw [aN (bE e n)]
theorem HM.new (h:HM K H M) {p:Addr} {o:HO} {c:gz} (n:H p=none) (ok:hU K (upd H p o) p c):HM K (upd H p o) (au M p c):=fun a d q=>by
 by_cases e:a=p
 ·subst e; rw [aZ] at q; cases q; exact ok
 ·rw [fv e] at q
  exact h.add n a d q
theorem HM.put (h:HM K H M) {p:Addr} {o:HO} {c c0:gz} (e0:M p=some c0) (ok:bH K H (upd H p o)→hU K (upd H p o) p c):HM K (upd H p o) (au M p c)∧bH K H (upd H p o):=by
 obtain ⟨u,eu,nt,nf⟩:=(h p c0 e0).there
 have x:bH K H (upd H p o):=.upd nt nf
 refine ⟨fun a d q=>?_,x⟩
 by_cases e:a=p
 ·subst e; rw [aZ] at q; cases q; exact ok x
 ·rw [fv e] at q
  exact (h a d q).keep x (aN e)
end
abbrev St:=L2.St
abbrev DSt:=List (Option D)
abbrev DK:=D→Mp→Prop
abbrev T3:=DSt→Mp→DK→Prop
abbrev T3T:=DSt→Mp→(Bool→Mp→Prop)→Prop
abbrev T3A:=DSt→Mp→(List D→Mp→Prop)→Prop
structure ow where
 nx:DSt→Mp→Prop
 rt:DK
 bk:DSt→Mp→Prop:=fun _ _=>False
 ct:DSt→Mp→Prop:=fun _ _=>False
abbrev T3S:=ow→DSt→Mp→Prop
def St3 (K:PySem.W.Frag) (H:Hp) (σ:St) (δ:DSt):Prop:=∀ (i:Nat) (d:D),δ[i]?=some (some d)→∃ v,σ[i]?=some (some v)∧Has K H d v
theorem St3.mono {K:PySem.W.Frag} {H H':Hp} {σ:St} {δ:DSt} (e:bH K H H') (h:St3 K H σ δ):St3 K H' σ δ:=fun i d q=>by
 obtain ⟨v,e1,e2⟩:=h i d q
 exact ⟨v,e1,e2.mono e⟩
theorem St3.set {K:PySem.W.Frag} {H:Hp} {σ:St} {δ:DSt} {i:Nat} {d:D} {v:V} (h:St3 K H σ δ) (hv:Has K H d v) (hi:i < σ.length):St3 K H (σ.set i (some v)) (δ.set i (some d)):=fun j e q=>by
 by_cases hj:j=i
 ·subst hj
  rw [List.getElem?_set_self hi]
  by_cases hl:j < δ.length
  ·rw [List.getElem?_set_self hl] at q
   cases q
   exact ⟨v,rfl,hv⟩
  ·rw [List.getElem?_eq_none (by simpa using hl)] at q
   cases q
 ·rw [List.getElem?_set_ne (Ne.symm hj)] at q ⊢
  exact h j e q
def lo (K:PySem.W.Frag) (t:T3):TE:=fun σ H Q'=>∃ δ M Q,St3 K H σ δ∧HM K H M∧t δ M Q∧∀ v H' d M',Has K H' d v→HM K H' M'→bH K H H'→Q d M'→Q' v H'
def loT (K:PySem.W.Frag) (t:T3T):TT:=fun σ H Q'=>∃ δ M Q,St3 K H σ δ∧HM K H M∧t δ M Q∧∀ b H' M',HM K H' M'→bH K H H'→Q b M'→Q' b H'
def loA (K:PySem.W.Frag) (t:T3A):TA:=fun σ H Q'=>∃ δ M Q,St3 K H σ δ∧HM K H M∧t δ M Q∧∀ vs H' ds M',aT K H' ds vs→HM K H' M'→bH K H H'→Q ds M'→Q' vs H'
def loS (K:PySem.W.Frag) (t:T3S):TS:=fun D' σ H=>∃ δ M D,St3 K H σ δ∧HM K H M∧t D δ M∧(∀ σ' H' δ' M',St3 K H' σ' δ'→HM K H' M'→bH K H H'→σ'.length=σ.length→D.nx δ' M'→D'.nx σ' H') ∧
 (∀ v H' d M',Has K H' d v→HM K H' M'→bH K H H'→D.rt d M'→D'.rt v H')∧(∀ σ' H' δ' M',St3 K H' σ' δ'→HM K H' M'→bH K H H'→σ'.length=σ.length→D.bk δ' M'→D'.bk σ' H') ∧
 (∀ σ' H' δ' M',St3 K H' σ' δ'→HM K H' M'→bH K H H'→σ'.length=σ.length→D.ct δ' M'→D'.ct σ' H')
def E3 (X:Cx) (e:Expr) (t:T3):Prop:=PE X e (lo X.K t)
def B3 (X:Cx) (e:Expr) (t:T3T):Prop:=PT X e (loT X.K t)
def A3 (X:Cx) (es:List Expr) (t:T3A):Prop:=PA X es (loA X.K t)
def S3 (X:Cx) (st:Stmt) (t:T3S):Prop:=PS X st (loS X.K t)
def Ss3 (X:Cx) (st:List Stmt) (t:T3S):Prop:=PSs X st (loS X.K t)
theorem PE.mono {X:Cx} {e:Expr} {t t':TE} (h:PE X e t) (m:∀ σ H Q,t' σ H Q→t σ H Q):PE X e t':=fun pins s σ H Q I q=>h pins s σ H Q I (m σ H Q q)
theorem PT.mono {X:Cx} {e:Expr} {t t':TT} (h:PT X e t) (m:∀ σ H Q,t' σ H Q→t σ H Q):PT X e t':=fun pins s σ H Q I q=>h pins s σ H Q I (m σ H Q q)
theorem PA.mono {X:Cx} {e:List Expr} {t t':TA} (h:PA X e t) (m:∀ σ H Q,t' σ H Q→t σ H Q):PA X e t':=fun pos pins s σ H Q I q=>h pos pins s σ H Q I (m σ H Q q)
theorem PS.mono {X:Cx} {e:Stmt} {t t':TS} (h:PS X e t) (m:∀ D σ H,t' D σ H→t D σ H):PS X e t':=fun pins s σ H D I q=>h pins s σ H D I (m D σ H q)
theorem PSs.mono {X:Cx} {e:List Stmt} {t t':TS} (h:PSs X e t) (m:∀ D σ H,t' D σ H→t D σ H):PSs X e t':=fun pins s σ H D I q=>h pins s σ H D I (m D σ H q)
theorem PS.monoL {X:Cx} {e:Stmt} {t t':TS} (h:PS X e t) (m:∀ D σ H,σ.length=X.N.length→t' D σ H→t D σ H):PS X e t':=fun pins s σ H D I q=>h pins s σ H D I (m D σ H I.len q)
theorem gh {K:PySem.W.Frag} {H H1:Hp} {Q':VK} {Q:DK} (x:bH K H H1) (f:∀ v H' d M',Has K H' d v→HM K H' M'→bH K H H'→Q d M'→Q' v H'):∀ v H' d M',Has K H' d v→HM K H' M'→bH K H1 H'→Q d M'→Q' v H' :=
 fun v H' d M' a b c e=>f v H' d M' a b (x.trans c) e
section
variable {X:Cx} {pos:Pos}
def v3 (i:Nat):T3:=fun δ M Q=>(δ.getD i none).elim False fun d=>Q d M
theorem re {δ:DSt} {i:Nat} {P:D→Prop} (h:(δ.getD i none).elim False P):∃ d,δ[i]?=some (some d)∧P d:=by
 cases e:δ[i]? with
 | none=>rw [List.getD_eq_getElem?_getD,e] at h; exact h.elim
 | some o =>
  rw [List.getD_eq_getElem?_getD,e] at h
  cases o with
  | none=>exact h.elim
  | some d=>exact ⟨d,rfl,h⟩
theorem aa (i:Nat) {x:Str} (h:PE X (.Name x pos) (tV i)):E3 X (.Name x pos) (v3 i):=PE.mono h fun σ H Q' ⟨δ,M,Q,hs,hm,ht,k⟩=>by
 obtain ⟨d,e,q⟩:=re ht
 obtain ⟨v,e1,e2⟩:=hs i d e
 exact ⟨v,e1,k v H d M e2 hm .refl q⟩
def c3 (d:D):T3:=fun _ M Q=>Q d M
theorem ao {i j}:E3 X (.Constant (.int i) j pos) (c3 (.int i)):=PE.mono xP fun σ H Q' ⟨δ,M,Q,hs,hm,ht,k⟩=>k _ H _ M .int hm .refl ht
theorem kI {i j}:E3 X (.Constant (.bool i) j pos) (c3 (.bl i)):=PE.mono zW fun σ H Q' ⟨δ,M,Q,hs,hm,ht,k⟩=>k _ H _ M .bl hm .refl ht
theorem ar {i j}:E3 X (.Constant (.str i) j pos) (c3 (.str i)):=PE.mono yV fun σ H Q' ⟨δ,M,Q,hs,hm,ht,k⟩=>k _ H _ M .str hm .refl ht
theorem eB {j}:E3 X (.Constant .none j pos) (c3 .non):=PE.mono yX fun σ H Q' ⟨δ,M,Q,hs,hm,ht,k⟩=>k _ H _ M .non hm .refl ht
end
def lstM (M:Mp) (a:Addr):Option (List D):=match M a with
 | some (.lst ds)=>some ds
 | _=>none
def iU (x:Str) (n:Int):Str:=⟨(List.replicate n.toNat x.cps).foldl (· ++ ·) #[]⟩
def opD (op:Operator) (x y:D) (M:Mp) (Q:DK):Prop:=match op,x,y with
 | .Add,.int i,.int j=>Q (.int (i + j)) M
 | .Add,.str i,.str j=>i.length + j.length≤sizeLine∧Q (.str (i ++ j)) M
 | .Add,.tup i,.tup j=>i ≠ []∧i.length + j.length≤sizeLine∧Q (.tup (i ++ j)) M
 | .Add,.ref a,.ref b=>(lstM M a).elim False fun i=>(lstM M b).elim False fun j=>i.length + j.length≤sizeLine∧∀ p,M p=none→Q (.ref p) (au M p (.lst (i ++ j)))
 | .Add,.rl i,.ref b=>(lstM M b).elim False fun j=>i.length + j.length≤sizeLine∧∀ p,M p=none→Q (.ref p) (au M p (.lst (i ++ j)))
 | .Sub,.int i,.int j=>Q (.int (i - j)) M
 | .Mult,.int i,.int j=>oR i j∧Q (.int (i * j)) M
 | .Mult,.str i,.int j=>(j < 4096∧-4096 < j∧i.length < 4096)∧Q (.str (iU i j)) M
 | .FloorDiv,.int i,.int j=>Ai i j∧Q (.int (i / j)) M
 | .Mod,.int i,.int j=>0 < j∧Q (.int (i % j)) M
 | _,_,_=>False
def o3 (op:Operator) (ta tb:T3):T3:=fun δ M Q=>ta δ M fun x M1=>tb δ M1 fun y M2=>opD op x y M2 Q
end L3
namespace L3
open PySem PySem.Spec PyProof.Rows L2
def Up (K:PySem.W.Frag) (H:Hp) (Q':VK) (Q:DK):Prop:=∀ v H' d M',Has K H' d v→HM K H' M'→bH K H H'→Q d M'→Q' v H'
section
variable {X:Cx}
theorem bb {K:PySem.W.Frag} {H:Hp} {M:Mp} {a:Addr} {ds:List D} (hm:HM K H M) (h:lstM M a=some ds):∃ xs,SqL K H a xs∧aT K H ds xs∧Rd H a (.lst xs):=by
 unfold lstM at h
 cases e:M a with
 | none=>rw [e] at h; cases h
 | some c =>
  rw [e] at h
  have ok:=hm a c e
  cases c with
  | lst es=>cases h; obtain ⟨xs,e1,e2⟩:=ok; exact ⟨xs,.inl (.inl e1),e2,.inl e1⟩
  | ins _ _=>cases h
  | dk _=>cases h
  | exc _=>cases h
theorem bY {α:Type} {o:Option α} {P:α→Prop} (h:o.elim False P):∃ a,o=some a∧P a:=by
 cases o with
 | none=>exact h.elim
 | some a=>exact ⟨a,rfl,h⟩
theorem qW:OpR X (binaryOp .Add) (fun x y H Q=>∃ l b xs zs,x=.ref l∧y=.ref b∧SqL X.K H l xs∧SqL X.K H b zs∧xs.length + zs.length≤sizeLine∧∀ p,H p=none→Q (.ref p) (upd H p (.lst (xs ++ zs)))):=by
 intro pins s σ H x y v u Q I rx ry h
 obtain ⟨l,b,xs,zs,rfl,rfl,hH,hB,hz,q⟩:=h
 cases rx
 cases ry
 obtain ⟨its,r,⟨⟨c1,d1,t1,sl1⟩,n,g1,e1,_,f1⟩,_⟩:=I.list hH
 obtain ⟨jts,r2,⟨⟨c2,d2,t2,sl2⟩,m,g2,e2,_,f2⟩,_⟩:=I.list hB
 simp only at e1 f1 e2 f2
 subst e1 f1 e2 f2
 have hl:=r.length
 have hl2:=r2.length
 refine concat_meets ⟨_,g1,rfl⟩ ⟨_,g2,rfl⟩ noFill_list_add seq_list_add PySem.F.slot_list_add PySem.F.entry_list_add (PySem.F.args_list_add_2 _ _) (list_addW l b its.toArray jts.toArray n m d1 d2 sl1 sl2 (by rw [List.size_toArray,List.size_toArray]; omega)) ⟨g1,g2,?_⟩
 have ea:its.toArray ++ jts.toArray=(its ++ jts).toArray:=by simp
 rw [ea]
 exact ⟨.ref _,_,I.lnew (t':=s.toks) (r.append r2) (by rw [List.length_append]; omega),rfl,q _ I.fresh⟩
theorem qv (x:Array Nat):∀ k,((List.replicate k x).foldl (· ++ ·) #[]:Array Nat).size=k * x.size:=by
 have go:∀ (k:Nat) (acc:Array Nat),((List.replicate k x).foldl (· ++ ·) acc).size=acc.size + k * x.size:=by
  intro k
  induction k with
  | zero=>intro acc; simp
  | succ k ih=>intro acc; rw [List.replicate_succ,List.foldl_cons,ih,Array.size_append,Nat.succ_mul]; omega
 intro k
 rw [go]
 simp
theorem vU:OpR X (binaryOp .Mult) (fun x y H Q=>∃ i j,x=.str i∧y=.int j∧(j < 4096∧-4096 < j∧i.length < 4096)∧Q (.str (iU i j)) H):=by
 intro pins s σ H x y v u Q I rx ry h
 obtain ⟨i,j,rfl,rfl,⟨h1,h2,h3⟩,q⟩:=h
 obtain ⟨t,rfl⟩:=rx
 obtain ⟨t',rfl⟩:=ry
 refine PySem.P.mul_str ?_ ?_ ?_ ?_
 ·rw [decide_eq_false (by omega),decide_eq_false (by omega)]; rfl
 ·intro h0 _
  have:(4096:Int)≤(2 ^ 63 - 1) / j:=by
   have:(4096:Int) * j≤2 ^ 63 - 1:=by omega
   exact (Int.le_ediv_iff_mul_le (by omega)).mpr this
  omega
 ·intro h0 _
  have hm:i.length * j.toNat≤4096 * 4096:=Nat.mul_le_mul (by omega) (by omega)
  have hz:sizeLine=16777216:=sizeLine_eq
  unfold Builtin.Str.tooLong
  exact decide_eq_false (by omega)
 ·by_cases h0:j < 1
  ·rw [if_pos h0]
   have e:iU i j=Str.empty:=by
    unfold iU
    rw [show j.toNat=0 by omega]
    rfl
   rw [e] at q
   exact ⟨by decide,⟨.str Str.empty,H,I.tok _,⟨_,rfl⟩,q⟩⟩
  ·rw [if_neg h0]
   by_cases hj:(j == 1 || i.length == 0)=true
   ·rw [if_pos hj]
    have e:iU i j=i:=by
     have hj':j=1∨i.length=0:=by simpa using hj
     unfold iU
     rcases hj' with z | z
     ·subst z
      show (⟨#[] ++ i.cps⟩:Str)=i
      simp
     ·have ec:i.cps=#[]:=Array.size_eq_zero_iff.mp z
      have er:∀ k:Nat,((List.replicate k (#[]:Array Nat)).foldl (· ++ ·) #[]:Array Nat)=#[]:=by
       intro k
       induction k with
       | zero=>rfl
       | succ k ih=>rw [List.replicate_succ,List.foldl_cons]; simpa using ih
      rw [ec,er,← ec]
    rw [e] at q
    exact ⟨.str i,H,I,⟨t,rfl⟩,q⟩
   ·rw [if_neg hj]
    refine ⟨?_,⟨.str _,H,I.tok _,⟨_,rfl⟩,q⟩⟩
    have hz:sizeLine=16777216:=sizeLine_eq
    have hm:j.toNat * i.length≤4096 * 4096:=Nat.mul_le_mul (by omega) (by omega)
    show ((List.replicate j.toNat i.cps).foldl (· ++ ·) #[]:Array Nat).size≤_
    rw [qv]
    have hm':j.toNat * i.cps.size≤4096 * 4096:=hm
    omega
def R3 (K:PySem.W.Frag) (f:D→D→Mp→DK→Prop):R2:=fun vx vy H Q'=>∃ x y M Q,Has K H x vx∧Has K H y vy∧HM K H M∧f x y M Q∧Up K H Q' Q
theorem op3 (op:Operator):OpR X (binaryOp op) (R3 X.K (opD op)):=by
 intro pins s σ H vx vy v u Q' I rx ry h
 obtain ⟨x,y,M,Q,hx,hy,hm,q,k⟩:=h
 unfold opD at q
 split at q
 ·cases hx.int_inv; cases hy.int_inv
  exact yG pins s σ H _ _ v u Q' I rx ry ⟨_,_,rfl,rfl,k _ _ _ _ .int hm .refl q⟩
 ·cases hx.str_inv; cases hy.str_inv
  exact qp pins s σ H _ _ v u Q' I rx ry ⟨_,_,rfl,rfl,q.1,k _ _ _ _ .str hm .refl q.2⟩
 ·rename_i i j
  obtain ⟨q1,q2,q3⟩:=q
  obtain ⟨a,xs,rfl,ha,ha'⟩:=hx.tup_inv
  obtain ⟨b,ys,rfl,hb,hb'⟩:=hy.tup_inv
  have l1:=ha'.length
  have l2:=hb'.length
  refine wn pins s σ H _ _ v u Q' I rx ry ⟨a,b,xs,ys,rfl,rfl,ha,hb,fun z=>q1 (by rw [z] at l1; exact List.length_eq_zero_iff.mp l1),by omega,fun z=>?_,fun z p hp=>?_⟩
  ·refine k _ _ _ _ (.tup ha ?_) hm .refl q3
   rw [z] at hb'
   have e0:j=[]:=List.length_eq_zero_iff.mp (by simpa using hb'.length)
   rw [e0,List.append_nil]
   exact ha'
  ·have e:bH X.K H (upd H p (.tup (xs ++ ys))):=.new hp
   exact k _ _ _ _ (.tup (.of aU) ((ha'.append hb').mono e)) (hm.add hp) e q3
 ·obtain ⟨i,ei,q⟩:=bY q
  obtain ⟨j,ej,q1,q2⟩:=bY q
  cases hx.ref_inv; cases hy.ref_inv
  obtain ⟨xs,rx',hxs,_⟩:=bb hm ei
  obtain ⟨ys,ry',hys,_⟩:=bb hm ej
  have l1:=hxs.length
  have l2:=hys.length
  refine qW pins s σ H _ _ v u Q' I rx ry ⟨_,_,xs,ys,rfl,rfl,rx',ry',by omega,fun p hp=>?_⟩
  have e:bH X.K H (upd H p (.lst (xs ++ ys))):=.new hp
  exact k _ _ _ _ .ref (hm.new (c:=.lst (i ++ j)) hp ⟨_,aU,(hxs.append hys).mono e⟩) e (q2 p (hm.fresh hp))
 ·obtain ⟨j,ej,q1,q2⟩:=bY q
  obtain ⟨l,xs,rfl,rx',hxs⟩:=hx.rl_inv
  cases hy.ref_inv
  obtain ⟨ys,ry',hys,_⟩:=bb hm ej
  have l1:=hxs.length
  have l2:=hys.length
  refine qW pins s σ H _ _ v u Q' I rx ry ⟨_,_,xs,ys,rfl,rfl,rx'.sq,ry',by omega,fun p hp=>?_⟩
  have e:bH X.K H (upd H p (.lst (xs ++ ys))):=.new hp
  exact k _ _ _ _ .ref (hm.new (c:=.lst (_ ++ j)) hp ⟨_,aU,(hxs.append hys).mono e⟩) e (q2 p (hm.fresh hp))
 ·cases hx.int_inv; cases hy.int_inv
  exact xL pins s σ H _ _ v u Q' I rx ry ⟨_,_,rfl,rfl,k _ _ _ _ .int hm .refl q⟩
 ·cases hx.int_inv; cases hy.int_inv
  exact yL pins s σ H _ _ v u Q' I rx ry ⟨_,_,rfl,rfl,q.1,k _ _ _ _ .int hm .refl q.2⟩
 ·cases hx.str_inv; cases hy.int_inv
  exact vU pins s σ H _ _ v u Q' I rx ry ⟨_,_,rfl,rfl,q.1,k _ _ _ _ .str hm .refl q.2⟩
 ·cases hx.int_inv; cases hy.int_inv
  exact wJ pins s σ H _ _ v u Q' I rx ry ⟨_,_,rfl,rfl,q.1,k _ _ _ _ .int hm .refl q.2⟩
 ·cases hx.int_inv; cases hy.int_inv
  exact xy pins s σ H _ _ v u Q' I rx ry ⟨_,_,rfl,rfl,q.1,k _ _ _ _ .int hm .refl q.2⟩
 ·exact q.elim
variable {a b:Expr} {ta tb:T3} {pos:Pos}
theorem r9 {f:D→D→Mp→DK→Prop}:∀ σ H Q',lo X.K (fun δ M Q=>ta δ M fun x M1=>tb δ M1 fun y M2=>f x y M2 Q) σ H Q'→tOp (R3 X.K f) (lo X.K ta) (lo X.K tb) σ H Q':=fun σ H Q' ⟨δ,M,Q,hs,hm,ht,k⟩ =>
 ⟨δ,M,_,hs,hm,ht,fun v H1 x M1 hx hm1 e1 q1=>⟨δ,M1,_,hs.mono e1,hm1,q1,fun u H2 y M2 hy hm2 e2 q2=>⟨x,y,M2,Q,hx.mono e2,hy,hm2,q2,gh (e1.trans e2) k⟩⟩⟩
theorem bt {op:Operator} (ha:E3 X a ta) (hb:E3 X b tb):E3 X (.BinOp a op b pos) (o3 op ta tb):=PE.mono (Ar (op3 op) ha hb) r9
end
def di (f:D→D→Option Bool):List D→List D→Option Bool
 | x :: a,y :: b=>(f x y).bind fun p=>(di f a b).map fun q=>p && q
 | _,_=>some true
def eqD (M:Mp):Nat→D→D→Option Bool
 | 0,_,_=>none
 | n + 1,x,y=>match x,y with
  | .non,.non=>some true
  | .bl a,.bl b=>some (a == b)
  | .int a,.int b=>some (a == b)
  | .str a,.str b=>some (a == b)
  | .non,.bl _=>some false
  | .non,.int _=>some false
  | .non,.str _=>some false
  | .bl _,.non=>some false
  | .bl _,.str _=>some false
  | .int _,.non=>some false
  | .int _,.str _=>some false
  | .str _,.non=>some false
  | .str _,.bl _=>some false
  | .str _,.int _=>some false
  | .tup a,.tup b=>(di (eqD M n) a b).map fun p=>p && a.length == b.length
  | .ref a,.ref b=>(lstM M a).bind fun i=>(lstM M b).bind fun j=>if i.length=j.length then di (eqD M n) i j else some false
  | _,_=>none
section
variable {X:Cx} {pins:List (Addr × Obj)} {σ:St} {H:Hp} {s:Shared} {M:Mp}
theorem iN {f:D→D→Option Bool}:∀ {ds es:List D} {xs:List V} {b:Bool},aT X.K H ds xs→aT X.K H es xs→(∀ x y v b,Has X.K H x v→Has X.K H y v→f x y=some b→b=true)→di f ds es=some b→b=true
 | [],[],_,_,_,_,_,e=>(Option.some.inj e).symm
 | [],_ :: _,_,_,h,g,_,_=>by
  have h1:=h.length
  have h2:=g.length
  rw [← h1] at h2
  simp at h2
 | _ :: _,[],_,_,h,g,_,_=>by
  have h1:=h.length
  have h2:=g.length
  rw [← h1] at h2
  simp at h2
 | d :: ds,e :: es,xs,b,h,g,k,q=>by
  obtain ⟨x,r,rfl,h1,h2⟩:=h.inv
  obtain ⟨x',r',e',g1,g2⟩:=g.inv
  cases e'
  unfold di at q
  cases p1:f d e with
  | none=>rw [p1] at q; cases q
  | some b1 =>
   rw [p1] at q
   cases p2:di f ds es with
   | none=>rw [p2] at q; cases q
   | some b2 =>
    rw [p2] at q
    have q':(b1 && b2)=b:=Option.some.inj q
    rw [← q',k _ _ _ _ h1 g1 p1,iN h2 g2 k p2]
    rfl
theorem jb (I:Inv X pins σ H s) (hm:HM X.K H M):∀ (n:Nat) (x y:D) (v:V) (b:Bool),Has X.K H x v→Has X.K H y v→eqD M n x y=some b→b=true
 | 0,_,_,_,_,_,_,e=>by cases e
 | n + 1,x,y,v,b,hx,hy,e=>by
  unfold eqD at e
  split at e
  ·exact (Option.some.inj e).symm
  ·rw [hx.bl_inv] at hy; cases hy.bl_inv; exact (Option.some.inj e).symm.trans (by simp)
  ·rw [hx.int_inv] at hy; cases hy.int_inv; exact (Option.some.inj e).symm.trans (by simp)
  ·rw [hx.str_inv] at hy; cases hy.str_inv; exact (Option.some.inj e).symm.trans (by simp)
  ·rw [hx.non_inv] at hy; cases hy.bl_inv
  ·rw [hx.non_inv] at hy; cases hy.int_inv
  ·rw [hx.non_inv] at hy; cases hy.str_inv
  ·rw [hx.bl_inv] at hy; cases hy.non_inv
  ·rw [hx.bl_inv] at hy; cases hy.str_inv
  ·rw [hx.int_inv] at hy; cases hy.non_inv
  ·rw [hx.int_inv] at hy; cases hy.str_inv
  ·rw [hx.str_inv] at hy; cases hy.non_inv
  ·rw [hx.str_inv] at hy; cases hy.bl_inv
  ·rw [hx.str_inv] at hy; cases hy.int_inv
  ·obtain ⟨a,xs,rfl,h1,h2⟩:=hx.tup_inv
   obtain ⟨a',ys,e',g1,g2⟩:=hy.tup_inv
   cases e'
   rw [I.tuple_inj g1 h1] at g2
   cases p:di (eqD M n) _ _ with
   | none=>rw [p] at e; cases e
   | some b1 =>
    rw [p] at e
    have e':=Option.some.inj e
    rw [← e',iN h2 g2 (jb I hm n) p,h2.length,g2.length]
    simp
  ·rw [hx.ref_inv] at hy
   cases hy.ref_inv
   cases p:lstM M _ with
   | none=>rw [p] at e; cases e
   | some i =>
    rw [p] at e
    have e:(if i.length=i.length then di (eqD M n) i i else some false)=some b:=e
    rw [if_pos rfl] at e
    obtain ⟨xs,_,h2,_⟩:=bb hm p
    exact iN h2 h2 (jb I hm n) e
  ·cases e
end
end L3
namespace L3
open PySem PySem.Spec PyProof.Rows L2
section
variable {X:Cx} {pins:List (Addr × Obj)} {σ:St} {H:Hp} {s:Shared} {M:Mp}
theorem kP {f:D→D→Option Bool} {A:Around}:∀ {ds es:List D} {xs ys:List V} {us ws:List Value} {b:Bool},di f ds es=some b→aT X.K H ds xs→aT X.K H es ys→bi xs us→bi ys ws →
  (∀ x y b vx vy u w,f x y=some b→Has X.K H x vx→Has X.K H y vy→bD vx u→bD vy w→SeqAt.EqAt A s u w b) →
  ∃ e:Nat→Bool,(∀ j (h1:j < us.length) (h2:j < ws.length),SeqAt.EqAt A s us[j] ws[j] (e j))∧(List.range (min us.length ws.length)).all e=b
 | [],es,xs,ys,us,ws,b,q,hx,hy,rx,ry,k=>by
  have e1:=hx.nil_inv
  subst e1
  cases rx
  refine ⟨fun _=>true,fun j h1=>absurd h1 (by simp),?_⟩
  have q':some true=some b:=by
   cases es <;> exact q
  simpa using (Option.some.inj q')
 | d :: ds,[],xs,ys,us,ws,b,q,hx,hy,rx,ry,k=>by
  have e1:=hy.nil_inv
  subst e1
  cases ry
  refine ⟨fun _=>true,fun j _ h2=>absurd h2 (by simp),?_⟩
  have q':some true=some b:=q
  simpa using (Option.some.inj q')
 | d :: ds,e :: es,xs,ys,us,ws,b,q,hx,hy,rx,ry,k=>by
  obtain ⟨x,r,rfl,h1,h2⟩:=hx.inv
  obtain ⟨y,r',rfl,g1,g2⟩:=hy.inv
  cases rx with
  | cons r1 r2 =>
   cases ry with
   | cons t1 t2 =>
    unfold di at q
    cases p1:f d e with
    | none=>rw [p1] at q; cases q
    | some b1 =>
     rw [p1] at q
     cases p2:di f ds es with
     | none=>rw [p2] at q; cases q
     | some b2 =>
      rw [p2] at q
      have q':(b1 && b2)=b:=Option.some.inj q
      obtain ⟨e',he,ha⟩:=kP p2 h2 g2 r2 t2 k
      refine ⟨fun j=>match j with | 0=>b1 | j + 1=>e' j,fun j l1 l2=>?_,?_⟩
      ·cases j with
       | zero=>exact k _ _ _ _ _ _ _ p1 h1 g1 r1 t1
       | succ j=>exact he j (by simpa using l1) (by simpa using l2)
      ·rw [← q',← ha]
       simp only [List.length_cons]
       rw [Nat.succ_min_succ,List.range_succ_eq_map,List.all_cons,List.all_map]
       rfl
theorem nC (I:Inv X pins σ H s) (hm:HM X.K H M):∀ (n:Nat) (A:Around) (x y:D) (b:Bool) (vx vy:V) (u w:Value),A.units + n < cLine→eqD M n x y=some b→Has X.K H x vx→Has X.K H y vy→bD vx u→bD vy w →
  SeqAt.RcAt A s u w b∧SeqAt.EqAt A s u w b∧SeqAt.RcNeAt A s u w (!b)
 | 0,_,_,_,_,_,_,_,_,_,e,_,_,_,_=>by cases e
 | n + 1,A,x,y,b,vx,vy,u,w,hu,e,hx,hy,rx,ry=>by
  have hu1:A.units < cLine:=by omega
  have hui:A.in1.units + n < cLine:=by show A.units + 1 + n < cLine; omega
  unfold eqD at e
  split at e
  ·cases hx.non_inv; cases hy.non_inv; cases rx; cases ry; cases e
   exact ⟨.none_none,.same _,.none_none⟩
  ·cases hx.bl_inv; cases hy.bl_inv; cases rx; cases ry; cases e
   exact ⟨.bool_bool _ _,.bool_bool _ _,.bool_bool _ _⟩
  ·cases hx.int_inv; cases hy.int_inv; obtain ⟨t,rfl⟩:=rx; obtain ⟨t',rfl⟩:=ry; cases e
   exact ⟨.int_int _ _ _ _,.int_int _ _ _ _,.int_int _ _ _ _⟩
  ·cases hx.str_inv; cases hy.str_inv; obtain ⟨t,rfl⟩:=rx; obtain ⟨t',rfl⟩:=ry; cases e
   exact ⟨.str_str _ _ _ _,.str_str _ _ _ _,.str_str _ _ _ _⟩
  ·cases hx.non_inv; cases hy.bl_inv; cases rx; cases ry; cases e
   exact ⟨.none_bool _,.none_bool _,.none_bool _⟩
  ·cases hx.non_inv; cases hy.int_inv; cases rx; obtain ⟨t',rfl⟩:=ry; cases e
   exact ⟨.none_int _ _,.none_int _ _,.none_int _ _⟩
  ·cases hx.non_inv; cases hy.str_inv; cases rx; obtain ⟨t',rfl⟩:=ry; cases e
   exact ⟨.none_str _ _,.none_str _ _,.none_str _ _⟩
  ·cases hx.bl_inv; cases hy.non_inv; cases rx; cases ry; cases e
   exact ⟨.bool_none _,.bool_none _,.bool_none _⟩
  ·cases hx.bl_inv; cases hy.str_inv; cases rx; obtain ⟨t',rfl⟩:=ry; cases e
   exact ⟨.bool_str _ _ _,.bool_str _ _ _,.bool_str _ _ _⟩
  ·cases hx.int_inv; cases hy.non_inv; obtain ⟨t,rfl⟩:=rx; cases ry; cases e
   exact ⟨.int_none _ _,.int_none _ _,.int_none _ _⟩
  ·cases hx.int_inv; cases hy.str_inv; obtain ⟨t,rfl⟩:=rx; obtain ⟨t',rfl⟩:=ry; cases e
   exact ⟨.int_str _ _ _ _,.int_str _ _ _ _,.int_str _ _ _ _⟩
  ·cases hx.str_inv; cases hy.non_inv; obtain ⟨t,rfl⟩:=rx; cases ry; cases e
   exact ⟨.str_none _ _,.str_none _ _,.str_none _ _⟩
  ·cases hx.str_inv; cases hy.bl_inv; obtain ⟨t,rfl⟩:=rx; cases ry; cases e
   exact ⟨.str_bool _ _ _,.str_bool _ _ _,.str_bool _ _ _⟩
  ·cases hx.str_inv; cases hy.int_inv; obtain ⟨t,rfl⟩:=rx; obtain ⟨t',rfl⟩:=ry; cases e
   exact ⟨.str_int _ _ _ _,.str_int _ _ _ _,.str_int _ _ _ _⟩
  ·rename_i da db
   obtain ⟨a1,xs,rfl,h1,h2⟩:=hx.tup_inv
   obtain ⟨a2,ys,rfl,g1,g2⟩:=hy.tup_inv
   cases rx
   cases ry
   obtain ⟨us,r1,p1,_⟩:=I.tuple h1
   obtain ⟨ws,r2,p2,_⟩:=I.tuple g1
   cases p:di (eqD M n) da db with
   | none=>rw [p] at e; cases e
   | some b1 =>
    have e0:=e
    rw [p] at e
    have e':(b1 && da.length == db.length)=b:=Option.some.inj e
    obtain ⟨f,hf,ha⟩:=kP (A:=A.in1) (s:=s) p h2 g2 r1 r2 fun x y b vx vy u w q1 q2 q3 q4 q5=>(nC I hm n A.in1 x y b vx vy u w hui q1 q2 q3 q4 q5).2.1
    have hb:((List.range (min us.toArray.size ws.toArray.size)).all f && us.toArray.size == ws.toArray.size)=b:=by
     rw [List.size_toArray,List.size_toArray,ha,← e',← r1.length,← r2.length,h2.length,g2.length]
    have hf':∀ j (l1:j < us.toArray.size) (l2:j < ws.toArray.size),SeqAt.EqAt A.in1 s us.toArray[j] ws.toArray[j] (f j):=fun j l1 l2=>by simpa using hf j (by simpa using l1) (by simpa using l2)
    have c1:SeqAt.RcAt A s (.ref a1) (.ref a2) b:=by rw [← hb]; exact .tuples p1 p2 hu1 hf'
    have c3:SeqAt.RcNeAt A s (.ref a1) (.ref a2) (!b):=by
     have:=SeqAt.RcNeAt.tuples p1 p2 hu1 hf'
     rw [hb] at this
     exact this
    refine ⟨c1,?_,c3⟩
    by_cases ea:a1=a2
    ·subst ea
     have:b=true:=jb I hm (n + 1) (.tup da) (.tup db) (.ref a1) b hx hy (by unfold eqD; exact e0)
     rw [this]
     exact .same _
    ·exact .of_refs ea c1
  ·cases hx.ref_inv; cases hy.ref_inv
   cases rx
   cases ry
   rename_i a1 a2
   have e0:=e
   cases p:lstM M a1 with
   | none=>rw [p] at e; cases e
   | some i =>
    cases p':lstM M a2 with
    | none=>rw [p,p'] at e; cases e
    | some j =>
     rw [p,p'] at e
     have e:(if i.length=j.length then di (eqD M n) i j else some false)=some b:=e
     obtain ⟨xs,q1,h2,_⟩:=bb hm p
     obtain ⟨ys,q2,g2,_⟩:=bb hm p'
     obtain ⟨us,r1,p1,_⟩:=I.list q1
     obtain ⟨ws,r2,p2,_⟩:=I.list q2
     have fin:SeqAt.RcAt A s (.ref a1) (.ref a2) b∧SeqAt.RcNeAt A s (.ref a1) (.ref a2) (!b):=by
      by_cases hl:i.length=j.length
      ·rw [if_pos hl] at e
       obtain ⟨f,hf,ha⟩:=kP (A:=A.in1) (s:=s) e h2 g2 r1 r2 fun x y b vx vy u w q1 q2 q3 q4 q5=>(nC I hm n A.in1 x y b vx vy u w hui q1 q2 q3 q4 q5).2.1
       have hsz:us.toArray.size=ws.toArray.size:=by rw [List.size_toArray,List.size_toArray,← r1.length,← r2.length,← h2.length,← g2.length]; exact hl
       have hf':∀ j (l1:j < us.toArray.size) (l2:j < ws.toArray.size),SeqAt.EqAt A.in1 s us.toArray[j] ws.toArray[j] (f j):=fun j l1 l2=>by simpa using hf j (by simpa using l1) (by simpa using l2)
       have hb:(List.range us.toArray.size).all f=b:=by
        rw [← ha]
        rw [List.size_toArray,List.size_toArray] at hsz
        rw [List.size_toArray,← hsz,Nat.min_self]
       rw [← hb]
       exact ⟨.lists p1.isList p2.isList hsz hu1 hf',.lists p1.isList p2.isList hsz hu1 hf'⟩
      ·rw [if_neg hl] at e
       cases e
       have hsz:(us.toArray.size != ws.toArray.size)=true:=by
        rw [List.size_toArray,List.size_toArray,← r1.length,← r2.length,← h2.length,← g2.length]
        simpa using hl
       exact ⟨.lists_lengths p1.isList p2.isList hsz hu1,.lists_lengths p1.isList p2.isList hsz hu1⟩
     refine ⟨fin.1,?_,fin.2⟩
     by_cases ea:a1=a2
     ·subst ea
      have:b=true:=jb I hm (n + 1) (.ref a1) (.ref a1) (.ref a1) b .ref .ref (by unfold eqD; exact e0)
      rw [this]
      exact .same _
     ·exact .of_refs ea fin.1
  ·cases e
end
def eZ:D→Bool
 | .non=>true
 | .bl _=>true
 | .int _=>true
 | .str _=>true
 | _=>false
def eqF:D→D→Bool
 | .non,.non=>true
 | .bl a,.bl b=>a == b
 | .bl a,.int b=>(if a then 1 else 0) == b
 | .int a,.bl b=>a == (if b then 1 else 0)
 | .int a,.int b=>a == b
 | .str a,.str b=>a == b
 | _,_=>false
def inD (x:D) (ds:List D):Bool:=ds.any fun y=>eqF y x
def uM (M:Mp):D→Option (List D)
 | .tup ds=>some ds
 | .ref a=>lstM M a
 | .rl ds=>some ds
 | _=>none
def lK (i j:Str):Bool:=!(Builtin.Str.occurrences j i 0 j.length 1).isEmpty
def inQ (neg:Bool) (x y:D) (M:Mp) (Q:DK):Prop:=match x,y with
 | .str i,.str j=>Q (.bl (if neg then !lK i j else lK i j)) M
 | _,_=>(uM M y).elim False fun ds=>eZ x=true∧ds.all eZ=true∧Q (.bl (if neg then !inD x ds else inD x ds)) M
def wU (op:CmpOp) (x y:D) (M:Mp) (Q:DK):Prop:=match op with
 | .Eq=>(eqD M 9 x y).elim False fun b=>Q (.bl b) M
 | .NotEq=>(eqD M 9 x y).elim False fun b=>Q (.bl (!b)) M
 | .Lt=>match x,y with | .int i,.int j=>Q (.bl (decide (i < j))) M | _,_=>False
 | .LtE=>match x,y with | .int i,.int j=>Q (.bl (decide (i≤j))) M | _,_=>False
 | .Gt=>match x,y with | .int i,.int j=>Q (.bl (decide (j < i))) M | _,_=>False
 | .GtE=>match x,y with | .int i,.int j=>Q (.bl (decide (j≤i))) M | _,_=>False
 | .Is=>match y with | .non=>Q (.bl (match x with | .non=>true | _=>false)) M | _=>False
 | .IsNot=>match y with | .non=>Q (.bl (match x with | .non=>false | _=>true)) M | _=>False
 | .In=>inQ false x y M Q
 | .NotIn=>inQ true x y M Q
def k3 (op:CmpOp) (ta tb:T3):T3:=fun δ M Q=>ta δ M fun x M1=>tb δ M1 fun y M2=>wU op x y M2 Q
section
variable {K:PySem.W.Frag} {H:Hp} {M:Mp}
theorem gU {d:D} {v:V} (h:Has K H d v) (f:eZ d=true):iG v=true:=by
 cases d with
 | non=>rw [h.non_inv]; rfl
 | bl _=>rw [h.bl_inv]; rfl
 | int _=>rw [h.int_inv]; rfl
 | str _=>rw [h.str_inv]; rfl
 | _=>cases f
theorem qy {d e:D} {v w:V} (h:Has K H d v) (g:Has K H e w) (f:eZ d=true) (f':eZ e=true):eqV v w=eqF d e:=by
 cases d with
 | non =>
  rw [h.non_inv]
  cases e with
  | non=>rw [g.non_inv]; rfl
  | bl _=>rw [g.bl_inv]; rfl
  | int _=>rw [g.int_inv]; rfl
  | str _=>rw [g.str_inv]; rfl
  | _=>cases f'
 | bl _ =>
  rw [h.bl_inv]
  cases e with
  | non=>rw [g.non_inv]; rfl
  | bl _=>rw [g.bl_inv]; rfl
  | int _=>rw [g.int_inv]; rfl
  | str _=>rw [g.str_inv]; rfl
  | _=>cases f'
 | int _ =>
  rw [h.int_inv]
  cases e with
  | non=>rw [g.non_inv]; rfl
  | bl _=>rw [g.bl_inv]; rfl
  | int _=>rw [g.int_inv]; rfl
  | str _=>rw [g.str_inv]; rfl
  | _=>cases f'
 | str _ =>
  rw [h.str_inv]
  cases e with
  | non=>rw [g.non_inv]; rfl
  | bl _=>rw [g.bl_inv]; rfl
  | int _=>rw [g.int_inv]; rfl
  | str _=>rw [g.str_inv]; rfl
  | _=>cases f'
 | _=>cases f
theorem kj:∀ {ds:List D} {xs:List V},aT K H ds xs→ds.all eZ=true→xs.all iG=true
 | [],_,h,_=>by rw [h.nil_inv]; rfl
 | d :: ds,_,h,f=>by
  obtain ⟨x,r,rfl,h1,h2⟩:=h.inv
  rw [List.all_cons,Bool.and_eq_true] at f ⊢
  exact ⟨gU h1 f.1,kj h2 f.2⟩
theorem vc {e:D} {w:V} (g:Has K H e w) (f':eZ e=true):∀ {ds:List D} {xs:List V},aT K H ds xs→ds.all eZ=true→inV w xs=inD e ds
 | [],_,h,_=>by rw [h.nil_inv]; rfl
 | d :: ds,_,h,f=>by
  obtain ⟨x,r,rfl,h1,h2⟩:=h.inv
  rw [List.all_cons,Bool.and_eq_true] at f
  show (eqV x w || inV w r)=(eqF d e || inD e ds)
  rw [qy h1 g f.1 f',vc g f' h2 f.2]
theorem nI (hm:HM K H M) {y:D} {v:V} {ds:List D} (h:Has K H y v) (q:uM M y=some ds):∃ p xs,v=.ref p∧(SqL K H p xs∨SqT K H p xs)∧aT K H ds xs:=by
 cases y with
 | tup es =>
  cases q
  obtain ⟨a,xs,rfl,h1,h2⟩:=h.tup_inv
  exact ⟨a,xs,rfl,.inr h1,h2⟩
 | ref a =>
  cases h.ref_inv
  obtain ⟨xs,h1,h2,_⟩:=bb hm q
  exact ⟨a,xs,rfl,.inl h1,h2⟩
 | rl es =>
  cases q
  obtain ⟨a,xs,rfl,h1,h2⟩:=h.rl_inv
  exact ⟨a,xs,rfl,.inl h1.sq,h2⟩
 | _=>cases q
end
section
variable {X:Cx} {H:Hp} {M:Mp}
theorem rP (op:CmpOp) (hu:X.A.units + 9 < cLine):OpR X (compareOp op) (R3 X.K (wU op)):=by
 intro pins s σ H vx vy v u Q' I rx ry h
 obtain ⟨x,y,M,Q,hx,hy,hm,q,k⟩:=h
 have bk:∀ b,Q (.bl b) M→EP X pins σ Q' (.bool b) s:=fun b q=>⟨.bl b,H,I,rfl,k _ _ _ _ .bl hm .refl q⟩
 have inn:∀ neg:Bool,((uM M y).elim False fun ds=>eZ x=true∧ds.all eZ=true∧Q (.bl (if neg then !inD x ds else inD x ds)) M)→rIn X.K neg vx vy H Q':=fun neg q=>by
  obtain ⟨ds,e,f1,f2,q⟩:=bY q
  obtain ⟨p,xs,rfl,h1,h2⟩:=nI hm hy e
  refine ⟨p,xs,rfl,h1,gU hx f1,kj h2 f2,?_⟩
  rw [vc hx f1 h2 f2]
  exact k _ _ _ _ .bl hm .refl q
 cases op with
 | Eq =>
  obtain ⟨b,e,q⟩:=bY q
  exact (nC I hm 9 X.A x y b vx vy v u hu e hx hy rx ry).1 _ _ _ _ (bk b q)
 | NotEq =>
  obtain ⟨b,e,q⟩:=bY q
  exact (nC I hm 9 X.A x y b vx vy v u hu e hx hy rx ry).2.2 _ _ _ _ (bk _ q)
 | Lt =>
  cases x <;> first | exact q.elim | skip
  cases y <;> first | exact q.elim | skip
  cases hx.int_inv; cases hy.int_inv
  exact Aq pins s σ H _ _ v u Q' I rx ry ⟨_,_,rfl,rfl,k _ _ _ _ .bl hm .refl q⟩
 | LtE =>
  cases x <;> first | exact q.elim | skip
  cases y <;> first | exact q.elim | skip
  cases hx.int_inv; cases hy.int_inv
  exact zQ pins s σ H _ _ v u Q' I rx ry ⟨_,_,rfl,rfl,k _ _ _ _ .bl hm .refl q⟩
 | Gt =>
  cases x <;> first | exact q.elim | skip
  cases y <;> first | exact q.elim | skip
  cases hx.int_inv; cases hy.int_inv
  exact zX pins s σ H _ _ v u Q' I rx ry ⟨_,_,rfl,rfl,k _ _ _ _ .bl hm .refl q⟩
 | GtE =>
  cases x <;> first | exact q.elim | skip
  cases y <;> first | exact q.elim | skip
  cases hx.int_inv; cases hy.int_inv
  exact zL pins s σ H _ _ v u Q' I rx ry ⟨_,_,rfl,rfl,k _ _ _ _ .bl hm .refl q⟩
 | Is =>
  cases y <;> first | exact q.elim | skip
  cases hy.non_inv
  refine zq pins s σ H _ _ v u Q' I rx ry ⟨rfl,k _ _ _ _ ?_ hm .refl q⟩
  cases x with
  | non=>rw [hx.non_inv]; exact .bl
  | bl _=>rw [hx.bl_inv]; exact .bl
  | int _=>rw [hx.int_inv]; exact .bl
  | str _=>rw [hx.str_inv]; exact .bl
  | tup _=>obtain ⟨a,xs,rfl,_⟩:=hx.tup_inv; exact .bl
  | ref _=>rw [hx.ref_inv]; exact .bl
  | ty _=>rw [hx.ty_inv]; exact .bl
  | rl _=>obtain ⟨a,xs,rfl,_⟩:=hx.rl_inv; exact .bl
 | IsNot =>
  cases y <;> first | exact q.elim | skip
  cases hy.non_inv
  refine vJ pins s σ H _ _ v u Q' I rx ry ⟨rfl,k _ _ _ _ ?_ hm .refl q⟩
  cases x with
  | non=>rw [hx.non_inv]; exact .bl
  | bl _=>rw [hx.bl_inv]; exact .bl
  | int _=>rw [hx.int_inv]; exact .bl
  | str _=>rw [hx.str_inv]; exact .bl
  | tup _=>obtain ⟨a,xs,rfl,_⟩:=hx.tup_inv; exact .bl
  | ref _=>rw [hx.ref_inv]; exact .bl
  | ty _=>rw [hx.ty_inv]; exact .bl
  | rl _=>obtain ⟨a,xs,rfl,_⟩:=hx.rl_inv; exact .bl
 | In =>
  have q:inQ false x y M Q:=q
  unfold inQ at q
  split at q
  ·cases hx.str_inv; cases hy.str_inv
   exact sw pins s σ H _ _ v u Q' I rx ry ⟨_,_,rfl,rfl,k _ _ _ _ .bl hm .refl q⟩
  ·exact rH pins s σ H _ _ v u Q' I rx ry (inn false q)
 | NotIn =>
  have q:inQ true x y M Q:=q
  unfold inQ at q
  split at q
  ·cases hx.str_inv; cases hy.str_inv
   exact mO pins s σ H _ _ v u Q' I rx ry ⟨_,_,rfl,rfl,k _ _ _ _ .bl hm .refl q⟩
  ·exact no pins s σ H _ _ v u Q' I rx ry (inn true q)
variable {a b c:Expr} {ta tb tc:T3} {pos:Pos}
theorem bN {op:CmpOp} (hu:X.A.units + 9 < cLine) (ha:E3 X a ta) (hb:E3 X b tb) (hm:behindInMarks op b=false:=by first | exact qr _ | with_unfolding_all rfl):E3 X (.Compare a [op] [b] pos) (k3 op ta tb):=PE.mono (vA (rP op hu) ha hb hm) r9
def b3 (t:T3):T3T:=fun δ M Q=>t δ M fun d M1=>match d with | .bl c=>Q c M1 | _=>False
theorem gR {e:Expr} {t:T3} (h:E3 X e t) (he:∀ whole,isTrue e X.env whole=(do let v ← whole; standAt e.pos; holding [v] (truthy v)):=by intro _; rfl):B3 X e (b3 t):=PT.mono (zo h he) fun σ H Q' ⟨δ,M,Q,hs,hm,ht,k⟩ =>
 ⟨δ,M,_,hs,hm,ht,fun v H1 d M1 hd hm1 e1 q1=>by
  cases d with
  | bl c=>exact ⟨c,hd.bl_inv,k c H1 M1 hm1 e1 q1⟩
  | _=>exact q1.elim⟩
theorem aA {op:CmpOp} (hu:X.A.units + 9 < cLine) (ha:E3 X a ta) (hb:E3 X b tb) (hm:behindInMarks op b=false:=by first | exact qr _ | with_unfolding_all rfl):B3 X (.Compare a [op] [b] pos) (b3 (k3 op ta tb)):=PT.mono (qH (rP op hu) ha hb hm) fun σ H Q' ⟨δ,M,Q,hs,hm,ht,k⟩ =>
 r9 σ H _ ⟨δ,M,_,hs,hm,ht,fun v H1 d M1 hd hm1 e1 q1=>by
  cases d with
  | bl c=>exact ⟨c,hd.bl_inv,k c H1 M1 hm1 e1 q1⟩
  | _=>exact q1.elim⟩
end
end L3
namespace L3
open PySem PySem.Spec PyProof.Rows L2
section
variable {X:Cx} {a b c:Expr} {ta tb tc:T3} {pos:Pos} {tA tB:T3T} {rest:List Expr}
def Bm (t u:T3T):T3T:=fun δ M Q=>t δ M fun c M1=>if c=true then u δ M1 Q else Q false M1
def Bp (t:T3T):T3T:=fun δ M Q=>t δ M fun c M1=>Q (!c) M1
def W3 (X:Cx) (e:Expr) (t:T3T):Prop:=PW X e (loT X.K t)
theorem PW.mono {X:Cx} {e:Expr} {t t':TT} (h:PW X e t) (m:∀ σ H Q,t' σ H Q→t σ H Q):PW X e t':=fun wh pins s σ H Q I q=>h wh pins s σ H Q I (m σ H Q q)
theorem W3.b3 {e:Expr} {t:T3T} (h:W3 X e t):B3 X e t:=PW.pt h
theorem gM (h:B3 X a tA):W3 X (.BoolOp .And [a] pos) tA:=w6 h
theorem gN (ha:B3 X a tA) (hb:W3 X (.BoolOp .And (b :: rest) pos) tB):W3 X (.BoolOp .And (a :: b :: rest) pos) (Bm tA tB):=PW.mono (yA ha hb) fun σ H Q' ⟨δ,M,Q,hs,hm,ht,k⟩ =>
 ⟨δ,M,_,hs,hm,ht,fun c H1 M1 hm1 e1 q1=>by
  cases c with
  | true=>exact (if_pos rfl).mpr ⟨δ,M1,Q,hs.mono e1,hm1,(if_pos rfl).mp q1,fun b H' M' x1 x2 x3=>k b H' M' x1 (e1.trans x2) x3⟩
  | false=>exact (if_neg Bool.false_ne_true).mpr (k false H1 M1 hm1 e1 ((if_neg Bool.false_ne_true).mp q1))⟩
theorem lC (ha:B3 X a tA):B3 X (.UnaryOp .Not a pos) (Bp tA):=PT.mono (xY ha) fun σ H Q' ⟨δ,M,Q,hs,hm,ht,k⟩=>⟨δ,M,_,hs,hm,ht,fun c H1 M1 hm1 e1 q1=>k _ H1 M1 hm1 e1 q1⟩
def Av (ta tb:T3):T3:=fun δ M Q=>ta δ M fun d M1=>match d with | .bl c=>if c=true then tb δ M1 Q else Q (.bl false) M1 | _=>False
def A6 (ta tb:T3):T3:=fun δ M Q=>ta δ M fun d M1=>match d with | .bl c=>if c=true then Q (.bl true) M1 else tb δ M1 Q | _=>False
theorem gm {op} (h:E3 X a ta):E3 X (.BoolOp op [a] pos) ta:=y' h
theorem h9 (ha:E3 X a ta) (hb:E3 X (.BoolOp .And (b :: rest) pos) tb):E3 X (.BoolOp .And (a :: b :: rest) pos) (Av ta tb):=PE.mono (yY ha hb) fun σ H Q' ⟨δ,M,Q,hs,hm,ht,k⟩ =>
 ⟨δ,M,_,hs,hm,ht,fun v H1 d M1 hd hm1 e1 q1=>by
  cases d with
  | bl c =>
   refine ⟨c,hd.bl_inv,?_⟩
   cases c with
   | true=>exact (if_pos rfl).mpr ⟨δ,M1,Q,hs.mono e1,hm1,(if_pos rfl).mp q1,gh e1 k⟩
   | false=>exact (if_neg Bool.false_ne_true).mpr (k _ H1 _ M1 .bl hm1 e1 ((if_neg Bool.false_ne_true).mp q1))
  | _=>exact q1.elim⟩
theorem qS (ha:E3 X a ta) (hb:E3 X (.BoolOp .Or (b :: rest) pos) tb):E3 X (.BoolOp .Or (a :: b :: rest) pos) (A6 ta tb):=PE.mono (z0 ha hb) fun σ H Q' ⟨δ,M,Q,hs,hm,ht,k⟩ =>
 ⟨δ,M,_,hs,hm,ht,fun v H1 d M1 hd hm1 e1 q1=>by
  cases d with
  | bl c =>
   refine ⟨c,hd.bl_inv,?_⟩
   cases c with
   | true=>exact (if_pos rfl).mpr (k _ H1 _ M1 .bl hm1 e1 ((if_pos rfl).mp q1))
   | false=>exact (if_neg Bool.false_ne_true).mpr ⟨δ,M1,Q,hs.mono e1,hm1,(if_neg Bool.false_ne_true).mp q1,gh e1 k⟩
  | _=>exact q1.elim⟩
def if3 (t:T3T) (ta tb:T3):T3:=fun δ M Q=>t δ M fun c M1=>if c=true then ta δ M1 Q else tb δ M1 Q
theorem Af (hc:B3 X c tA) (ha:E3 X a ta) (hb:E3 X b tb):E3 X (.IfExp c a b pos) (if3 tA ta tb):=PE.mono (ub hc ha hb) fun σ H Q' ⟨δ,M,Q,hs,hm,ht,k⟩ =>
 ⟨δ,M,_,hs,hm,ht,fun c H1 M1 hm1 e1 q1=>by
  cases c with
  | true=>exact (if_pos rfl).mpr ⟨δ,M1,Q,hs.mono e1,hm1,(if_pos rfl).mp q1,gh e1 k⟩
  | false=>exact (if_neg Bool.false_ne_true).mpr ⟨δ,M1,Q,hs.mono e1,hm1,(if_neg Bool.false_ne_true).mp q1,gh e1 k⟩⟩
def ixD (x y:D) (M:Mp) (Q:DK):Prop:=match x,y with
 | .tup ds,.int i=>(atI ds i).elim False fun d=>Q d M
 | .ref a,.int i=>(lstM M a).elim False fun ds=>(atI ds i).elim False fun d=>Q d M
 | .rl ds,.int i=>(atI ds i).elim False fun d=>Q d M
 | .str z,.int i=>z.length≤sizeLine∧(atI z.cps.toList i).elim False fun c=>Q (.str ⟨#[c]⟩) M
 | _,_=>False
def i3 (ta tb:T3):T3:=fun δ M Q=>ta δ M fun x M1=>tb δ M1 fun y M2=>ixD x y M2 Q
theorem nc {K:PySem.W.Frag} {H:Hp} {ds:List D} {xs:List V} {i:Int} {d:D} (h:aT K H ds xs) (e:atI ds i=some d):∃ v,atI xs i=some v∧Has K H d v:=by
 unfold atI at e ⊢
 rw [← h.length]
 cases q:ixN ds.length i with
 | none=>rw [q] at e; cases e
 | some j =>
  rw [q] at e
  exact h.get e
theorem ix3:IxR X (R3 X.K ixD):=by
 intro value slice pins s σ H vx vy v u Q' I rx ry h hs
 obtain ⟨x,y,M,Q,hx,hy,hm,q,k⟩:=h
 unfold ixD at q
 split at q
 ·obtain ⟨d,e,q⟩:=bY q
  obtain ⟨p,xs,rfl,h1,h2⟩:=hx.tup_inv
  cases hy.int_inv
  obtain ⟨w,e1,e2⟩:=nc h2 e
  exact zv value slice pins s σ H _ _ v u Q' I rx ry ⟨p,xs,_,w,rfl,rfl,h1,e1,k _ _ _ _ e2 hm .refl q⟩ hs
 ·obtain ⟨ds,e0,q⟩:=bY q
  obtain ⟨d,e,q⟩:=bY q
  cases hx.ref_inv
  cases hy.int_inv
  obtain ⟨xs,h1,h2,_⟩:=bb hm e0
  obtain ⟨w,e1,e2⟩:=nc h2 e
  exact q8 value slice pins s σ H _ _ v u Q' I rx ry ⟨_,xs,_,w,rfl,rfl,h1,e1,k _ _ _ _ e2 hm .refl q⟩ hs
 ·obtain ⟨d,e,q⟩:=bY q
  obtain ⟨p,xs,rfl,h1,h2⟩:=hx.rl_inv
  cases hy.int_inv
  obtain ⟨w,e1,e2⟩:=nc h2 e
  exact q8 value slice pins s σ H _ _ v u Q' I rx ry ⟨p,xs,_,w,rfl,rfl,h1.sq,e1,k _ _ _ _ e2 hm .refl q⟩ hs
 ·obtain ⟨q1,q⟩:=q
  obtain ⟨c,e,q⟩:=bY q
  cases hx.str_inv
  cases hy.int_inv
  exact yD value slice pins s σ H _ _ v u Q' I rx ry ⟨_,_,c,rfl,rfl,q1,e,k _ _ _ _ .str hm .refl q⟩ hs
 ·exact q.elim
theorem aC (ha:E3 X a ta) (hb:E3 X b tb) (hs:mX b:=by exact fun _ _=>rfl):E3 X (.Subscript a b pos) (i3 ta tb):=PE.mono (xo ix3 ha hb hs) r9
def gT (ds:List D) (lo hi:Option Int):List D:=(ds.drop (HT.sIx ds.length 0 lo)).take (HT.sIx ds.length ds.length hi - HT.sIx ds.length 0 lo)
theorem m7 {K:PySem.W.Frag} {H:Hp} {ds:List D} {xs:List V} {l h:Option Int} (q:aT K H ds xs):aT K H (gT ds l h) (lh xs l h):=by
 unfold gT lh
 rw [q.length]
 exact (q.drop _).take _
abbrev T3O:=DSt→Mp→(Option Int→Mp→Prop)→Prop
def loO (K:PySem.W.Frag) (t:T3O):TO:=fun σ H Q'=>∃ δ M Q,St3 K H σ δ∧HM K H M∧t δ M Q∧∀ o H' M',HM K H' M'→bH K H H'→Q o M'→Q' o H'
def O3 (X:Cx) (e:Option Expr) (t:T3O):Prop:=PO X e (loO X.K t)
def qB:T3O:=fun _ M Q=>Q none M
def xk (t:T3):T3O:=fun δ M Q=>t δ M fun d M1=>match d with | .int i=>Q (some i) M1 | _=>False
theorem PO.mono {X:Cx} {e:Option Expr} {t t':TO} (h:PO X e t) (m:∀ σ H Q,t' σ H Q→t σ H Q):PO X e t':=fun pins s σ H Q I q=>h pins s σ H Q I (m σ H Q q)
theorem dN:O3 X none qB:=PO.mono v2 fun σ H Q' ⟨δ,M,Q,hs,hm,ht,k⟩=>k none H M hm .refl ht
theorem dQ {e:Expr} {t:T3} (h:E3 X e t):O3 X (some e) (xk t):=PO.mono (vR h) fun σ H Q' ⟨δ,M,Q,hs,hm,ht,k⟩ =>
 ⟨δ,M,_,hs,hm,ht,fun v H1 d M1 hd hm1 e1 q1=>by
  cases d with
  | int i=>exact ⟨i,hd.int_inv,k (some i) H1 M1 hm1 e1 q1⟩
  | _=>exact q1.elim⟩
def slD (x:D) (lo hi:Option Int) (M:Mp) (Q:DK):Prop:=match x with
 | .tup ds=>Q (.tup (gT ds lo hi)) M
 | .ref a=>(lstM M a).elim False fun ds=>∀ p,M p=none→Q (.ref p) (au M p (.lst (gT ds lo hi)))
 | .rl ds=>∀ p,M p=none→Q (.ref p) (au M p (.lst (gT ds lo hi)))
 | _=>False
def s3 (te:T3) (tl th:T3O):T3:=fun δ M Q=>te δ M fun x M1=>tl δ M1 fun l M2=>th δ M2 fun u M3=>slD x l u M3 Q
def Bd (K:PySem.W.Frag):V→Option Int→Option Int→Hp→VK→Prop:=fun vx l u H Q'=>∃ x M Q,Has K H x vx∧HM K H M∧slD x l u M Q∧Up K H Q' Q
theorem vB {ds:List D} {lo hi:Option Int} (h:HT.sIx ds.length 0 lo=0∧HT.sIx ds.length ds.length hi=ds.length):gT ds lo hi=ds:=by
 unfold gT
 rw [h.1,h.2,List.drop_zero,Nat.sub_zero,List.take_length]
theorem sl3:SlR X (Bd X.K):=by
 intro pins s σ H vx v vl vu l u sl Q' I rx hsl pl pu h
 obtain ⟨x,M,Q,hx,hm,q,k⟩:=h
 cases x with
 | tup ds =>
  have q2:Q (.tup (gT ds l u)) M:=q
  obtain ⟨a,xs,rfl,h1,h2⟩:=hx.tup_inv
  by_cases q1:HT.sIx ds.length 0 l=0∧HT.sIx ds.length ds.length u=ds.length
  ·rw [vB q1] at q2
   exact yF pins s σ H _ v vl vu l u sl Q' I rx hsl pl pu ⟨a,xs,rfl,h1,by rw [← h2.length]; exact q1,k _ _ _ _ hx hm .refl q2⟩
  refine zm pins s σ H _ v vl vu l u sl Q' I rx hsl pl pu ⟨a,xs,rfl,h1,by rw [← h2.length]; exact q1,fun p hp=>?_⟩
  have e:bH X.K H (upd H p (.tup (lh xs l u))):=.new hp
  exact k _ _ _ _ (.tup (.of aU) ((m7 h2).mono e)) (hm.add hp) e q2
 | ref a =>
  obtain ⟨ds,e0,q⟩:=bY q
  cases hx.ref_inv
  obtain ⟨xs,h1,h2,_⟩:=bb hm e0
  refine qQ pins s σ H _ v vl vu l u sl Q' I rx hsl pl pu ⟨a,xs,rfl,h1,fun p hp=>?_⟩
  have e:bH X.K H (upd H p (.lst (lh xs l u))):=.new hp
  exact k _ _ _ _ .ref (hm.new (c:=.lst (gT ds l u)) hp ⟨_,aU,(m7 h2).mono e⟩) e (q p (hm.fresh hp))
 | rl ds =>
  obtain ⟨a,xs,rfl,h1,h2⟩:=hx.rl_inv
  refine qQ pins s σ H _ v vl vu l u sl Q' I rx hsl pl pu ⟨a,xs,rfl,h1.sq,fun p hp=>?_⟩
  have e:bH X.K H (upd H p (.lst (lh xs l u))):=.new hp
  exact k _ _ _ _ .ref (hm.new (c:=.lst (gT ds l u)) hp ⟨_,aU,(m7 h2).mono e⟩) e (q p (hm.fresh hp))
 | _=>exact q.elim
theorem dh {e:Expr} {te:T3} {lo hi:Option Expr} {tl th:T3O} {p2:Pos} (he:E3 X e te) (hl:O3 X lo tl) (hu:O3 X hi th):E3 X (.Subscript e (.Slice lo hi none p2) pos) (s3 te tl th):=PE.mono (uV sl3 he hl hu) fun σ H Q' ⟨δ,M,Q,hs,hm,ht,k⟩ =>
 ⟨δ,M,_,hs,hm,ht,fun v H1 x M1 hx hm1 e1 q1=>⟨δ,M1,_,hs.mono e1,hm1,q1,fun l H2 M2 hm2 e2 q2=>⟨δ,M2,_,hs.mono (e1.trans e2),hm2,q2,fun u H3 M3 hm3 e3 q3=>⟨x,M3,Q,hx.mono (e2.trans e3),hm3,q3,gh (e1.trans (e2.trans e3)) k⟩⟩⟩⟩
def om:T3A:=fun _ M Q=>Q [] M
def mH (ta:T3) (tr:T3A):T3A:=fun δ M Q=>ta δ M fun x M1=>tr δ M1 fun xs M2=>Q (x :: xs) M2
theorem ai:A3 X [] om:=PA.mono zt fun σ H Q' ⟨δ,M,Q,hs,hm,ht,k⟩=>k [] H [] M .nil hm .refl ht
theorem ae {e:Expr} {es:List Expr} {te:T3} {t:T3A} (ha:E3 X e te) (hr:A3 X es t) (hs:starEach (e :: es) X.env=(false,eval e X.env) :: starEach es X.env:=by rfl):A3 X (e :: es) (mH te t):=PA.mono (wj ha hr hs) fun σ H Q' ⟨δ,M,Q,hs,hm,ht,k⟩ =>
 ⟨δ,M,_,hs,hm,ht,fun v H1 x M1 hx hm1 e1 q1=>⟨δ,M1,_,hs.mono e1,hm1,q1,fun vs H2 xs M2 hxs hm2 e2 q2=>k _ H2 _ M2 (.cons (hx.mono e2) hxs) hm2 (e1.trans e2) q2⟩⟩
def A4 (t:T3A):T3:=fun δ M Q=>t δ M fun ds M1=>ds.length≤sizeLine∧Q (.tup ds) M1
def A0 (t:T3A):T3:=fun δ M Q=>t δ M fun ds M1=>ds.length≤sizeLine∧∀ p,M1 p=none→Q (.ref p) (au M1 p (.lst ds))
theorem aK {x1} {es:List Expr} {t:T3A} (h:A3 X es t):E3 X (.Tuple es x1 pos) (A4 t):=PE.mono (xF h) fun σ H Q' ⟨δ,M,Q,hs,hm,ht,k⟩ =>
 ⟨δ,M,_,hs,hm,ht,fun vs H1 ds M1 hds hm1 e1 q1=>⟨by rw [← hds.length]; exact q1.1,fun p hp=>by
  have e:bH X.K H1 (upd H1 p (.tup vs)):=.new hp
  exact k _ _ _ M1 (.tup (.of aU) (hds.mono e)) (hm1.add hp) (e1.trans e) q1.2⟩⟩
theorem de {es:List Expr} {t:T3A} (h:A3 X es t):E3 X (.List es pos) (A0 t):=PE.mono (xT h) fun σ H Q' ⟨δ,M,Q,hs,hm,ht,k⟩ =>
 ⟨δ,M,_,hs,hm,ht,fun vs H1 ds M1 hds hm1 e1 q1=>⟨by rw [← hds.length]; exact q1.1,fun p hp=>by
  have e:bH X.K H1 (upd H1 p (.lst vs)):=.new hp
  exact k _ _ _ _ .ref (hm1.new (c:=.lst ds) hp ⟨_,aU,hds.mono e⟩) (e1.trans e) (q1.2 p (hm1.fresh hp))⟩⟩
def fE (t u:T3S):T3S:=fun D δ M=>t { D with nx:=u D } δ M
def nx3:T3S:=fun D δ M=>D.nx δ M
theorem aD:Ss3 X [] nx3:=PSs.mono v5 fun D' σ H ⟨δ,M,D,hs,hm,ht,k1,k2,k3,k4⟩=>k1 σ H δ M hs hm .refl rfl ht
theorem aj {st:Stmt} {rest:List Stmt} {t u:T3S} (h1:S3 X st t) (h2:Ss3 X rest u):Ss3 X (st :: rest) (fE t u):=PSs.mono (tR h1 h2) fun D' σ H ⟨δ,M,D,hs,hm,ht,k1,k2,k3,k4⟩ =>
 ⟨δ,M,{ D with nx:=u D },hs,hm,ht,fun σ1 H1 δ1 M1 hs1 hm1 e1 l1 q1=>⟨δ1,M1,D,hs1,hm1,q1,fun σ' H' δ' M' x1 x2 x3 x4 x5=>k1 σ' H' δ' M' x1 x2 (e1.trans x3) (x4.trans l1) x5,fun v H' d M' x1 x2 x3 x4=>k2 v H' d M' x1 x2 (e1.trans x3) x4,
  fun σ' H' δ' M' x1 x2 x3 x4 x5=>k3 σ' H' δ' M' x1 x2 (e1.trans x3) (x4.trans l1) x5,fun σ' H' δ' M' x1 x2 x3 x4 x5=>k4 σ' H' δ' M' x1 x2 (e1.trans x3) (x4.trans l1) x5⟩,k2,k3,k4⟩
theorem ak {st:Stmt} {t:T3S} (h1:S3 X st t):Ss3 X [st] t:=PSs.mono (qL h1) fun D' σ H h=>h
def AS:T3S:=fun D δ M=>D.ct δ M
theorem ou:S3 X (.Continue pos) AS:=PS.mono nZ fun D' σ H ⟨δ,M,D,hs,hm,ht,k1,k2,k3,k4⟩=>k4 σ H δ M hs hm .refl rfl ht
def xf (te:T3):T3S:=fun D δ M=>te δ M fun _ M1=>D.nx δ M1
theorem aE {e:Expr} {te:T3} (he:E3 X e te) (hsw:swapsWith e none pos.line X.env=pure false:=by rfl):S3 X (.Expr e pos) (xf te):=PS.mono (vF he hsw) fun D' σ H ⟨δ,M,D,hs,hm,ht,k1,k2,k3,k4⟩ =>
 ⟨δ,M,_,hs,hm,ht,fun v H1 d M1 hd hm1 e1 q1=>k1 σ H1 δ M1 (hs.mono e1) hm1 e1 rfl q1⟩
def zJ (te:T3):T3S:=fun D δ M=>te δ M D.rt
theorem aB {e:Expr} {te:T3} (he:E3 X e te):S3 X (.Return (some e) pos) (zJ te):=PS.mono (xS he) fun D' σ H ⟨δ,M,D,hs,hm,ht,k1,k2,k3,k4⟩=>⟨δ,M,_,hs,hm,ht,fun v H1 d M1 hd hm1 e1 q1=>k2 v H1 d M1 hd hm1 e1 q1⟩
def oM (c:T3T) (t u:T3S):T3S:=fun D δ M=>c δ M fun b M1=>if b=true then t D δ M1 else u D δ M1
theorem aL {c:Expr} {as bs:List Stmt} {tc:T3T} {t u:T3S} (hc:B3 X c tc) (ha:Ss3 X as t) (hb:Ss3 X bs u):S3 X (.If c as bs pos) (oM tc t u):=PS.mono (zz hc ha hb) fun D' σ H ⟨δ,M,D,hs,hm,ht,k1,k2,k3,k4⟩ =>
 ⟨δ,M,_,hs,hm,ht,fun b H1 M1 hm1 e1 q1=>by
  have up:∀ t:T3S,t D δ M1→loS X.K t D' σ H1:=fun t q=>⟨δ,M1,D,hs.mono e1,hm1,q,fun σ' H' δ' M' x1 x2 x3 x4 x5=>k1 σ' H' δ' M' x1 x2 (e1.trans x3) x4 x5,fun v H' d M' x1 x2 x3 x4=>k2 v H' d M' x1 x2 (e1.trans x3) x4,
   fun σ' H' δ' M' x1 x2 x3 x4 x5=>k3 σ' H' δ' M' x1 x2 (e1.trans x3) x4 x5,fun σ' H' δ' M' x1 x2 x3 x4 x5=>k4 σ' H' δ' M' x1 x2 (e1.trans x3) x4 x5⟩
  cases b with
  | true=>exact (if_pos rfl).mpr (up t ((if_pos rfl).mp q1))
  | false=>exact (if_neg Bool.false_ne_true).mpr (up u ((if_neg Bool.false_ne_true).mp q1))⟩
def zi:T3S:=fun _ _ _=>False
theorem dJ {st:Stmt}:S3 X st zi:=PS.mono tz fun D' σ H ⟨δ,M,D,hs,hm,ht,_⟩=>ht
abbrev T3G:=D→DSt→Mp→(DSt→Mp→Prop)→Prop
def loG (K:PySem.W.Frag) (g:T3G):TG:=fun v σ H Q'=>∃ d δ M Q,Has K H d v∧St3 K H σ δ∧HM K H M∧g d δ M Q∧∀ σ' H' δ' M',St3 K H' σ' δ'→HM K H' M'→bH K H H'→σ'.length=σ.length→Q δ' M'→Q' σ' H'
def G3 (X:Cx) (e:Expr) (g:T3G):Prop:=PG X e (loG X.K g)
theorem PG.monoL {X:Cx} {e:Expr} {t t':TG} (h:PG X e t) (m:∀ v σ H Q,σ.length=X.N.length→t' v σ H Q→t v σ H Q):PG X e t':=fun pins s σ H v u Q I r q=>h pins s σ H v u Q I r (m v σ H Q I.len q)
def hW (i:Nat):T3G:=fun d δ M Q=>Q (δ.set i (some d)) M
theorem aF {i:Nat} {x:Str} (hN:X.N.Nodup) (hi:X.N[i]?=some x) (hx:Loc X.env.scope x) (hf:X.fn x=true∨X.env.scope.names.lookup x=some .local:=by first | exact .inl rfl | exact .inr rfl | assumption):G3 X (.Name x pos) (hW i) :=
 PG.monoL (vK hN hi hx hf) fun v σ H Q' hl ⟨d,δ,M,Q,hd,hs,hm,ht,k⟩=>k _ H _ M (hs.set hd (by rw [hl]; exact (List.getElem?_eq_some_iff.mp hi).1)) hm .refl (by simp) ht
abbrev o9:=List D→DSt→Mp→(DSt→Mp→Prop)→Prop
def AV (K:PySem.W.Frag) (g:o9):TGs:=fun vs σ H Q'=>∃ ds δ M Q,aT K H ds vs∧St3 K H σ δ∧HM K H M∧g ds δ M Q∧∀ σ' H' δ' M',St3 K H' σ' δ'→HM K H' M'→bH K H H'→σ'.length=σ.length→Q δ' M'→Q' σ' H'
def Gs3 (X:Cx) (es:List Expr) (g:o9):Prop:=PGs X es (AV X.K g)
theorem PGs.mono {X:Cx} {e:List Expr} {t t':TGs} (h:PGs X e t) (m:∀ v σ H Q,t' v σ H Q→t v σ H Q):PGs X e t':=fun pins s σ H v u Q I r q=>h pins s σ H v u Q I r (m v σ H Q q)
theorem PG.mono {X:Cx} {e:Expr} {t t':TG} (h:PG X e t) (m:∀ v σ H Q,t' v σ H Q→t v σ H Q):PG X e t':=fun pins s σ H v u Q I r q=>h pins s σ H v u Q I r (m v σ H Q q)
def uF:o9:=fun ds δ M Q=>match ds with | []=>Q δ M | _=>False
def qo (t:T3G) (u:o9):o9:=fun ds δ M Q=>match ds with | d :: r=>t d δ M fun δ' M'=>u r δ' M' Q | []=>False
theorem eX:Gs3 X [] uF:=PGs.mono vp fun vs σ H Q' ⟨ds,δ,M,Q,hd,hs,hm,ht,k⟩=>by
 cases ds with
 | nil=>exact ⟨hd.nil_inv,k σ H δ M hs hm .refl rfl ht⟩
 | cons _ _=>exact ht.elim
theorem bn {e:Expr} {es:List Expr} {t:T3G} {u:o9} (h1:G3 X e t) (h2:Gs3 X es u) (hs:(assignEach (e :: es) X.env).map (·.2)=assign e X.env :: (assignEach es X.env).map (·.2):=by rfl):Gs3 X (e :: es) (qo t u) :=
 PGs.mono (tM h1 h2 hs) fun vs σ H Q' ⟨ds,δ,M,Q,hd,hs,hm,ht,k⟩=>by
 cases ds with
 | nil=>exact ht.elim
 | cons d r =>
  obtain ⟨x,xr,rfl,hx,hr⟩:=hd.inv
  exact ⟨x,xr,rfl,d,δ,M,_,hx,hs,hm,ht,fun σ1 H1 δ1 M1 hs1 hm1 e1 l1 q1=>⟨r,δ1,M1,Q,hr.mono e1,hs1,hm1,q1,fun σ' H' δ' M' x1 x2 x3 x4 x5=>k σ' H' δ' M' x1 x2 (e1.trans x3) (x4.trans l1) x5⟩⟩
def z5 (n:Nat) (t:o9):T3G:=fun d δ M Q=>match d with | .tup ds=>ds.length=n∧t ds δ M Q | _=>False
theorem fQ {es:List Expr} {k:Nat} {t:o9} {n:Nat} (hc:X.calm=true) (h:Gs3 X es t) (hn:(assignEach es X.env).length=n:=by rfl) (hst:(assignEach es X.env).findIdx? (·.1)=none:=by rfl):G3 X (.Tuple es k pos) (z5 n t) :=
 PG.mono (xz hc h hn hst) fun v σ H Q' ⟨d,δ,M,Q,hd,hs,hm,ht,k⟩=>by
 cases d with
 | tup ds =>
  obtain ⟨a,xs,rfl,h1,h2⟩:=hd.tup_inv
  exact ⟨a,xs,rfl,h1,by rw [← h2.length]; exact ht.1,ds,δ,M,Q,h2,hs,hm,ht.2,k⟩
 | _=>exact ht.elim
def gL (te:T3) (g:T3G):T3S:=fun D δ M=>te δ M fun x M1=>g x δ M1 D.nx
theorem tP {tg e:Expr} {te:T3} {g:T3G} (he:E3 X e te) (hg:G3 X tg g) (hs:swapsWithSole [tg] e pos.line X.env=pure false:=by rfl) (hw:swappedStores [tg] e X.env=pure none:=by rfl)
  (h1:(assignEach [tg] X.env).map (·.2)=[assign tg X.env]:=by rfl):S3 X (.Assign [tg] e pos) (gL te g):=PS.mono (zu he hg hs hw h1) fun D' σ H ⟨δ,M,D,hs,hm,ht,k1,k2,k3,k4⟩ =>
 ⟨δ,M,_,hs,hm,ht,fun v H1 d M1 hd hm1 e1 q1=>⟨d,δ,M1,_,hd,hs.mono e1,hm1,q1,fun σ' H' δ' M' x1 x2 x3 x4 x5=>k1 σ' H' δ' M' x1 x2 (e1.trans x3) x4 x5⟩⟩
theorem aG {i:Nat} {x:Str} {e:Expr} {te:T3} {pos':Pos} (hN:X.N.Nodup) (hi:X.N[i]?=some x) (hx:Loc X.env.scope x) (he:E3 X e te) (hsw:swapsWith e (some (.Name x pos')) pos.line X.env=pure false:=by rfl)
  (hf:X.fn x=true∨X.env.scope.names.lookup x=some .local:=by first | exact .inl rfl | exact .inr rfl | assumption):S3 X (.Assign [.Name x pos'] e pos) (gL te (hW i)):=PS.monoL (zk hN hi hx he hsw hf) fun D' σ H hl ⟨δ,M,D,hs,hm,ht,k1,k2,k3,k4⟩ =>
 ⟨δ,M,_,hs,hm,ht,fun v H1 d M1 hd hm1 e1 q1=>k1 _ H1 _ M1 ((hs.mono e1).set hd (by rw [hl]; exact (List.getElem?_eq_some_iff.mp hi).1)) hm1 e1 (by simp) q1⟩
end
end L3
namespace L3
open PySem PySem.Spec PyProof.Rows L2
abbrev Sp3:=List D→Mp→DK→Prop
def up3 (K:PySem.W.Frag) (sp:Sp3):Sp:=fun vs H Q' _=>∃ ds M Q,aT K H ds vs∧HM K H M∧sp ds M Q∧Up K H Q' Q
def jN (N:List Str) (ds:List D):DSt:=ds.map some ++ List.replicate (N.length - ds.length) none
theorem mz {K:PySem.W.Frag} {H:Hp} {N:List Str} {ds:List D} {vs:List V} (h:aT K H ds vs):St3 K H (L2.start N vs) (jN N ds):=fun i d q=>by
 unfold jN at q
 unfold L2.start
 by_cases hi:i < ds.length
 ·rw [List.getElem?_append_left (by simpa using hi),List.getElem?_map] at q
  cases e:ds[i]? with
  | none=>rw [e] at q; cases q
  | some d' =>
   rw [e] at q
   cases q
   obtain ⟨v,e1,e2⟩:=h.get e
   refine ⟨v,?_,e2⟩
   rw [List.getElem?_append_left (by rw [List.length_map,← h.length]; exact hi),List.getElem?_map,e1]
   rfl
 ·rw [List.getElem?_append_right (by simpa using hi),List.getElem?_replicate] at q
  split at q <;> cases q
section
variable {P:Program} {w:World} {K:PySem.W.Frag} {mg:Str→Option Value} {base:Heap}
abbrev Fn3 (P:Program) (w:World) (K:PySem.W.Frag) (mg:Str→Option Value) (base:Heap) (k:Nat) (f:Addr) (fd:FuncData) (ps:List Str) (sp:Sp3):Prop:=iw P w K mg base CX0 k f fd ps (up3 K sp)
end
section
variable {X:Cx} {k:Nat} {f C:Addr} {fd:FuncData} {ps:List Str} {sp:Sp3} {x m fn:Str} {p pos apos:Pos} {e o:Expr} {es:List Expr} {ta:T3} {t:T3A}
def oh (sp:Sp3) (t:T3A):T3:=fun δ M Q=>t δ M fun ds M1=>sp ds M1 Q
theorem ay (F:Fn3 X.prog X.w X.K X.mg X.base k f fd ps sp) (hr:dG k X.A) (hg:Gl X x) (hm:X.mg x=some (.ref f)) (hk:PySem.W.keepIn X.K (.ref f)=true) (hb:aJ X.K fd ps []) (ha:A3 X (e :: es) t)
  (hdb:(x == ("__debug__":Str))=false:=by decide) (he:starEach (e :: es) X.env=(false,eval e X.env) :: starEach es X.env:=by rfl) (hpl:(backTo pos (starEach es X.env)).any (·.1)=false:=by rfl) :
  E3 X (.Call (.Name x p) (e :: es) [] pos) (oh sp t):=PE.mono (vI F hr hg hm hk hb .nil (qU (X:=X)) ha hdb he hpl) fun σ H Q' ⟨δ,M,Q,hs,hm,ht,k⟩ =>
 ⟨δ,M,_,hs,hm,ht,fun vs H1 ds M1 hd hm1 e1 q1=>⟨ds,M1,Q,by rw [List.append_nil]; exact hd,hm1,q1,gh e1 k⟩⟩
def C3 (X:Cx) (f:Value) (r:Sp3):Prop:=ja X f fun vs H Q'=>∃ ds M Q,aT X.K H ds vs∧HM X.K H M∧r ds M Q∧Up X.K H Q' Q
theorem aP {id:String} {r:Sp3} (hc:C3 X (.builtin id) r) (hg:Gl X x) (hm:X.mg x=none) (hv:bootBuiltins x=some (.builtin id)) (ha:A3 X (e :: es) t) (hn:x ≠ "__name__":=by decide) (hdb:(x == ("__debug__":Str))=false:=by decide)
  (he:starEach (e :: es) X.env=(false,eval e X.env) :: starEach es X.env:=by rfl) (hpl:(backTo pos (starEach es X.env)).any (·.1)=false:=by rfl):E3 X (.Call (.Name x p) (e :: es) [] pos) (oh r t) :=
 PE.mono (sL hc hg hm hv ha hn hdb he hpl) fun σ H Q' ⟨δ,M,Q,hs,hm,ht,k⟩=>⟨δ,M,_,hs,hm,ht,fun vs H1 ds M1 hd hm1 e1 q1=>⟨ds,M1,Q,hd,hm1,q1,gh e1 k⟩⟩
theorem ba {T:String} {r:Sp3} (hc:C3 X (.type T) r) (hg:Gl X x) (hm:X.mg x=none) (hv:bootBuiltins x=some (.type T)) (ha:A3 X (e :: es) t) (hn:x ≠ "__name__":=by decide) (hdb:(x == ("__debug__":Str))=false:=by decide)
  (he:starEach (e :: es) X.env=(false,eval e X.env) :: starEach es X.env:=by rfl) (hpl:(backTo pos (starEach es X.env)).any (·.1)=false:=by rfl):E3 X (.Call (.Name x p) (e :: es) [] pos) (oh r t) :=
 PE.mono (rY hc hg hm hv ha hn hdb he hpl) fun σ H Q' ⟨δ,M,Q,hs,hm,ht,k⟩=>⟨δ,M,_,hs,hm,ht,fun vs H1 ds M1 hd hm1 e1 q1=>⟨ds,M1,Q,hd,hm1,q1,gh e1 k⟩⟩
def ze (ds:List D) (M:Mp) (Q:DK):Prop:=match ds with
 | [.str z]=>z.length≤sizeLine∧Q (.int z.length) M
 | [.tup es]=>Q (.int es.length) M
 | [.ref a]=>(lstM M a).elim False fun es=>Q (.int es.length) M
 | [.rl es]=>Q (.int es.length) M
 | _=>False
theorem cQ {K:PySem.W.Frag} {H:Hp} {d:D} {vs:List V} (h:aT K H [d] vs):∃ v,vs=[v]∧Has K H d v:=by
 obtain ⟨x,r,rfl,a,b⟩:=h.inv
 rw [b.nil_inv]
 exact ⟨x,rfl,a⟩
theorem wZ {K:PySem.W.Frag} {H:Hp} {d e:D} {vs:List V} (h:aT K H [d,e] vs):∃ v u,vs=[v,u]∧Has K H d v∧Has K H e u:=by
 obtain ⟨x,r,rfl,a,b⟩:=h.inv
 obtain ⟨y,rfl,c⟩:=cQ b
 exact ⟨x,y,rfl,a,c⟩
theorem bW:C3 X (.builtin "len") ze:=by
 intro pins s σ H vs us Q' I rv h
 obtain ⟨ds,M,Q,hd,hm,q,k⟩:=h
 unfold ze at q
 split at q
 ·obtain ⟨v,rfl,hv⟩:=cQ hd
  cases hv.str_inv
  exact nF pins s σ H _ us Q' I rv ⟨_,rfl,q.1,k _ _ _ _ .int hm .refl q.2⟩
 ·obtain ⟨v,rfl,hv⟩:=cQ hd
  obtain ⟨a,xs,rfl,h1,h2⟩:=hv.tup_inv
  exact gP pins s σ H _ us Q' I rv ⟨a,xs,rfl,.inr h1,k _ _ _ _ (by rw [← h2.length]; exact .int) hm .refl q⟩
 ·obtain ⟨v,rfl,hv⟩:=cQ hd
  obtain ⟨es,e0,q⟩:=bY q
  cases hv.ref_inv
  obtain ⟨xs,h1,h2,_⟩:=bb hm e0
  exact gP pins s σ H _ us Q' I rv ⟨_,xs,rfl,.inl h1,k _ _ _ _ (by rw [← h2.length]; exact .int) hm .refl q⟩
 ·obtain ⟨v,rfl,hv⟩:=cQ hd
  obtain ⟨a,xs,rfl,h1,h2⟩:=hv.rl_inv
  exact gP pins s σ H _ us Q' I rv ⟨a,xs,rfl,.inl h1.sq,k _ _ _ _ (by rw [← h2.length]; exact .int) hm .refl q⟩
 ·exact q.elim
def zY (ds:List D) (M:Mp) (Q:DK):Prop:=match ds with
 | [.int i,.int j]=>Q (.int (if j < i then j else i)) M
 | _=>False
theorem yN (hc:X.calm=true):C3 X (.builtin "min") zY:=by
 intro pins s σ H vs us Q' I rv h
 obtain ⟨ds,M,Q,hd,hm,q,k⟩:=h
 unfold zY at q
 split at q
 ·obtain ⟨v,u,rfl,hv,hw⟩:=wZ hd
  cases hv.int_inv; cases hw.int_inv
  exact rN hc pins s σ H _ us Q' I rv ⟨_,_,rfl,k _ _ _ _ .int hm .refl q⟩
 ·exact q.elim
def vd (ds:List D) (M:Mp) (Q:DK):Prop:=match ds with
 | [.tup es]=>Q (.tup es) M
 | [.ref a]=>(lstM M a).elim False fun es=>Q (.tup es) M
 | [.rl es]=>Q (.tup es) M
 | _=>False
theorem eS:C3 X (.type "tuple") vd:=by
 intro pins s σ H vs us Q' I rv h
 obtain ⟨ds,M,Q,hd,hm,q,k⟩:=h
 unfold vd at q
 split at q
 ·obtain ⟨v,rfl,hv⟩:=cQ hd
  obtain ⟨a,xs,rfl,h1,h2⟩:=id hv.tup_inv
  exact gk pins s σ H _ us Q' I rv ⟨a,xs,rfl,.inr ⟨h1,k _ _ _ _ hv hm .refl q⟩⟩
 ·obtain ⟨v,rfl,hv⟩:=cQ hd
  obtain ⟨es,e0,q⟩:=bY q
  cases hv.ref_inv
  obtain ⟨xs,h1,h2,_⟩:=bb hm e0
  refine gk pins s σ H _ us Q' I rv ⟨_,xs,rfl,.inl ⟨h1,fun l hl=>?_⟩⟩
  have e:bH X.K H (upd H l (.tup xs)):=.new hl
  exact k _ _ _ _ (.tup (.of aU) (h2.mono e)) (hm.add hl) e q
 ·obtain ⟨v,rfl,hv⟩:=cQ hd
  obtain ⟨a,xs,rfl,h1,h2⟩:=hv.rl_inv
  refine gk pins s σ H _ us Q' I rv ⟨_,xs,rfl,.inl ⟨h1.sq,fun l hl=>?_⟩⟩
  have e:bH X.K H (upd H l (.tup xs)):=.new hl
  exact k _ _ _ _ (.tup (.of aU) (h2.mono e)) (hm.add hl) e q
 ·exact q.elim
def xn (ds:List D) (M:Mp) (Q:DK):Prop:=match ds with
 | [d]=>(uM M d).elim False fun es=>∀ p,M p=none→Q (.ref p) (au M p (.lst es))
 | _=>False
theorem fk:C3 X (.type "list") xn:=by
 intro pins s σ H vs us Q' I rv h
 obtain ⟨ds,M,Q,hd,hm,q,k⟩:=h
 unfold xn at q
 split at q
 ·obtain ⟨v,rfl,hv⟩:=cQ hd
  obtain ⟨es,e0,q⟩:=bY q
  obtain ⟨p,xs,rfl,h1,h2⟩:=nI hm hv e0
  refine m8 pins s σ H _ us Q' I rv ⟨p,xs,rfl,h1,fun l hl=>?_⟩
  have e:bH X.K H (upd H l (.lst xs)):=.new hl
  exact k _ _ _ _ .ref (hm.new (c:=.lst es) hl ⟨_,aU,h2.mono e⟩) e (q l (hm.fresh hl))
 ·exact q.elim
theorem gJ {K:PySem.W.Frag} {H:Hp} {f:Str}:∀ {fs:List (Str × D)} {vs:List (Str × V)},kN K H fs vs→(∀ d,fs.lookup f=some d→∃ v,vs.lookup f=some v∧Has K H d v)∧(fs.lookup f=none→vs.lookup f=none)
 | [],[],_=>⟨fun d e=>by simp at e,fun _=>rfl⟩
 | [],_ :: _,h=>by have:=h.1; simp at this
 | _ :: _,[],h=>by have:=h.1; simp at this
 | (g,d) :: fs,(g',v) :: vs,h=>by
  have h1:g'=g∧vs.map (·.1)=fs.map (·.1):=by
   have:=h.1
   simpa using this
  obtain ⟨x,r,e,a,b⟩:=h.2.inv
  have e':v :: vs.map (·.2)=x :: r:=e
  cases e'
  obtain ⟨i1,i2⟩:=gJ (f:=f) (fs:=fs) (vs:=vs) ⟨h1.2,b⟩
  rw [h1.1]
  refine ⟨fun d' e=>?_,fun e=>?_⟩
  ·rw [List.lookup_cons] at e ⊢
   cases q:f == g with
   | true=>rw [q] at e; cases e; exact ⟨v,rfl,a⟩
   | false=>rw [q] at e; exact i1 d' e
  ·rw [List.lookup_cons] at e ⊢
   cases q:f == g with
   | true=>rw [q] at e; cases e
   | false=>rw [q] at e; exact i2 e
theorem qx {f:Str} {d:D}:∀ {fs:List (Str × D)},fs.lookup f=some d→f∈fs.map (·.1)
 | [],h=>by simp at h
 | (g,e) :: r,h=>by
  rw [List.lookup_cons] at h
  cases q:f == g with
  | true =>
   have z:f=g:=by simpa using q
   rw [z,List.map_cons]
   exact List.mem_cons_self
  | false=>rw [q] at h; simp [qx h]
def oa (o:Option gz) (F:Addr→List (Str × D)→Prop):Prop:=match o with
 | some (.ins C fs)=>F C fs
 | _=>False
theorem ap {o:Option gz} {F:Addr→List (Str × D)→Prop} {C:Addr} {fs:List (Str × D)} (e:o=some (.ins C fs)) (h:F C fs):oa o F:=by rw [e]; exact h
theorem gW {o:Option gz} {F:Addr→List (Str × D)→Prop} (h:oa o F):∃ C fs,o=some (.ins C fs)∧F C fs:=by
 unfold oa at h
 split at h
 ·exact ⟨_,_,rfl,h⟩
 ·exact h.elim
def zx (f:Str) (ta:T3):T3:=fun δ M Q=>ta δ M fun x M1=>match x with
 | .ref a=>oa (M1 a) fun _ fs=>(fs.lookup f).elim False fun d=>Q d M1
 | _=>False
theorem aw {f:Str} (he:E3 X o ta) (hb:attributeBase o f X.env (eval o X.env)=eval o X.env:=by rfl):E3 X (.Attribute o f pos) (zx f ta):=PE.mono (xH he hb) fun σ H Q' ⟨δ,M,Q,hs,hm,ht,k⟩ =>
 ⟨δ,M,_,hs,hm,ht,fun v H1 d M1 hd hm1 e1 q1=>by
  cases d with
  | ref a =>
   cases hd.ref_inv
   obtain ⟨C,fs,e,q1⟩:=gW q1
   obtain ⟨d,e2,q⟩:=bY q1
   obtain ⟨dx,vs,h1,cl,na,fo⟩:=hm1 a _ e
   obtain ⟨v,e3,hv⟩:=(gJ fo).1 d e2
   exact ⟨a,C,dx,vs,v,rfl,h1,cl,na f (qx e2),e3,k v H1 d M1 hv hm1 e1 q⟩
  | _=>exact q1.elim⟩
def putD (f:Str) (v:D):List (Str × D)→List (Str × D)
 | []=>[(f,v)]
 | (g,u) :: r=>if g=f then (g,v) :: r else (g,u) :: putD f v r
theorem mG {K:PySem.W.Frag} {H:Hp} {f:Str} {d:D} {v:V} (hv:Has K H d v):∀ {fs:List (Str × D)} {vs:List (Str × V)},kN K H fs vs→kN K H (putD f d fs) (fU f v vs)
 | [],[],_=>⟨rfl,.cons hv .nil⟩
 | [],_ :: _,h=>by have:=h.1; simp at this
 | _ :: _,[],h=>by have:=h.1; simp at this
 | (g,e) :: fs,(g',u) :: vs,h=>by
  have h1:g'=g∧vs.map (·.1)=fs.map (·.1):=by
   have:=h.1
   simpa using this
  obtain ⟨x,r,e1,a,b⟩:=h.2.inv
  have e':u :: vs.map (·.2)=x :: r:=e1
  cases e'
  obtain ⟨hg,ht⟩:=h1
  subst hg
  rw [show putD f d ((g',e) :: fs)=(if g'=f then (g',d) :: fs else (g',e) :: putD f d fs) from rfl,show fU f v ((g',u) :: vs)=(if g'=f then (g',v) :: vs else (g',u) :: fU f v vs) from rfl]
  by_cases q:g'=f
  ·rw [if_pos q,if_pos q]
   exact ⟨by simpa using ht,.cons hv b⟩
  ·rw [if_neg q,if_neg q]
   obtain ⟨i1,i2⟩:=mG hv (fs:=fs) (vs:=vs) ⟨ht,b⟩
   exact ⟨by simpa using i1,.cons a i2⟩
theorem kx {f:Str} {d:D}:∀ {fs:List (Str × D)} {g:Str},g∈(putD f d fs).map (·.1)→g=f∨g∈fs.map (·.1)
 | [],g,h=>.inl (by simpa [putD] using h)
 | (k,e) :: r,g,h=>by
  rw [show putD f d ((k,e) :: r)=(if k=f then (k,d) :: r else (k,e) :: putD f d r) from rfl] at h
  by_cases q:k=f
  ·rw [if_pos q] at h
   exact .inr (by simpa using h)
  ·rw [if_neg q] at h
   rw [List.map_cons,List.mem_cons] at h
   rcases h with h | h
   ·exact .inr (by simp [h])
   ·rcases kx h with z | z
    ·exact .inl z
    ·exact .inr (by simp; right; simpa using z)
def Ao (K:PySem.W.Frag) (f:Str) (ta tv:T3):T3S:=fun D δ M=>tv δ M fun y M1=>ta δ M1 fun x M2=>match x with
 | .ref a=>oa (M2 a) fun C fs=>bG K C f∧fs.length < 1000∧D.nx δ (au M2 a (.ins C (putD f y fs)))
 | _=>False
theorem bc {f:Str} {value:Expr} {tv:T3} {pos':Pos} (ha:E3 X o ta) (hv:E3 X value tv) (hsw:swapsWith value (some (.Attribute o f pos')) pos.line X.env=pure false:=by rfl):S3 X (.Assign [.Attribute o f pos'] value pos) (Ao X.K f ta tv) :=
 PS.mono (xu ha hv hsw) fun D' σ H ⟨δ,M,D,hs,hm,ht,k1,k2,k3,k4⟩ =>
 ⟨δ,M,_,hs,hm,ht,fun y H1 dy M1 hy hm1 e1 q1=>⟨δ,M1,_,hs.mono e1,hm1,q1,fun v H2 d M2 hd hm2 e2 q2=>by
  cases d with
  | ref a =>
   cases hd.ref_inv
   obtain ⟨C,fs,e,q2⟩:=gW q2
   obtain ⟨na,hl,q⟩:=q2
   obtain ⟨dx,vs,h1,cl,nn,fo⟩:=hm2 a _ e
   have hlen:vs.length=fs.length:=by have:=congrArg List.length fo.1; simpa using this
   refine ⟨a,C,dx,vs,rfl,h1,cl,na,by omega,?_⟩
   obtain ⟨hm3,e3⟩:=hm2.put (p:=a) (o:=.ins C dx (fU f y vs)) (c:=.ins C (putD f dy fs)) e fun x=>⟨dx,_,aU,cl,fun g hg=>by
    rcases kx hg with z | z
    ·rw [z]; exact na
    ·exact nn g z,mG ((hy.mono e2).mono x) (fo.mono x)⟩
   exact k1 σ _ δ _ (hs.mono (e1.trans (e2.trans e3))) hm3 (e1.trans (e2.trans e3)) rfl q
  | _=>exact q2.elim⟩⟩
def Ah (C:Addr) (sp:Sp3) (t:T3A):T3:=fun δ M Q=>t δ M fun ds M1=>∀ x,M1 x=none→sp (.ref x :: ds) (au M1 x (.ins C [])) fun d M2=>d=.non∧Q (.ref x) M2
theorem sW {K:PySem.W.Frag} {H:Hp} {M:Mp} {xa dx:Addr} (hm:HM K H M) (cl:Cls K C) (h1:H xa=none) (h2:H dx=none) (ne:dx ≠ xa):HM K (upd (upd H dx (.own xa)) xa (.ins C dx [])) (au M xa (.ins C []))∧bH K H (upd (upd H dx (.own xa)) xa (.ins C dx [])):=by
 have h1':upd H dx (.own xa) xa=none:=by rw [aN (Ne.symm ne)]; exact h1
 exact ⟨(hm.add (p:=dx) (o:=.own xa) h2).new h1' ⟨dx,[],aU,cl,fun g hg=>by simp at hg,rfl,.nil⟩,bH.trans (.new h2) (.new h1')⟩
theorem nv (cl:Cls X.K C) (Mk':Mk X.K C f) (F:Fn3 X.prog X.w X.K X.mg X.base k f fd ps sp) (hr:dG (k + 1) X.A) (hg:Gl X x) (hm:X.mg x=some (.ref C)) (hb:aJ X.K fd ps []) (ha:A3 X (e :: es) t)
  (hdb:(x == ("__debug__":Str))=false:=by decide) (he:starEach (e :: es) X.env=(false,eval e X.env) :: starEach es X.env:=by rfl) (hpl:(backTo pos (starEach es X.env)).any (·.1)=false:=by rfl) :
  E3 X (.Call (.Name x p) (e :: es) [] pos) (Ah C sp t):=PE.mono (wH Mk' F hr hg hm hb .nil (qU (X:=X)) ha hdb he hpl) fun σ H Q' ⟨δ,M,Q,hs,hm,ht,k⟩ =>
 ⟨δ,M,_,hs,hm,ht,fun vs H1 ds M1 hd hm1 e1 q1=>fun xa dx n1 n2 ne=>by
  obtain ⟨hm2,e2⟩:=sW hm1 cl n1 n2 ne
  refine ⟨.ref xa :: ds,_,_,?_,hm2,q1 xa (hm1.fresh n1),fun v H3 d M3 hd3 hm3 e3 q3=>?_⟩
  ·rw [List.append_nil]
   exact .cons .ref (hd.mono e2)
  ·obtain ⟨z,q3⟩:=q3
   subst z
   exact ⟨hd3.non_inv,k _ H3 _ M3 .ref hm3 (e1.trans (e2.trans e3)) q3⟩⟩
def pH (m:Str) (R:Addr→Sp→Prop) (ta:TE) (t:TA):TE:=fun σ H Q=>ta σ H fun x H1=>∃ a C dx fs sp,x=.ref a∧H1 a=some (.ins C dx fs)∧fs.lookup m=none∧R C sp∧t σ H1 fun vs H2=>sp (x :: vs) H2 Q E0
def mJ (P:Program) (w:World) (K:PySem.W.Frag) (mg:Str→Option Value) (base:Heap) (k:Nat) (m:Str) (C:Addr) (sp:Sp):Prop:=Cls K C∧∃ f fd ps,gu K C m f∧iw P w K mg base CX0 k f fd ps sp∧aJ K fd ps []
theorem uT {R:Addr→Sp→Prop} {ta:TE} {t:TA} {pl:Sem Bool} (he:PE X o ta) (hR:∀ C sp,R C sp→mJ X.prog X.w X.K X.mg X.base k m C sp) (hr:dG k X.A) (ha:PA X (e :: es) t)
  (hst:starEach (e :: es) X.env=(false,eval e X.env) :: starEach es X.env:=by rfl) (hpl:(backTo pos (starEach es X.env)).any (·.1)=false:=by rfl)
  (ht:eval (.Call (.Attribute o m apos) (e :: es) [] pos) X.env=(do
   let ov ← eval o X.env
   standAt apos.atName
   let (f,first) ← holding [ov] (getMethod ov m pl)
   callWith pos f first (backTo pos (starEach (e :: es) X.env)) (backToKw pos (keywordEach [] X.env))):=by rfl) :
  PE X (.Call (.Attribute o m apos) (e :: es) [] pos) (pH m R ta t):=by
 intro pins s σ H Q I h
 refine PySem.W.methodCall_KW (pl:=pl) (thn (he pins s σ H _ I h) fun u s1 ⟨x,H1,I1,rx,a,C,dx,fs,sp,ex,ea,l,hRC,q⟩=>?_) ht
 obtain ⟨c,f,fd,ps,hm,F,hb⟩:=hR C sp hRC
 subst ex
 obtain rfl:u=Value.ref a:=rx
 refine lq I1 ea c hm l ?_
 refine PySem.W.callWith_K (first:=[.ref a]) (h₀:=X.base) I.ok.mod.kin hm.kp (thn (ha pos pins s1 σ H1 _ I1 q) fun us s2 ⟨vs,H2,I2,r,q2⟩=>⟨I2.kIn,?_⟩) hst hpl
 exact pB (us:=.ref a :: us) (vs:=.ref a :: vs) F hr hb .nil (qU (X:=X)) I2 (.cons rfl r) (by rw [List.append_nil]; exact q2)
theorem rc {R:Addr→Sp→Prop} {ta:TE} {pl:Sem Bool} (he:PE X o ta) (hR:∀ C sp,R C sp→mJ X.prog X.w X.K X.mg X.base k m C sp) (hr:dG k X.A)
  (ht:eval (.Call (.Attribute o m apos) [] [] pos) X.env=(do
   let ov ← eval o X.env
   standAt apos.atName
   let (f,first) ← holding [ov] (getMethod ov m pl)
   callWith pos f first (backTo pos (starEach [] X.env)) (backToKw pos (keywordEach [] X.env))):=by rfl) :
  PE X (.Call (.Attribute o m apos) [] [] pos) (pH m R ta zV):=by
 intro pins s σ H Q I h
 refine PySem.W.methodCall_KW (pl:=pl) (thn (he pins s σ H _ I h) fun u s1 ⟨x,H1,I1,rx,a,C,dx,fs,sp,ex,ea,l,hRC,q⟩=>?_) ht
 obtain ⟨c,f,fd,ps,hm,F,hb⟩:=hR C sp hRC
 subst ex
 obtain rfl:u=Value.ref a:=rx
 refine lq I1 ea c hm l ?_
 exact PySem.W.callWith_K0 (first:=[.ref a]) I1.kIn hm.kp (pB (us:=[.ref a]) (vs:=[.ref a]) F hr hb .nil (qU (X:=X)) I1 (.cons rfl .nil) (by rw [List.append_nil]; exact q))
def sX (m:Str) (R:Addr→Sp3→Prop) (ta:T3) (t:T3A):T3:=fun δ M Q=>ta δ M fun x M1=>match x with
 | .ref a=>oa (M1 a) fun C fs=>fs.lookup m=none∧∃ sp,R C sp∧t δ M1 fun ds M2=>sp (x :: ds) M2 Q
 | _=>False
def upR (K:PySem.W.Frag) (R:Addr→Sp3→Prop):Addr→Sp→Prop:=fun C sp'=>∃ sp,R C sp∧sp'=up3 K sp
theorem qT {R:Addr→Sp3→Prop}:∀ σ H Q',lo X.K (sX m R ta t) σ H Q'→pH m (upR X.K R) (lo X.K ta) (loA X.K t) σ H Q':=fun σ H Q' ⟨δ,M,Q,hs,hm,ht,k⟩ =>
 ⟨δ,M,_,hs,hm,ht,fun v H1 d M1 hd hm1 e1 q1=>by
  cases d with
  | ref a =>
   cases hd.ref_inv
   obtain ⟨C,fs,e,q1⟩:=gW q1
   obtain ⟨hn,sp,hR,q⟩:=q1
   obtain ⟨dx,vs,h1,cl,na,fo⟩:=hm1 a _ e
   exact ⟨a,C,dx,vs,_,rfl,h1,(gJ fo).2 hn,⟨sp,hR,rfl⟩,δ,M1,_,hs.mono e1,hm1,q,fun us H2 ds M2 hds hm2 e2 q2=>⟨.ref a :: ds,M2,Q,.cons .ref hds,hm2,q2,gh (e1.trans e2) k⟩⟩
  | _=>exact q1.elim⟩
theorem aS {R:Addr→Sp3→Prop} {pl:Sem Bool} (he:E3 X o ta) (hR:∀ C sp,R C sp→mJ X.prog X.w X.K X.mg X.base k m C (up3 X.K sp)) (hr:dG k X.A) (ha:A3 X (e :: es) t)
  (hst:starEach (e :: es) X.env=(false,eval e X.env) :: starEach es X.env:=by rfl) (hpl:(backTo pos (starEach es X.env)).any (·.1)=false:=by rfl)
  (ht:eval (.Call (.Attribute o m apos) (e :: es) [] pos) X.env=(do
   let ov ← eval o X.env
   standAt apos.atName
   let (f,first) ← holding [ov] (getMethod ov m pl)
   callWith pos f first (backTo pos (starEach (e :: es) X.env)) (backToKw pos (keywordEach [] X.env))):=by rfl) :
  E3 X (.Call (.Attribute o m apos) (e :: es) [] pos) (sX m R ta t):=PE.mono (uT (R:=upR X.K R) he (fun C sp' ⟨sp,h,z⟩=>by rw [z]; exact hR C sp h) hr ha hst hpl ht) qT
theorem jp {R:Addr→Sp3→Prop} {pl:Sem Bool} (he:E3 X o ta) (hR:∀ C sp,R C sp→mJ X.prog X.w X.K X.mg X.base k m C (up3 X.K sp)) (hr:dG k X.A)
  (ht:eval (.Call (.Attribute o m apos) [] [] pos) X.env=(do
   let ov ← eval o X.env
   standAt apos.atName
   let (f,first) ← holding [ov] (getMethod ov m pl)
   callWith pos f first (backTo pos (starEach [] X.env)) (backToKw pos (keywordEach [] X.env))):=by rfl) :
  E3 X (.Call (.Attribute o m apos) [] [] pos) (sX m R ta om):=PE.mono (rc (R:=upR X.K R) he (fun C sp' ⟨sp,h,z⟩=>by rw [z]; exact hR C sp h) hr ht) fun σ H Q' h=>by
 obtain ⟨δ,M,Q,hs,hm,ht,k⟩:=qT (t:=om) σ H Q' h
 refine ⟨δ,M,Q,hs,hm,ht,fun v H' d M' x1 x2 x3 x4=>?_⟩
 obtain ⟨a,C,dx,fs,sp,e1,e2,e3,e4,δ',M'',Q'',y1,y2,y3,y4⟩:=k v H' d M' x1 x2 x3 x4
 exact ⟨a,C,dx,fs,sp,e1,e2,e3,e4,y4 [] H' [] M'' .nil y2 .refl y3⟩
end
end L3
namespace L3
open PySem PySem.Spec PyProof.Rows L2
structure qk (K:PySem.W.Frag) (H1:Hp) (J:It) (ds:List D) (ok:Mp→Prop):Prop where
 go:∀ i H M,i < ds.length→HM K H M→ok M→bH K H1 H→J.go i H
 yld:∀ i d H M x H',ds[i]?=some d→HM K H M→ok M→bH K H1 H→J.yld i H x H'→Has K H' d x∧HM K H' M∧bH K H H'
 stop:∀ H M,HM K H M→ok M→bH K H1 H→J.stop ds.length H
abbrev T3I:=DSt→Mp→(List D→(Mp→Prop)→Mp→Prop)→Prop
def loI (K:PySem.W.Frag) (wi:T3I):TI:=fun σ H R'=>∃ δ M R,St3 K H σ δ∧HM K H M∧wi δ M R∧∀ J H1 ds ok M1,qk K H1 J ds ok→HM K H1 M1→bH K H H1→ok M1→R ds ok M1→R' J H1
def I3 (X:Cx) (tg iter:Expr) (wi:T3I):Prop:=PI X tg iter (loI X.K wi)
theorem PI.mono {X:Cx} {tg e:Expr} {t t':TI} (h:PI X tg e t) (m:∀ σ H Q,t' σ H Q→t σ H Q):PI X tg e t':=fun pins s σ H Q I q=>h pins s σ H Q I (m σ H Q q)
section
variable {K:PySem.W.Frag} {H1:Hp}
theorem uh {a:Addr} {ds:List D}:qk K H1 (Itl K a) ds (fun M=>lstM M a=some ds) where
 go:=fun i H M hi hm ok _=>by
  obtain ⟨xs,h1,h2,_⟩:=bb hm ok
  obtain ⟨x,e,_⟩:=h2.get (List.getElem?_eq_getElem hi)
  exact ⟨xs,x,h1,e⟩
 yld:=fun i d H M x H' hd hm ok _ y=>by
  obtain ⟨xs,h1,h2,_⟩:=bb hm ok
  obtain ⟨e,y⟩:=y
  subst e
  obtain ⟨x',e,hx⟩:=h2.get hd
  have:=y xs h1
  rw [e] at this
  cases this
  exact ⟨hx,hm,.refl⟩
 stop:=fun H M hm ok _=>by
  obtain ⟨xs,h1,h2,_⟩:=bb hm ok
  exact ⟨xs,h1,by rw [h2.length]; exact Nat.le_refl _⟩
theorem wA {a:Addr} {ds:List D} {xs:List V} (h1:SqT K H1 a xs) (h2:aT K H1 ds xs):qk K H1 (Itt K a) ds (fun _=>True) where
 go:=fun i H M hi hm ok e1=>by
  obtain ⟨x,e,_⟩:=h2.get (List.getElem?_eq_getElem hi)
  exact ⟨xs,x,e1.t _ _ h1,e⟩
 yld:=fun i d H M x H' hd hm ok e1 y=>by
  obtain ⟨e,y⟩:=y
  subst e
  obtain ⟨x',e,hx⟩:=h2.get hd
  have:=y xs (e1.t _ _ h1)
  rw [e] at this
  cases this
  exact ⟨hx.mono e1,hm,.refl⟩
 stop:=fun H M hm ok e1=>⟨xs,e1.t _ _ h1,by rw [h2.length]; exact Nat.le_refl _⟩
theorem yT {a:Addr} {ds:List D} {xs:List V} (h1:RoL K H1 a xs) (h2:aT K H1 ds xs):qk K H1 (Itl K a) ds (fun _=>True) where
 go:=fun i H M hi hm ok e1=>by
  obtain ⟨x,e,_⟩:=h2.get (List.getElem?_eq_getElem hi)
  exact ⟨xs,x,(h1.mono e1).sq,e⟩
 yld:=fun i d H M x H' hd hm ok e1 y=>by
  obtain ⟨e,y⟩:=y
  subst e
  obtain ⟨x',e,hx⟩:=h2.get hd
  have:=y xs (h1.mono e1).sq
  rw [e] at this
  cases this
  exact ⟨hx.mono e1,hm,.refl⟩
 stop:=fun H M hm ok e1=>⟨xs,(h1.mono e1).sq,by rw [h2.length]; exact Nat.le_refl _⟩
theorem rT {n:Nat} {lo:Int}:qk K H1 (Itr lo n) ((List.range n).map fun i=>D.int (lo + (i:Nat))) (fun _=>True) where
 go:=fun i H M hi hm ok e1=>by
  have z:i < n:=by simpa using hi
  exact z
 yld:=fun i d H M x H' hd hm ok e1 y=>by
  obtain ⟨e,y⟩:=y
  subst e
  subst y
  have hi:i < n:=by
   have:=(List.getElem?_eq_some_iff.mp hd).1
   simpa using this
  have hd':d=D.int (lo + (i:Nat)):=by
   rw [List.getElem?_map,List.getElem?_range hi] at hd
   exact (Option.some.inj hd).symm
  subst hd'
  exact ⟨.int,hm,.refl⟩
 stop:=fun H M hm ok e1=>by
  show n≤_
  simp
end
section
variable {X:Cx} {tg:Expr} {pos p:Pos}
def Aw (t:T3):T3I:=fun δ M R=>t δ M fun x M1=>match x with
 | .tup ds=>R ds (fun _=>True) M1
 | .ref a=>(lstM M1 a).elim False fun ds=>R ds (fun M=>lstM M a=some ds) M1
 | .rl ds=>R ds (fun _=>True) M1
 | .str z=>R (z.cps.toList.map fun c=>D.str ⟨#[c]⟩) (fun _=>True) M1
 | _=>False
theorem vY {K:PySem.W.Frag} {H1:Hp} {z:Str}:qk K H1 (Itc z) (z.cps.toList.map fun c=>D.str ⟨#[c]⟩) (fun _=>True) where
 go:=fun i H M hi hm ok _=>by
  show i < z.cps.size
  simpa using hi
 yld:=fun i d H M x H' hd hm ok _ y=>by
  obtain ⟨e,c,e1,e2⟩:=y
  subst e e2
  rw [List.getElem?_map,Array.getElem?_toList,e1] at hd
  cases hd
  exact ⟨.str,hm,.refl⟩
 stop:=fun H M hm ok _=>by
  show _=z.cps.size
  simp
theorem bM {l:Expr} {t:T3} (h:E3 X l t) (hc:X.calm=true:=by rfl):I3 X tg l (Aw t):=PI.mono (vt hc h) fun σ H R' ⟨δ,M,R,hs,hm,ht,k⟩ =>
 ⟨δ,M,_,hs,hm,ht,fun v H1 d M1 hd hm1 e1 q1=>by
  cases d with
  | tup ds =>
   obtain ⟨a,xs,rfl,h1,h2⟩:=hd.tup_inv
   exact .inl ⟨a,rfl,.inr ⟨⟨xs,h1⟩,k _ H1 ds _ M1 (wA h1 h2) hm1 e1 trivial q1⟩⟩
  | ref a =>
   cases hd.ref_inv
   obtain ⟨ds,e0,q⟩:=bY q1
   obtain ⟨xs,h1,h2,_⟩:=bb hm1 e0
   exact .inl ⟨a,rfl,.inl ⟨⟨xs,h1⟩,k _ H1 ds _ M1 uh hm1 e1 e0 q⟩⟩
  | str z=>exact .inr ⟨z,hd.str_inv,k _ H1 _ _ M1 vY hm1 e1 trivial q1⟩
  | rl ds =>
   obtain ⟨a,xs,rfl,h1,h2⟩:=hd.rl_inv
   exact .inl ⟨a,rfl,.inl ⟨⟨xs,h1.sq⟩,k _ H1 ds _ M1 (yT h1 h2) hm1 e1 trivial q1⟩⟩
  | _=>exact q1.elim⟩
def zR (t:T3A):T3I:=fun δ M R=>t δ M fun ds M1=>match ds with
 | [.int j]=>(-(2 ^ 62)≤j∧j < 2 ^ 62)∧R ((List.range j.toNat).map fun i=>D.int (0 + (i:Nat))) (fun _=>True) M1
 | [.int i,.int j]=>(-(2 ^ 62)≤i∧i < 2 ^ 62∧-(2 ^ 62)≤j∧j < 2 ^ 62)∧R ((List.range (j - i).toNat).map fun n=>D.int (i + (n:Nat))) (fun _=>True) M1
 | _=>False
theorem mF {a:Expr} {ta:T3A} (hg:Gl X "range") (hm:X.mg "range"=none) (ha:A3 X [a] ta) (hs:starEach [a] X.env=[(false,eval a X.env)]:=by rfl):I3 X tg (.Call (.Name "range" p) [a] [] pos) (zR fun δ M Q=>ta δ M fun ds M1=>ds.length=1∧Q ds M1) :=
 PI.mono (rA hg hm ha hs) fun σ H R' ⟨δ,M,R,hs,hm,ht,k⟩=>⟨δ,M,_,hs,hm,ht,fun vs H1 ds M1 hd hm1 e1 q1=>by
  obtain ⟨hl,q1⟩:=q1
  split at q1
  ·obtain ⟨v,rfl,hv⟩:=cQ hd
   cases hv.int_inv
   exact ⟨_,rfl,q1.1.1,q1.1.2,k _ H1 _ _ M1 rT hm1 e1 trivial q1.2⟩
  ·simp at hl
  ·exact q1.elim⟩
def mR (g:T3G) (tb:T3S) (ok:Mp→Prop) (E:ow):List D→DSt→Mp→Prop
 | [],δ,M=>E.nx δ M
 | d :: r,δ,M=>g d δ M fun δ2 M2=>tb { E with nx:=fun δ' M'=>ok M'∧mR g tb ok E r δ' M',ct:=fun δ' M'=>ok M'∧mR g tb ok E r δ' M',bk:=E.nx } δ2 M2
def z8 (wi:T3I) (g:T3G) (tb:T3S):T3S:=fun E δ M=>wi δ M fun ds ok M1=>mR g tb ok E ds δ M1
theorem ie {iter:Expr} {body:List Stmt} {wi:T3I} {g:T3G} {tb:T3S} (hp:PassesOwn (model X.prog X.w) X.A X.env X.xe) (hc:X.calm=true) (hi:I3 X tg iter wi) (hg:G3 X tg g) (hb:Ss3 X body tb)
  (hs:∀ x,foldedSetIterable iter X.env x=pure x:=by intro _; rfl):S3 X (.For tg iter body [] pos) (z8 wi g tb):=PS.mono (za hp hc hi hg hb hs) fun D' σ H ⟨δ,M,E,hs,hm,ht,k1,k2,k3,k4⟩ =>
 ⟨δ,M,_,hs,hm,ht,fun J H1 ds ok M1 S hm1 e1 ok1 q1=>by
  refine ⟨fun i m σ' H'=>m=ds.length - i∧i≤ds.length∧∃ δ' M',St3 X.K H' σ' δ'∧HM X.K H' M'∧ok M'∧bH X.K H1 H'∧σ'.length=σ.length∧mR g tb ok E (ds.drop i) δ' M',
   ⟨ds.length,by simp,Nat.zero_le _,δ,M1,hs.mono e1,hm1,ok1,.refl,rfl,by simpa using q1⟩,?_⟩
  rintro i m σ' H' ⟨rfl,hi,δ',M',hs',hm',ok',e',l',q'⟩
  by_cases hlt:i < ds.length
  ·rw [List.drop_eq_getElem_cons hlt] at q'
   refine .inr ⟨S.go i H' M' hlt hm' ok' e',fun σ2 H2=>∃ δ2 M2,St3 X.K H2 σ2 δ2∧HM X.K H2 M2∧ok M2∧bH X.K H1 H2∧σ2.length=σ.length∧mR g tb ok E (ds.drop (i + 1)) δ2 M2,fun σ2 H2 z=>⟨ds.length - (i + 1),by omega,rfl,hlt,z⟩,fun x H2 y=>?_⟩
   obtain ⟨hx,hm2,e2⟩:=S.yld i ds[i] H' M' x H2 (List.getElem?_eq_getElem hlt) hm' ok' e' y
   refine ⟨ds[i],δ',M',_,hx,hs'.mono e2,hm2,q',fun σ3 H3 δ3 M3 x1 x2 x3 x4 x5=>?_⟩
   refine ⟨δ3,M3,_,x1,x2,x5,fun σ4 H4 δ4 M4 y1 y2 y3 y4 y5=>?_,fun v H4 d M4 y1 y2 y3 y4=>?_,fun σ4 H4 δ4 M4 y1 y2 y3 y4 y5=>?_,fun σ4 H4 δ4 M4 y1 y2 y3 y4 y5=>?_⟩
   ·exact ⟨δ4,M4,y1,y2,y5.1,e'.trans (e2.trans (x3.trans y3)),by rw [y4,x4,l'],y5.2⟩
   ·exact k2 v H4 d M4 y1 y2 (e1.trans (e'.trans (e2.trans (x3.trans y3)))) y4
   ·exact k1 σ4 H4 δ4 M4 y1 y2 (e1.trans (e'.trans (e2.trans (x3.trans y3)))) (by rw [y4,x4,l']) y5
   ·exact ⟨δ4,M4,y1,y2,y5.1,e'.trans (e2.trans (x3.trans y3)),by rw [y4,x4,l'],y5.2⟩
  ·have e:i=ds.length:=by omega
   subst e
   rw [List.drop_length] at q'
   exact .inl ⟨S.stop H' M' hm' ok' e',k1 σ' H' δ' M' hs' hm' (e1.trans e') l' q'⟩⟩
def vw (ix:List (Option Nat)) (δ:DSt):DSt:=ix.map fun o=>o.bind fun i=>(δ[i]?).join
theorem wm {K:PySem.W.Frag} {H:Hp} {σ:St} {δ:DSt} {ix:List (Option Nat)} (h:St3 K H σ δ):St3 K H (sel ix σ) (vw ix δ):=fun i d q=>by
 unfold vw at q
 unfold sel
 rw [List.getElem?_map] at q ⊢
 cases e:ix[i]? with
 | none=>rw [e] at q; cases q
 | some o =>
  rw [e] at q
  cases o with
  | none=>cases q
  | some j =>
   have q':(δ[j]?).join=some d:=Option.some.inj q
   have e4:δ[j]?=some (some d):=by
    cases r:δ[j]? with
    | none=>rw [r] at q'; cases q'
    | some w=>rw [r] at q'; exact congrArg some q'
   obtain ⟨v,e5,hv⟩:=h j d e4
   refine ⟨v,?_,hv⟩
   show some ((σ[j]?).join)=some (some v)
   rw [e5]
   rfl
def gb (g:T3G) (tt:T3T) (te:T3) (ok:Mp→Prop) (Q:DK):List D→List D→DSt→Mp→Prop
 | [],acc,_,M=>acc.length≤sizeLine∧∀ p,M p=none→Q (.ref p) (au M p (.lst acc))
 | d :: r,acc,δ,M=>acc.length < sizeLine∧g d δ M fun δ2 M2=>tt δ2 M2 fun b M3=>if b=true then te δ2 M3 fun y M4=>ok M4∧gb g tt te ok Q r (acc ++ [y]) δ2 M4 else ok M3∧gb g tt te ok Q r acc δ2 M3
def uB (ix:List (Option Nat)) (wi:T3I) (g:T3G) (tt:T3T) (te:T3):T3:=fun δ M Q=>wi δ M fun ds ok M1=>gb g tt te ok Q ds [] (vw ix δ) M1
variable {scope:Scope} {ix:List (Option Nat)} {N':List Str} {iter elt:Expr} {ifs:List Expr} {wi:T3I} {g:T3G} {tt:T3T} {te:T3}
def F3 (X:Cx) (ifs:List Expr) (t:T3T):Prop:=PF X ifs (loT X.K t)
theorem PF.mono {X:Cx} {e:List Expr} {t t':TT} (h:PF X e t) (m:∀ σ H Q,t' σ H Q→t σ H Q):PF X e t':=fun pins s σ H Q I q=>h pins s σ H Q I (m σ H Q q)
def mD:T3T:=fun _ M Q=>Q true M
theorem dI:F3 X [] mD:=PF.mono x9 fun σ H Q' ⟨δ,M,Q,hs,hm,ht,k⟩=>k true H M hm .refl ht
theorem gK {c:Expr} {t:T3T} (h:B3 X c t):F3 X [c] t:=xw h
theorem qZ:∀ σ H Q',lo X.K (uB ix wi g tt te) σ H Q'→uE ix (loI X.K wi) (loG X.K g) (loT X.K tt) (lo X.K te) σ H Q':=fun σ H Q' ⟨δ,M,Q,hs,hm,ht,k⟩ =>
 ⟨δ,M,_,hs,hm,ht,fun J H1 ds ok M1 S hm1 e1 ok1 q1=>by
  refine ⟨fun i m ys σ' H'=>m=ds.length - i∧i≤ds.length∧∃ δ' M' acc,St3 X.K H' σ' δ'∧HM X.K H' M'∧aT X.K H' acc ys∧ok M'∧bH X.K H1 H'∧gb g tt te ok Q (ds.drop i) acc δ' M',
   ⟨ds.length,by simp,Nat.zero_le _,vw ix δ,M1,[],wm (hs.mono e1),hm1,.nil,ok1,.refl,by simpa using q1⟩,?_⟩
  rintro i m ys σ' H' ⟨rfl,hi,δ',M',acc,hs',hm',ha',ok',e',q'⟩
  by_cases hlt:i < ds.length
  ·rw [List.drop_eq_getElem_cons hlt] at q'
   obtain ⟨hz,q'⟩:=q'
   refine .inr ⟨S.go i H' M' hlt hm' ok' e',by rw [← ha'.length]; exact hz,fun x H2 y=>?_⟩
   obtain ⟨hx,hm2,e2⟩:=S.yld i ds[i] H' M' x H2 (List.getElem?_eq_getElem hlt) hm' ok' e' y
   refine ⟨ds[i],δ',M',_,hx,hs'.mono e2,hm2,q',fun σ3 H3 δ3 M3 x1 x2 x3 x4 x5=>?_⟩
   refine ⟨δ3,M3,_,x1,x2,x5,fun b H4 M4 y2 y3 y5=>?_⟩
   cases b with
   | true =>
    rw [if_pos rfl] at y5 ⊢
    refine ⟨δ3,M4,_,x1.mono y3,y2,y5,fun v H5 d M5 z1 z2 z3 z4=>⟨ds.length - (i + 1),by omega,rfl,hlt,δ3,M5,acc ++ [d],x1.mono (y3.trans z3),z2,(ha'.mono (e2.trans (x3.trans (y3.trans z3)))).snoc z1,z4.1,e'.trans (e2.trans (x3.trans (y3.trans z3))),z4.2⟩⟩
   | false =>
    rw [if_neg Bool.false_ne_true] at y5 ⊢
    exact ⟨ds.length - (i + 1),by omega,rfl,hlt,δ3,M4,acc,x1.mono y3,y2,ha'.mono (e2.trans (x3.trans y3)),y5.1,e'.trans (e2.trans (x3.trans y3)),y5.2⟩
  ·have e:i=ds.length:=by omega
   subst e
   rw [List.drop_length] at q'
   refine .inl ⟨S.stop H' M' hm' ok' e',by rw [← ha'.length]; exact q'.1,fun p hp=>?_⟩
   have e5:bH X.K H' (upd H' p (.lst ys)):=.new hp
   exact k _ _ _ _ .ref (hm'.new (c:=.lst acc) hp ⟨_,aU,ha'.mono e5⟩) (e1.trans (e'.trans e5)) (q'.2 p (hm'.fresh hp))⟩
theorem bV (hc:X.calm=true) (S:dg X scope ix N') (hi:I3 X tg iter wi) (hg:∀ C s0 H0 ex,G3 (X.comp scope N' C s0 H0 ex) tg g) (ht:∀ C s0 H0 ex,F3 (X.comp scope N' C s0 H0 ex) ifs tt) (he:∀ C s0 H0 ex,E3 (X.comp scope N' C s0 H0 ex) elt te)
  (hs:∀ x,foldedSetIterable iter X.env x=pure x:=by intro _; rfl):E3 X (.ListComp elt [⟨tg,iter,ifs,0⟩] scope pos) (uB ix wi g tt te):=PE.mono (xb (g:=loG X.K g) (tt:=loT X.K tt) (te:=lo X.K te) hc S hi hg ht he hs) qZ
theorem fN {i:Nat} {x:Str} {px spos:Pos} (hN:X.N.Nodup) (hix:X.N[i]?=some x) (hx:Loc X.env.scope x) (hc:X.calm=true) (S:dg X scope ix N') (hi:I3 X tg iter wi) (hg:∀ C s0 H0 ex,G3 (X.comp scope N' C s0 H0 ex) tg g) (ht:∀ C s0 H0 ex,F3 (X.comp scope N' C s0 H0 ex) ifs tt)
  (he:∀ C s0 H0 ex,E3 (X.comp scope N' C s0 H0 ex) elt te) (hsw:swapsWith (.ListComp elt [⟨tg,iter,ifs,0⟩] scope pos) (some (.Name x px)) spos.line X.env=pure true:=by rfl)
  (hf:X.fn x=true∨X.env.scope.names.lookup x=some .local:=by first | exact .inl rfl | exact .inr rfl | assumption) (hs:∀ x,foldedSetIterable iter X.env x=pure x:=by intro _; rfl) :
  S3 X (.Assign [.Name x px] (.ListComp elt [⟨tg,iter,ifs,0⟩] scope pos) spos) (gL (uB ix wi g tt te) (hW i)):=PS.monoL (pQ (g:=loG X.K g) (tt:=loT X.K tt) (te:=lo X.K te) hN hix hx hc S hi hg ht he hsw hf hs) fun D' σ H hl ⟨δ,M,D,hs,hm,ht,k1,k2,k3,k4⟩ =>
 qZ σ H _ ⟨δ,M,_,hs,hm,ht,fun v H1 d M1 hd hm1 e1 q1=>k1 _ H1 _ M1 ((hs.mono e1).set hd (by rw [hl]; exact (List.getElem?_eq_some_iff.mp hix).1)) hm1 e1 (by simp) q1⟩
end
end L3
namespace L3
open PySem PySem.Spec PyProof.Rows L2
theorem hu9 {A:Around} {k:Nat} (hr:dG k A):A.units + 9 < cLine:=by have:=hr.units; omega
def ud (sc:Scope) (N:List Str) (scope:Scope) (ix:List (Option Nat)) (N':List Str):Bool :=
 (scope.kind == .function) && (scope.names.all fun y=>!(y.2 == .cell)) && (scope.names.all fun y=>!(y.2 == .local) || (scope.names.lookup y.1 == some .local)) &&
 (scope.names.all fun y=>!(y.2 == .free) || (sc.names.lookup y.1 == some .cell) || (sc.names.lookup y.1 == some .free)) && (ix.length == N'.length) &&
 ((ix.zip N').all fun p=>match p.1 with | none=>true | some i=>(N[i]? == some p.2) && (scope.names.lookup p.2 == some .free))
theorem c9 {X:Cx} {scope:Scope} {ix:List (Option Nat)} {N':List Str} (h:ud X.env.scope X.N scope ix N'=true):dg X scope ix N':=by
 unfold ud at h
 simp only [Bool.and_eq_true] at h
 obtain ⟨⟨⟨⟨⟨h1,h2⟩,h3⟩,h4⟩,h5⟩,h6⟩:=h
 refine ⟨by simpa using h1,fun y hy e=>?_,fun y hy e=>?_,fun y hy e=>?_,by simpa using h5,fun j i x e1 e2=>?_⟩
 ·have:=List.all_eq_true.mp h2 y hy
  rw [e] at this
  simp at this
 ·have:=List.all_eq_true.mp h3 y hy
  rw [e] at this
  simpa using this
 ·have:=List.all_eq_true.mp h4 y hy
  rw [e] at this
  simpa using this
 ·have hm:(some i,x)∈ix.zip N':=by
   have:(ix.zip N')[j]?=some (some i,x):=by
    rw [List.getElem?_zip_eq_some]
    exact ⟨e1,e2⟩
   exact List.mem_of_getElem? this
  have:=List.all_eq_true.mp h6 _ hm
  simpa using this
section
variable {X:Cx} {k:Nat} {f C:Addr} {fd:FuncData} {ps:List Str} {sp:Sp3} {x m:Str} {p pos apos:Pos} {a b c e o:Expr} {es:List Expr} {ta tb tc:T3} {t:T3A}
def qA (op op':CmpOp) (ta tb tc:T3):T3:=fun δ M Q=>ta δ M fun x M1=>tb δ M1 fun y M2=>wU op x y M2 fun z M3=>match z with
 | .bl k=>if k=true then tc δ M3 fun w M4=>wU op' y w M4 Q else Q (.bl false) M3
 | _=>False
theorem gv {op op':CmpOp} (hu:X.A.units + 9 < cLine) (ha:E3 X a ta) (hb:E3 X b tb) (hc:E3 X c tc) (hmk:lastMarks [op,op'] [b,c]=false:=by rfl) :
  E3 X (.Compare a [op,op'] [b,c] pos) (qA op op' ta tb tc):=PE.mono (sN (rP op hu) (rP op' hu) ha hb hc hmk) fun σ H Q' ⟨δ,M,Q,hs,hm,ht,k⟩ =>
 ⟨δ,M,_,hs,hm,ht,fun v H1 x M1 hx hm1 e1 q1=>⟨δ,M1,_,hs.mono e1,hm1,q1,fun u H2 y M2 hy hm2 e2 q2=>⟨x,y,M2,_,hx.mono e2,hy,hm2,q2,fun w H3 z M3 hz hm3 e3 q3=>by
  cases z with
  | bl c =>
   refine ⟨c,hz.bl_inv,?_⟩
   cases c with
   | true =>
    refine (if_pos rfl).mpr ⟨δ,M3,_,hs.mono (e1.trans (e2.trans e3)),hm3,(if_pos rfl).mp q3,fun w' H4 d M4 hd hm4 e4 q4=>⟨y,d,M4,Q,hy.mono (e3.trans e4),hd,hm4,q4,gh (e1.trans (e2.trans (e3.trans e4))) k⟩⟩
   | false=>exact (if_neg Bool.false_ne_true).mpr (k _ H3 _ M3 .bl hm3 (e1.trans (e2.trans e3)) ((if_neg Bool.false_ne_true).mp q3))
  | _=>exact q3.elim⟩⟩⟩
theorem tF {op op':CmpOp} (hu:X.A.units + 9 < cLine) (ha:E3 X a ta) (hb:E3 X b tb) (hc:E3 X c tc) (hmk:lastMarks [op,op'] [b,c]=false:=by rfl) :
  B3 X (.Compare a [op,op'] [b,c] pos) (b3 (qA op op' ta tb tc)):=PT.mono (sO (rP op hu) (rP op' hu) ha hb hc hmk) fun σ H Q' ⟨δ,M,Q,hs,hm,ht,k⟩ =>
 ⟨δ,M,_,hs,hm,ht,fun v H1 x M1 hx hm1 e1 q1=>⟨δ,M1,_,hs.mono e1,hm1,q1,fun u H2 y M2 hy hm2 e2 q2=>⟨x,y,M2,_,hx.mono e2,hy,hm2,q2,fun w H3 z M3 hz hm3 e3 q3=>by
  cases z with
  | bl c =>
   refine ⟨c,hz.bl_inv,?_⟩
   cases c with
   | true =>
    refine (if_pos rfl).mpr ⟨δ,M3,_,hs.mono (e1.trans (e2.trans e3)),hm3,(if_pos rfl).mp q3,fun w' H4 d M4 hd hm4 e4 q4=>⟨y,d,M4,_,hy.mono (e3.trans e4),hd,hm4,q4,fun w5 H5 d5 M5 hd5 hm5 e5 q5=>?_⟩⟩
    cases d5 with
    | bl c5=>exact ⟨c5,hd5.bl_inv,k c5 H5 M5 hm5 (e1.trans (e2.trans (e3.trans (e4.trans e5)))) q5⟩
    | _=>exact q5.elim
   | false=>exact (if_neg Bool.false_ne_true).mpr ⟨false,rfl,k false H3 M3 hm3 (e1.trans (e2.trans e3)) ((if_neg Bool.false_ne_true).mp q3)⟩
  | _=>exact q3.elim⟩⟩⟩
structure Br (K:PySem.W.Frag) (C:Addr):Prop where
 ha:PySem.W.findIn K (.ref C) "__class__"=some (some (.builtin "object.__class__"))
 hn:PySem.W.specialIn K (.builtin "object.__class__") "__get__"=some (some (.builtin "getset_descriptor.__get__"))
 htk:PySem.W.takesIn K (.builtin "object.__class__")=some true
 hm:PySem.W.mroIn K C (.type "object")=some true
def oF:List D→Option (List Bool)
 | []=>some []
 | .bl b :: r=>(oF r).map (b :: ·)
 | _ :: _=>none
theorem qz {K:PySem.W.Frag} {H:Hp}:∀ {ds:List D} {bs:List Bool} {xs:List V} {us:List Value},oF ds=some bs→aT K H ds xs→bi xs us→us=bs.map Value.bool
 | [],bs,xs,us,e,h,r=>by
  cases e
  have:=h.nil_inv
  subst this
  cases r
  rfl
 | d :: ds,bs,xs,us,e,h,r=>by
  cases d with
  | bl b =>
   obtain ⟨y,ys,rfl,h1,h2⟩:=h.inv
   cases h1.bl_inv
   unfold oF at e
   cases q:oF ds with
   | none=>rw [q] at e; cases e
   | some cs =>
    rw [q] at e
    cases e
    cases r with
    | cons r1 r2 =>
     cases r1
     rw [qz q h2 r2]
     rfl
  | _=>cases e
def zD (ds:List D) (M:Mp) (Q:DK):Prop:=match ds with
 | [.ref a]=>(lstM M a).elim False fun es=>(oF es).elim False fun bs=>Q (.bl (bs.all id)) M
 | _=>False
theorem pq (hc:X.calm=true):C3 X (.builtin "all") zD:=by
 intro pins s σ H vs us Q' I rv h
 obtain ⟨ds,M,Q,hd,hm,q,k⟩:=h
 unfold zD at q
 split at q
 ·rename_i a
  obtain ⟨v,rfl,hv⟩:=cQ hd
  obtain ⟨es,e0,q⟩:=bY q
  obtain ⟨bs,e1,q⟩:=bY q
  cases hv.ref_inv
  obtain ⟨u,rfl,ru⟩:=iJ rv
  cases ru
  obtain ⟨xs,h1,h2,_⟩:=bb hm e0
  obtain ⟨its,r,pl,hz⟩:=I.list h1
  have eits:=qz e1 h2 r
  subst eits
  have hne:a ≠ s.heap.objs.size:=by
   obtain ⟨o,_,e,_⟩:=pl
   exact Nat.ne_of_lt (Heap.lt_size e)
  refine call_all_walk (wpAny_pyIter_list pl.isList ?_)
  refine ⟨s.heap.objs.size,_,_,_,_,_,fun i=>(bs[i]?).getD true,rfl,Walks.list (A:=X.A.in1) (I.ok.hd hc) _ a hne (bs.map Value.bool).toArray,⟨⟨_,Heap.get?_push_size _ rfl,rfl,rfl⟩,?_⟩,fun i v s' Q E hP hQ=>?_,fun h' tk hk=>?_⟩
  ·obtain ⟨o,n,e,c,d,q⟩:=pl
   exact ⟨o,Heap.get?_push_of_some _ e,c,n,q⟩
  ·simp only [List.getElem?_toArray,List.getElem?_map] at hP
   cases e2:bs[i]? with
   | none=>rw [e2] at hP; cases hP
   | some b =>
    rw [e2] at hP
    cases hP
    have hQ:Q ((bs[i]?).getD true) s':=hQ
    rw [e2] at hQ
    exact wpAny_truthy_bool hQ
  ·have ea:(List.range (bs.map Value.bool).toArray.size).all (fun i=>(bs[i]?).getD true)=bs.all id:=by
    rw [List.size_toArray,List.length_map]
    rw [Bool.eq_iff_iff,List.all_eq_true,List.all_eq_true]
    constructor
    ·intro z b hb
     obtain ⟨i,hi,e⟩:=List.getElem_of_mem hb
     have:=z i (List.mem_range.mpr hi)
     rw [List.getElem?_eq_getElem hi,e] at this
     exact this
    ·intro z i hi
     have hi':=List.mem_range.mp hi
     rw [List.getElem?_eq_getElem hi']
     exact z _ (List.getElem_mem hi')
   rw [ea]
   refine ⟨.bl (bs.all id),H,?_,rfl,k _ _ _ _ .bl hm .refl q⟩
   exact I.kept (h':=h') (t':=tk) fun b o e=>hk b o (by simpa using Nat.ne_of_lt (Heap.lt_size e)) (Heap.get?_push_of_some _ e)
 ·exact q.elim
def iP (x:D):List D→Option Nat
 | []=>none
 | d :: r=>if eqF d x=true then some 0 else (iP x r).map (· + 1)
theorem mM {K:PySem.W.Frag} {H:Hp} {e:D} {w:V} (g:Has K H e w) (fe:eZ e=true):∀ {ds:List D} {xs:List V} {us:List Value} {j:Nat},aT K H ds xs→bi xs us→ds.all eZ=true→iP e ds=some j →
  ∃ h:j < us.length,eqU w us[j]=true∧∀ m (hm:m < us.length),m < j→eqU w us[m]=false
 | [],_,_,_,_,_,_,q=>by cases q
 | d :: ds,_,us,j,h,r,fl,q=>by
  obtain ⟨y,ys,rfl,h1,h2⟩:=h.inv
  rw [List.all_cons,Bool.and_eq_true] at fl
  cases r with
  | @cons _ u _ us' r1 r2 =>
   have eu:eqU w u=eqF d e:=by rw [qj r1 (gU h1 fl.1),qy h1 g fl.1 fe]
   unfold iP at q
   by_cases hq:eqF d e=true
   ·rw [if_pos hq] at q
    cases q
    exact ⟨by simp,by simpa [eu] using hq,fun m _ hm=>absurd hm (Nat.not_lt_zero m)⟩
   ·rw [if_neg hq] at q
    cases q2:iP e ds with
    | none=>rw [q2] at q; cases q
    | some j' =>
     rw [q2] at q
     cases q
     obtain ⟨hl,e1,e2⟩:=mM g fe h2 r2 fl.2 q2
     refine ⟨by simpa using hl,by simpa using e1,fun m hm hlt=>?_⟩
     cases m with
     | zero=>simpa [eu] using hq
     | succ m=>simpa using e2 m (by simpa using hm) (by have z:m + 1 < j' + 1:=hlt; omega)
def xB (x:D) (ds:List D) (M:Mp) (Q:DK):Prop:=match x,ds with
 | .ref a,[y]=>(lstM M a).elim False fun es=>eZ y=true∧es.all eZ=true∧(iP y es).elim False fun j=>Q (.int (j:Nat)) M
 | _,_=>False
def M3 (X:Cx) (id:String) (r:D→List D→Mp→DK→Prop):Prop:=MtR X id fun vx vs H Q'=>∃ x ds M Q,Has X.K H x vx∧aT X.K H ds vs∧HM X.K H M∧r x ds M Q∧Up X.K H Q' Q
theorem ul:M3 X "list.index" xB:=by
 intro pins s σ H vx vs v us Q' I rx rv h
 obtain ⟨x,ds,M,Q,hx,hd,hm,q,k⟩:=h
 unfold xB at q
 split at q
 ·rename_i a y
  obtain ⟨es,e0,f1,f2,q⟩:=bY q
  obtain ⟨j,e1,q⟩:=bY q
  cases hx.ref_inv
  cases rx
  obtain ⟨w,rfl,hw⟩:=cQ hd
  obtain ⟨u,rfl,ru⟩:=iJ rv
  obtain ⟨xs,h1,h2,rd⟩:=bb hm e0
  obtain ⟨hz,its,n,r,g⟩:=rd.ok I.hok
  obtain ⟨hl,p1,p2⟩:=mM hw f1 h2 r f2 e1
  have hlz:its.length≤sizeLine:=by rw [← r.length]; exact hz
  have h63:=iV
  refine call_meets F.slot_list_index ⟨_,g,rfl⟩ F.entry_list_index (F.args_list_index_2 _ _) (SeqAt.list_indexAt a its.toArray n none #[] u (eqU w) j (by simpa using hl) (by omega) (by simpa using p1) fun m hm hlt=>by simpa using p2 m (by simpa using hm) hlt) ⟨g,?_,?_⟩
  ·intro z hz'
   exact fT ru (gU hw f1) r (kj h2 f2) z (by simpa using hz')
  ·exact ⟨.int (j:Nat),H,I.tok _,⟨_,rfl⟩,k _ _ _ _ .int hm .refl q⟩
 ·exact q.elim
def xh (M:Mp):D→Prop
 | .ref a=>(lstM M a).isSome=true
 | _=>False
def lm3 (r:D→List D→Mp→DK→Prop) (to:T3) (t:T3A):T3:=fun δ M Q=>to δ M fun x M1=>xh M1 x∧t δ M1 fun ds M2=>r x ds M2 Q
theorem xC {K:PySem.W.Frag} {H:Hp} {M:Mp} {x:D} {v:V} (hm:HM K H M) (h:Has K H x v) (l:xh M x):tyV K "list" v H:=by
 cases x with
 | ref a =>
  cases h.ref_inv
  obtain ⟨ds,e⟩:=Option.isSome_iff_exists.mp (show (lstM M a).isSome=true from l)
  obtain ⟨xs,h1,_⟩:=bb hm e
  exact .inl ⟨rfl,xs,h1⟩
 | _=>exact l.elim
theorem xp {id:String} {name:Str} {r:D→List D→Mp→DK→Prop} (slot:Slot "list" name id) (hty:typeOf (.builtin id)=pure (.type "method_descriptor")) (hm:M3 X id r) (ho:E3 X o ta) (ha:A3 X (e :: es) t)
  (hbase:attributeBase o name X.env (eval o X.env)=eval o X.env:=by rfl)
  (hfew:((backTo pos (starEach (e :: es) X.env)).all (fun x=>!x.1) && (backToKw pos (keywordEach [] X.env)).all (fun x=>x.1.isSome)
   && decide ((e :: es).length + ([]:List Keyword).length + (if ([]:List Keyword).isEmpty then 0 else 1) < 30))=true:=by rfl)
  (hline:(apos.endLine == pos.line)=true:=by rfl) (hs:starEach (e :: es) X.env=(false,eval e X.env) :: starEach es X.env:=by rfl) (hplain:(backTo pos (starEach es X.env)).any (·.1)=false:=by rfl) :
  E3 X (.Call (.Attribute o name apos) (e :: es) [] pos) (lm3 r ta t):=PE.mono (zH PySem.F.plainAttrs_list slot hty hm ho ha hbase hfew hline hs hplain) fun σ H Q' ⟨δ,M,Q,hs,hm,ht,k⟩ =>
 ⟨δ,M,_,hs,hm,ht,fun v H1 x M1 hx hm1 e1 q1=>⟨xC hm1 hx q1.1,δ,M1,_,hs.mono e1,hm1,q1.2,fun vs H2 ds M2 hds hm2 e2 q2=>⟨x,ds,M2,Q,hx.mono e2,hds,hm2,q2,gh (e1.trans e2) k⟩⟩⟩
theorem hZ (ho:E3 X o ta) (ha:A3 X (e :: es) t)
  (hbase:attributeBase o "index" X.env (eval o X.env)=eval o X.env:=by rfl)
  (hfew:((backTo pos (starEach (e :: es) X.env)).all (fun x=>!x.1) && (backToKw pos (keywordEach [] X.env)).all (fun x=>x.1.isSome)
   && decide ((e :: es).length + ([]:List Keyword).length + (if ([]:List Keyword).isEmpty then 0 else 1) < 30))=true:=by rfl)
  (hline:(apos.endLine == pos.line)=true:=by rfl) (hs:starEach (e :: es) X.env=(false,eval e X.env) :: starEach es X.env:=by rfl) (hplain:(backTo pos (starEach es X.env)).any (·.1)=false:=by rfl) :
  E3 X (.Call (.Attribute o "index" apos) (e :: es) [] pos) (lm3 xB ta t):=xp PySem.F.slot_list_index PySem.F.type_list_index ul ho ha hbase hfew hline hs hplain
structure Bs (K:PySem.W.Frag) (C:Addr) (m:Str) (f:Addr):Prop where
 hg:PySem.W.specialIn K (.ref C) "__getattribute__"=some (some (.builtin "type.__getattribute__"))
 rd:PySem.W.readsIn K C (.type "type")=true
 fc:PySem.W.findCls K (.ref C) (.type "type") m=some (.val (.ref f))
theorem bL:bootBuiltins "len"=some (.builtin "len"):=by decide +kernel
theorem zw:bootBuiltins "min"=some (.builtin "min"):=by decide +kernel
theorem pE:bootBuiltins "all"=some (.builtin "all"):=by decide +kernel
theorem eL:bootBuiltins "tuple"=some (.type "tuple"):=by decide +kernel
theorem fm:bootBuiltins "list"=some (.type "list"):=by decide +kernel
theorem ki:bootBuiltins "dict"=some (.type "dict"):=by decide +kernel
theorem ni:bootBuiltins "enumerate"=some (.type "enumerate"):=by decide +kernel
end
section
variable {X:Cx} {pins:List (Addr × Obj)} {σ:St} {H:Hp} {s:Shared}
theorem _root_.L2.Inv.drawn {ch:List Addr} {T:Addr} {xs:List V} {its:List Value} {h':Heap} {tk:Nat} (I:Inv X pins σ H s) (hch:∀ b∈ch,kT X pins H b) (k:∀ b o,b ∉ ch→s.heap.get? b=some o→h'.get? b=some o) (hT:s.heap.objs.size≤T) (hx:xs.length≤sizeLine)
  (rv:bi xs its) (ht:lO h' T its.toArray):Inv X pins σ (upd H T (.tup xs)) { s with heap:=h',toks:=tk }:=by
 have hT0:H T=none:=I.hok.fresh hT
 have nT:∀ b o,s.heap.get? b=some o→b ≠ T:=fun b o e=>Nat.ne_of_lt (Nat.lt_of_lt_of_le (Heap.lt_size e) hT)
 refine I.step (g':=s.gens) (d':=s.drawn) (ch:=ch) (fun b hb=>⟨(hch b hb).2.2.2.1,(hch b hb).2.1,(hch b hb).2.2.2.2.1,(hch b hb).2.2.2.2.2⟩) (fun b o _ _ hc e _=>k b o hc e) (fun b o _ _ hc e _=>⟨o.slots,k b o hc e⟩) (fun b o _ e n=>by rw [aN (nT b o e)]; exact n)
  (fun b o hc e=>⟨o,k b o hc e⟩) (fun b ys e=>by rw [aN (bE e hT0)]; exact e) (fun b o u e=>by rw [aN (bE e hT0)]; exact e) (fun b ps e=>⟨#[],by rw [aN (bE e hT0),e]; simp⟩) (fun m hm=>?_) (fun b u e=>?_) I.bare
 ·obtain ⟨o,es,ep,ho,r⟩:=hm
  exact ⟨o,es,ep,k _ o (fun z=>(hch _ z).2.1 rfl) ho,r⟩
 ·by_cases hb:b=T
  ·subst hb
   rw [aU] at e
   cases e
   exact ⟨hx,its,rv,ht⟩
  ·rw [aN hb] at e
   refine (I.hok b u e).stay (fun c v hc q=>k c v (fun z=>?_) q) (fun c q=>by rw [aN (bE q hT0)]; exact q) (fun c ys q=>by rw [aN (bE q hT0)]; exact q)
   have n:=(hch c z).1
   rcases hc with y | y
   ·rw [y,e] at n; cases n
   ·rw [y] at n; cases n
def Ite (K:PySem.W.Frag) (a:Addr):It :=
 ⟨fun i H=>∃ xs x,SqL K H a xs∧xs[i]?=some x,fun i H x H'=>∃ p y,x=.ref p∧H p=none∧H'=upd H p (.tup [.int (i:Nat),y])∧∀ xs,SqL K H a xs→xs[i]?=some y,fun i H=>∃ xs,SqL K H a xs∧xs.length≤i⟩
theorem sC {P:Program} {w:World} {K:PySem.W.Frag} {elts:List Expr} {n:Nat} {tp:Pos} (a e it:Addr) (hei:e ≠ it):p0 P w K (.Tuple elts n tp) (Ite K a) [e,it] e (fun i h=>(∃ old,IsEnum h e it (i:Nat) old)∧h.IsListIter it a i) where
 mem:=by simp
 obj:=fun i h st b hb=>by
  obtain ⟨⟨old,he⟩,o,e1,c,d⟩:=st
  rcases List.mem_cons.mp hb with rfl | hb
  ·exact ⟨_,he,fun v z=>by cases z⟩
  ·rw [List.mem_singleton.mp hb]
   exact ⟨o,e1,fun v z=>by rw [d] at z; cases z⟩
 keep:=fun i h h' st k=>by
  obtain ⟨⟨old,he⟩,hi⟩:=st
  exact ⟨⟨old,k e (by simp) _ he⟩,hi.at fun o q=>k it (by simp) o q⟩
 item:=by
  intro X hP hw hK hc i pins s σ H E I hf st hg
  subst hP hw hK
  obtain ⟨xs,x,hq,hx⟩:=hg
  obtain ⟨its,rv,p,hz⟩:=I.list hq
  obtain ⟨u,hu,ru⟩:=rv.get hx
  obtain ⟨⟨old,he⟩,hi⟩:=st
  refine wpAny_pyNext_enum_item he hi p.isList (x:=u) (by simpa using hu) hei fun h1 ho hi1 hT hsz hk=>?_
  refine ⟨_,rfl,wpAny_letOwnedTupleGo_enum ho fun h2 he2 hs2=>?_⟩
  have helt:e < s.heap.objs.size:=Heap.lt_size he
  have hilt:it < s.heap.objs.size:=by obtain ⟨o,q,_⟩:=hi; exact Heap.lt_size q
  have kk:∀ b o,b ∉ [e,it]→s.heap.get? b=some o→h2.get? b=some o:=fun b o hb q=>(hs2.2 b fun z=>hb (by simp [z])).trans (hk b o (fun z=>hb (by simp [z])) (fun z=>hb (by simp [z])) q)
  have hT2:h2.get? s.heap.objs.size=some { cls:=.type "tuple",data:=.seq #[.int (i:Nat) s.toks,u] }:=(hs2.2 _ (Nat.ne_of_gt helt)).trans hT
  have hT0:H s.heap.objs.size=none:=I.hok.fresh (Nat.le_refl _)
  have I2:=I.drawn (ch:=[e,it]) (T:=s.heap.objs.size) (xs:=[.int (i:Nat),x]) (its:=[.int (i:Nat) s.toks,u]) (h':=h2) (tk:=s.toks + 1) hf kk (Nat.le_refl _) (by show 2≤sizeLine; decide) (.cons ⟨_,rfl⟩ (.cons ru .nil)) ⟨_,hT2,rfl,⟨_,rfl⟩,rfl⟩
  refine ⟨.ref s.heap.objs.size,_,I2,rfl,⟨_,x,rfl,hT0,rfl,fun ys hy=>by rw [I.list_inj hy hq]; exact hx⟩,⟨⟨_,by simpa using he2⟩,hi1.extBut hs2.extBut (Ne.symm hei)⟩,fun b hb=>?_⟩
  have hb':b < s.heap.objs.size:=by
   rcases List.mem_cons.mp hb with z | z
   ·rw [z]; exact helt
   ·rw [List.mem_singleton.mp z]; exact hilt
  rw [aN (Nat.ne_of_lt hb')]
  exact (hf b hb).1
 done:=by
  intro X hP hw hK hc i pins s σ H E I hf st hg
  subst hP hw hK
  obtain ⟨xs,hq,hx⟩:=hg
  obtain ⟨its,rv,p,hz⟩:=I.list hq
  obtain ⟨⟨old,he⟩,hi⟩:=st
  have hl:=rv.length
  obtain ⟨f0,f1,f2,f3,f4,f5⟩:=hf it (by simp)
  exact wpAny_pyNext_enum_end (I.ok.hd hc) he hi p.isList (by simp; omega) fun h' eb=>⟨rfl,I.turned (t':=s.toks) (fun b o hb q=>eb b o hb q) f0 f1 f3 f4 f5⟩
 self:=fun _ _ _ _ _ st h=>by
  obtain ⟨⟨old,he⟩,_⟩:=st
  exact wpAny_pyIter_enum he h
end
section
variable {X:Cx} {pos p tp:Pos} {elts:List Expr} {n:Nat}
theorem wI {a:Expr} {ta:TA} (hg:Gl X "enumerate") (hm:X.mg "enumerate"=none) (ha:PA X [a] ta) (hs:starEach [a] X.env=[(false,eval a X.env)]:=by rfl) :
  PI X (.Tuple elts n tp) (.Call (.Name "enumerate" p) [a] [] pos) (fun σ H R=>ta σ H fun vs H1=>∃ l,vs=[.ref l]∧(∃ xs,SqL X.K H1 l xs)∧R (Ite X.K l) H1):=by
 intro pins s σ H R I h
 refine Call_ (jG I hg hm ni (PyProof.Rows.callWith_type1 (thn (ha pos pins s σ H _ I h) fun us s1 ⟨vs,H1,I1,r1,q1⟩=>?_) hs rfl))
 obtain ⟨l,e,⟨xs,hq⟩,q⟩:=q1
 subst e
 obtain ⟨u,rfl,ru⟩:=iJ r1
 cases ru
 obtain ⟨its,rv,pl,hz⟩:=I1.list hq
 refine call_enumerate_list pl.isList fun h' he hi hsz hk=>?_
 refine wpAny_pyIter_enum he ?_
 have I2:Inv X pins σ H1 { s1 with heap:=h' }:=I1.kept (t':=s1.toks) hk
 refine ⟨s1.heap.objs.size + 1,[s1.heap.objs.size + 1,s1.heap.objs.size],_,_,H1,rfl,I2,sC l _ _ (Nat.succ_ne_self _),⟨⟨_,he⟩,hi⟩,fun b hb=>?_,q⟩
 have hb':s1.heap.objs.size≤b:=by
  rcases List.mem_cons.mp hb with z | z
  ·rw [z]; exact Nat.le_succ _
  ·rw [List.mem_singleton.mp z]; exact Nat.le_refl _
 exact I1.fpOk hb' (I1.hok.fresh hb')
def fY:Nat→List D→List D
 | _,[]=>[]
 | i,d :: r=>.tup [.int (i:Nat),d] :: fY (i + 1) r
theorem jl:∀ {ds:List D} {i j:Nat},(fY j ds)[i]?=(ds[i]?).map fun d=>D.tup [.int ((j + i:Nat):Int),d]
 | [],i,j=>by simp [fY]
 | d :: r,0,j=>by simp [fY]
 | d :: r,i + 1,j=>by
  show (fY (j + 1) r)[i]?=_
  rw [jl]
  simp only [List.getElem?_cons_succ]
  rw [show j + 1 + i=j + (i + 1) by omega]
theorem ly:∀ {ds:List D} {j:Nat},(fY j ds).length=ds.length
 | [],j=>rfl
 | d :: r,j=>by simp [fY,ly]
theorem uU {K:PySem.W.Frag} {H1:Hp} {a:Addr} {ds:List D}:qk K H1 (Ite K a) (fY 0 ds) (fun M=>lstM M a=some ds) where
 go:=fun i H M hi hm ok _=>by
  rw [ly] at hi
  obtain ⟨xs,h1,h2,_⟩:=bb hm ok
  obtain ⟨x,e,_⟩:=h2.get (List.getElem?_eq_getElem hi)
  exact ⟨xs,x,h1,e⟩
 yld:=fun i d H M x H' hd hm ok _ y=>by
  obtain ⟨xs,h1,h2,_⟩:=bb hm ok
  obtain ⟨p,z,rfl,hp,rfl,y⟩:=y
  rw [jl] at hd
  cases e:ds[i]? with
  | none=>rw [e] at hd; cases hd
  | some d' =>
   rw [e] at hd
   cases hd
   obtain ⟨x',e',hx⟩:=h2.get e
   have w1:=y xs h1
   rw [e'] at w1
   have w2:x'=z:=Option.some.inj w1
   subst w2
   have ex:bH K H (upd H p (.tup [.int (i:Nat),x'])):=.new hp
   refine ⟨.tup (.of aU) (.cons (by rw [Nat.zero_add]; exact .int) (.cons (hx.mono ex) .nil)),hm.add hp,ex⟩
 stop:=fun H M hm ok _=>by
  obtain ⟨xs,h1,h2,_⟩:=bb hm ok
  exact ⟨xs,h1,by rw [ly,h2.length]; exact Nat.le_refl _⟩
def yI (t:T3A):T3I:=fun δ M R=>t δ M fun ds M1=>match ds with
 | [.ref a]=>(lstM M1 a).elim False fun es=>R (fY 0 es) (fun M=>lstM M a=some es) M1
 | _=>False
theorem fL {a:Expr} {ta:T3A} (hg:Gl X "enumerate") (hm:X.mg "enumerate"=none) (ha:A3 X [a] ta) (hs:starEach [a] X.env=[(false,eval a X.env)]:=by rfl):I3 X (.Tuple elts n tp) (.Call (.Name "enumerate" p) [a] [] pos) (yI ta) :=
 PI.mono (wI hg hm ha hs) fun σ H R' ⟨δ,M,R,hs,hm,ht,k⟩=>⟨δ,M,_,hs,hm,ht,fun vs H1 ds M1 hd hm1 e1 q1=>by
  split at q1
  ·obtain ⟨v,rfl,hv⟩:=cQ hd
   cases hv.ref_inv
   obtain ⟨es,e0,q⟩:=bY q1
   obtain ⟨xs,h1,h2,_⟩:=bb hm1 e0
   exact ⟨_,rfl,⟨xs,h1⟩,k _ H1 _ _ M1 uU hm1 e1 e0 q⟩
  ·exact q1.elim⟩
end
end L3
namespace L3
open PySem PySem.Spec PyProof.Rows L2
section
variable {prog:Program} {w:World} {A:Around} {E:Value→Shared→Prop} {s:Shared}
end
structure A5 (z TI TO i1 i2:Addr) (f1 f2:List Addr):Prop where
 a1:TI ≠ z
 a2:TO ≠ z
 a3:i1 ≠ z
 a4:i2 ≠ z
 a5:TI ≠ TO
 a6:TI ≠ i1
 a7:TI ≠ i2
 a8:TO ≠ i1
 a9:TO ≠ i2
 a10:i1 ≠ i2
 b1:z ∉ f1
 b2:TO ∉ f1
 b3:i2 ∉ f1
 c1:z ∉ f2
 c2:TO ∉ f2
 c3:i1 ∉ f2
section
variable {prog:Program} {w:World} {A:Around} {E:Value→Shared→Prop} {s:Shared} {z TI TO i1 i2:Addr} {f1 f2:List Addr} {n1 n2 k1 k2:Nat} {P1 P2:Nat→Value→Prop} {S1 S2:Nat→Heap→Prop} {a b:Value}
end
section
variable {prog:Program} {w:World} {A:Around} {E:Value→Shared→Prop} {s:Shared}
end
end L3
namespace L3
open PySem PySem.Spec PyProof.Rows L2
section
variable {X:Cx} {pins:List (Addr × Obj)} {σ:St} {H:Hp} {s:Shared}
end
section
variable {X:Cx} {pos p tp:Pos} {elts:List Expr} {n:Nat}
end
end L3
namespace L3
open PySem PySem.Spec PyProof.Rows L2
def Sub (M M':Mp):Prop:=∀ a c,M a=some c→M' a=some c
theorem Sub.refl {M:Mp}:Sub M M:=fun _ _ h=>h
theorem Sub.trans {M M1 M2:Mp} (a:Sub M M1) (b:Sub M1 M2):Sub M M2:=fun x c h=>b x c (a x c h)
theorem Sub.new {M:Mp} {p:Addr} {c:gz} (h:M p=none):Sub M (au M p c):=fun x d q=>by rw [fv (neM q h)]; exact q
theorem Sub.lst {M M':Mp} {a:Addr} {ds:List D} (s:Sub M M') (h:lstM M a=some ds):lstM M' a=some ds:=by
 unfold lstM at h ⊢
 cases e:M a with
 | none=>rw [e] at h; cases h
 | some c=>rw [s a c e]; rw [e] at h; exact h
theorem HM.sub {K:PySem.W.Frag} {H:Hp} {M M':Mp} (h:HM K H M') (s:Sub M M'):HM K H M:=fun a c q=>h a c (s a c q)
section
variable {P:Program} {w:World} {K:PySem.W.Frag} {mg:Str→Option Value} {base:Heap}
theorem aR {x qual:Str} {st:Stmt} {f:Addr} {fd:FuncData} {N ps:List Str} {k:Nat} {sp:Sp3} (F:Fun K x qual st f fd) (S:ax N ps (ah st)) (len:∀ ds M Q,sp ds M Q→ds.length=ps.length)
  (hbody:∀ (cdv:Value) (A:Around) (outer:List Env) (s:Shared) (H:Hp) (E:XK),dG k (A.deeper (envOfC qual (ah st) s.heap.objs.size f cdv)) →
   ∃ t,Ss3 (gI CX0 P w K mg base N qual (ah st) f cdv A outer s H E).nox (al st) t∧∀ ds M Q,sp ds M Q→t { nx:=fun _ M'=>∃ M'',Sub M'' M'∧Q .non M'',rt:=fun d M'=>∃ M'',Sub M'' M'∧Q d M'' } (jN N ds) M):Fn3 P w K mg base (k + 1) f fd ps sp:=by
 refine F.ok S (fun vs H Q E h=>?_) (fun cdv A outer s H vs Q' E hr h=>?_)
 ·obtain ⟨ds,M,Q,hd,_,hs,_⟩:=h
  rw [← hd.length]
  exact len ds M Q hs
 ·obtain ⟨ds,M,Q,hd,hm,hs,k⟩:=h
  obtain ⟨t,ht,hb⟩:=hbody cdv A outer s H E hr
  exact ⟨_,ht,jN N ds,M,_,mz hd,hm,hb ds M Q hs,fun σ' H' δ' M' _ x2 x3 _ ⟨M'',y1,y2⟩=>k .non H' .non M'' .non (x2.sub y1) x3 y2,fun v H' d M' x1 x2 x3 ⟨M'',y1,y2⟩=>k v H' d M'' x1 (x2.sub y1) x3 y2,fun _ _ _ _ _ _ _ _ z=>z,fun _ _ _ _ _ _ _ _ z=>z⟩
end
theorem oG {g:T3G} {te:T3} {ok:Mp→Prop} {Q:DK} {f:D→D} {M:Mp} (J:DSt→Prop) (hok:ok M):∀ (ds acc:List D) (δ:DSt),J δ→acc.length + ds.length≤sizeLine →
  (∀ d∈ds,∀ δ,J δ→∀ k:DSt→DK,(∀ δ',J δ'→k δ' (f d) M)→g d δ M fun δ2 M2=>te δ2 M2 (k δ2))→(∀ p,M p=none→Q (.ref p) (au M p (.lst (acc ++ ds.map f))))→gb g mD te ok Q ds acc δ M
 | [],acc,δ,_,hl,_,hq=>⟨by simpa using hl,by simpa using hq⟩
 | d :: r,acc,δ,hj,hl,ht,hq=>by
  rw [List.length_cons] at hl
  refine ⟨by omega,?_⟩
  refine ht d List.mem_cons_self δ hj (fun δ2 y M4=>ok M4∧gb g mD te ok Q r (acc ++ [y]) δ2 M4) fun δ' hj'=>⟨hok,oG (f:=f) J hok r (acc ++ [f d]) δ' hj' ?_ (fun e he=>ht e (List.mem_cons_of_mem _ he)) ?_⟩
  ·rw [List.length_append,List.length_singleton]
   omega
  ·simpa using hq
theorem cH {i:Nat} {te:T3} {ok:Mp→Prop} {Q:DK} {f:D→D} {M:Mp} (hok:ok M):∀ (ds acc:List D) (δ:DSt),acc.length + ds.length≤sizeLine→(∀ d∈ds,∀ k:DK,k (f d) M→te (δ.set i (some d)) M k) →
  (∀ p,M p=none→Q (.ref p) (au M p (.lst (acc ++ ds.map f))))→gb (hW i) mD te ok Q ds acc δ M:=fun ds acc δ hl ht hq =>
 oG (f:=f) (fun δ'=>∀ d,δ'.set i (some d)=δ.set i (some d)) hok ds acc δ (fun _=>rfl) hl (fun d hd δ' hj k hk=>by
  show te (δ'.set i (some d)) M (k (δ'.set i (some d)))
  rw [hj d]
  exact ht d hd _ (hk _ fun e=>by rw [List.set_set])) hq
theorem mS {α:Type} (f:α→Bool):∀ l:List α,oF (l.map fun x=>D.bl (f x))=some (l.map f)
 | []=>rfl
 | x :: r=>by
  show (oF (r.map fun x=>D.bl (f x))).map (f x :: ·)=_
  rw [mS f r]
  rfl
theorem av {M:Mp} {p:Addr} {ds:List D}:lstM (au M p (.lst ds)) p=some ds:=by
 unfold lstM
 rw [aZ]
theorem af {α:Type} {o:Option α} {P:α→Prop} {x:α} (e:o=some x) (h:P x):o.elim False P:=by rw [e]; exact h
theorem few {l:List D} (h:decide (l.length≤100)=true):l.length≤sizeLine:=by
 have z:sizeLine=16777216:=sizeLine_eq
 have:=of_decide_eq_true h
 omega
end L3
namespace L3
open PySem PySem.Spec PyProof.Rows L2
theorem nj {g:T3G} {tb:T3S} {ok:Mp→Prop} {E:ow} (J:DSt→Mp→Prop) (hok:∀ δ M,J δ M→ok M):∀ (ds:List D) (δ:DSt) (M:Mp),J δ M →
  (∀ d∈ds,∀ δ M,J δ M→∀ nx:DSt→Mp→Prop,(∀ δ' M',J δ' M'→nx δ' M')→g d δ M fun δ2 M2=>tb { E with nx:=nx,ct:=nx,bk:=E.nx } δ2 M2)→(∀ δ M,J δ M→E.nx δ M)→mR g tb ok E ds δ M
 | [],δ,M,j,_,hn=>hn δ M j
 | d :: r,δ,M,j,ht,hn=>ht d List.mem_cons_self δ M j (fun δ' M'=>ok M'∧mR g tb ok E r δ' M') fun δ' M' j'=>⟨hok δ' M' j',nj J hok r δ' M' j' (fun e he=>ht e (List.mem_cons_of_mem _ he)) hn⟩
theorem jI {g:T3G} {tb:T3S} {ok:Mp→Prop} {E:ow} (all:List D) (J:List D→DSt→Mp→Prop) (hok:∀ p δ M,J p δ M→ok M):∀ (ds pre:List D) (δ:DSt) (M:Mp),pre ++ ds=all→J pre δ M →
  (∀ pre d post,pre ++ d :: post=all→∀ δ M,J pre δ M→∀ nx:DSt→Mp→Prop,(∀ δ' M',J (pre ++ [d]) δ' M'→nx δ' M')→g d δ M fun δ2 M2=>tb { E with nx:=nx,ct:=nx,bk:=E.nx } δ2 M2)→(∀ δ M,J all δ M→E.nx δ M)→mR g tb ok E ds δ M
 | [],pre,δ,M,e,j,_,hn=>hn δ M (by rw [← e,List.append_nil]; exact j)
 | d :: r,pre,δ,M,e,j,ht,hn=>ht pre d r e δ M j (fun δ' M'=>ok M'∧mR g tb ok E r δ' M') fun δ' M' j'=>⟨hok _ δ' M' j',jI all J hok r (pre ++ [d]) δ' M' (by rw [← e,List.append_assoc]; rfl) j' ht hn⟩
theorem qc {c:Bool} {A B:Prop} (h:c=false) (hb:B):if c=true then A else B:=by
 subst h
 exact uL hb
theorem o1 {c:Bool} {A B:Prop} (h:c=true) (ha:A):if c=true then A else B:=by
 subst h
 exact vQ ha
theorem cut {t u:T3S} {E:ow} {δ:DSt} {M:Mp} (R:DSt→Mp→Prop) (h2:∀ nx:DSt→Mp→Prop,(∀ δ' M',R δ' M'→nx δ' M')→t { E with nx:=nx } δ M) (h1:∀ δ' M',R δ' M'→u E δ' M'):fE t u E δ M:=h2 (u E) h1
theorem zU {K:PySem.W.Frag} {H:Hp} {a:Addr} {ns:List Int} (hO:tu H) (hS:SqL K H a (ns.map V.int)):Has K H (.rl (ns.map D.int)) (.ref a):=by
 have r:RoL K H a (ns.map V.int):=by
  rcases hS with h | h
  ·rcases h with h | ⟨o,h⟩
   ·rcases hO a with z | ⟨o,xs,z⟩ <;> (rw [h] at z; cases z)
   ·exact .inl ⟨o,h⟩
  ·exact .inr h
 unfold Has
 exact ⟨a,_,rfl,r,.ints⟩
theorem xx {K:PySem.W.Frag} {sp:Sp3} {H:Hp} {a:Addr} {ns:List Int} (hO:tu H) (hS:SqL K H a (ns.map V.int)) (h:sp [.rl (ns.map D.int)] (fun _=>none) fun d _=>d=.bl true):up3 K sp [.ref a] H (fun v _=>v=.bl true) fun _ _ _=>False :=
 ⟨_,fun _=>none,_,.cons (zU hO hS) .nil,fun _ _ z=>(by cases z),h,fun v H' d M' x1 _ _ x4=>by subst x4; exact x1.bl_inv⟩
theorem uo {l:PySem.W.OpenLaw} {q:Program} {loose:List Str} {XP:(Str→Option Value)→Heap→Prop} {YP:World→Heap→Prop} {d:DefRec} {K:Params→PySem.W.Frag} {k:Nat} {x:Str} {sp:Sp3} (hn:l.most=some 63) (hdf:d.params.defaults=[]) (hr:dG k callerA)
  (hY:∀ (w:World) (h:Heap),YP w h→(K w.params).In h)
  (hsp:∀ ns:List Int,ns.length≤63→sp [.rl (ns.map D.int)] (fun _=>none) fun d _=>d=.bl true)
  (F:∀ (w:World) (mg:Str→Option Value) (fa:Addr) (h:Heap),(K w.params).In h→h.Ns mainGlobals mg→mg d.name=some (.ref fa) →
   ∃ fd:FuncData,(∀ (s:Shared) (u:Value),BindsTo s fd ⟨[u],[]⟩ [(x,u)])∧∀ base:Heap,(K w.params).In base→base.Ns mainGlobals mg→Fn3 l.prog w (K w.params) mg base k fa fd [x] sp) :
  PySem.W.WalkO q loose XP YP l.row.toRowW d [] (fun f vs=>PySem.call f vs) :=
 L2.vm (n:=63) (k:=k) (x:=x) (CX:=fun _=>CX0) (sp:=fun w=>up3 (K w.params) sp) hn (by decide) hdf hr hY F (fun _ _ a ns hl hO hS=>xx hO hS (hsp ns hl)) fun _ _ _ _ _ z=>z
end L3
namespace L3
open PySem PySem.Spec PyProof.Rows L2
def KD (K:PySem.W.Frag) (mg:Str→Option Value) (x:Str) (d:D):Prop:=∃ v u,mg x=some u∧bD v u∧∀ H,Has K H d v
theorem xG {K:PySem.W.Frag} {mg:Str→Option Value} {x y:Str} {t:Tok} (h:mg x=some (.str y t)):KD K mg x (.str y):=⟨.str y,_,h,⟨t,rfl⟩,fun _=>.str⟩
theorem iL {K:PySem.W.Frag} {mg:Str→Option Value} {x:Str} {y:Int} {t:Tok} (h:mg x=some (.int y t)):KD K mg x (.int y):=⟨.int y,_,h,⟨t,rfl⟩,fun _=>.int⟩
theorem sG {K:PySem.W.Frag} {a:Addr} {ss:List Str} {us:List Value} {n:Nat} {sl:Array (Option Value)} (h:K.lookup a=some ⟨.type "tuple",none,.seq us.toArray n,sl⟩) (r:bi (ss.map V.str) us) (hz:us.length≤1000):SqT K (fun _=>none) a (ss.map V.str) :=
 .inr ⟨_,us.toArray,n,h,rfl,rfl,rfl,by rw [List.size_toArray,sizeLine_eq]; omega,by simpa using r⟩
theorem mi {K:PySem.W.Frag} {H:Hp}:∀ {ss:List Str},aT K H (ss.map D.str) (ss.map V.str)
 | []=>.nil
 | _ :: _=>.cons .str mi
theorem vh {K:PySem.W.Frag} {mg:Str→Option Value} {x:Str} {a:Addr} {ss:List Str} (h:mg x=some (.ref a)) (q:SqT K (fun _=>none) a (ss.map V.str)):KD K mg x (.tup (ss.map D.str)) :=
 ⟨.ref a,_,h,rfl,fun _=>.tup (wC q) mi⟩
section
variable {X:Cx} {pos p:Pos} {x:Str} {d:D} {e o i:Expr} {ta tb td tk:T3} {F:List (Str × List Str)}
theorem eU (hg:Gl X x) (h:KD X.K X.mg x d) (hd:(x == ("__debug__":Str))=false:=by decide):E3 X (.Name x pos) (c3 d):=by
 obtain ⟨v,u,hm,r,hh⟩:=h
 exact PE.mono (wN hg hm r hd) fun σ H Q' ⟨δ,M,Q,hs,hm,ht,k⟩=>k _ H _ M (hh H) hm .refl ht
def dkM (M:Mp) (a:Addr):Option (List (Key × D)):=match M a with
 | some (.dk kvs)=>some kvs
 | _=>none
def eE (kvs:List (Key × D)) (k:Key):Option D:=(kvs.find? fun p=>decide (p.1=k)).map (·.2)
theorem k9 {K:PySem.W.Frag} {H:Hp} {M:Mp} {a:Addr} {kvs:List (Key × D)} (hm:HM K H M) (h:dkM M a=some kvs):∃ vs,H a=some (.dK vs)∧vs.map (·.1)=kvs.map (·.1)∧aT K H (kvs.map (·.2)) (vs.map (·.2)):=by
 unfold dkM at h
 cases e:M a with
 | none=>rw [e] at h; cases h
 | some c =>
  rw [e] at h
  have ok:=hm a c e
  cases c with
  | dk es=>cases h; exact ok
  | ins _ _=>cases h
  | lst _=>cases h
  | exc _=>cases h
theorem nA {K:PySem.W.Frag} {H:Hp} {k:Key}:∀ {kvs:List (Key × D)} {vs:List (Key × V)},vs.map (·.1)=kvs.map (·.1)→aT K H (kvs.map (·.2)) (vs.map (·.2))→(∀ d,eE kvs k=some d→∃ v,gO vs k=some v∧Has K H d v)∧(eE kvs k=none→gO vs k=none)
 | [],[],_,_=>⟨fun d z=>(by cases z),fun _=>rfl⟩
 | [],_ :: _,e,_=>by cases e
 | _ :: _,[],e,_=>by cases e
 | (j,d) :: kvs,(j',v) :: vs,e,h=>by
  have e1:j'=j:=by simpa using (List.cons.inj e).1
  subst e1
  obtain ⟨x,r,e2,h1,h2⟩:=h.inv
  obtain ⟨e3,e4⟩:=List.cons.inj e2
  subst e3 e4
  have ih:=nA (k:=k) (kvs:=kvs) (vs:=vs) (List.cons.inj e).2 h2
  by_cases hk:j'=k
  ·have g:eE ((j',d) :: kvs) k=some d:=by simp [eE,hk]
   have g':gO ((j',v) :: vs) k=some v:=by simp [gO,hk]
   rw [g,g']
   exact ⟨fun d' z=>by cases z; exact ⟨v,rfl,h1⟩,fun z=>by cases z⟩
  ·have g:eE ((j',d) :: kvs) k=eE kvs k:=by simp [eE,hk]
   have g':gO ((j',v) :: vs) k=gO vs k:=by simp [gO,hk]
   rw [g,g']
   exact ih
def tQ (x y:D) (M:Mp) (Q:DK):Prop:=match x,y with
 | .ref a,.str k=>(dkM M a).elim False fun kvs=>(eE kvs (.inr k)).elim False fun d=>Q d M
 | _,_=>False
def zN (td tk:T3):T3:=fun δ M Q=>td δ M fun x M1=>tk δ M1 fun y M2=>tQ x y M2 Q
theorem im (hu:X.A.units + 9 < cLine) (ho:E3 X o td) (hi:E3 X i tk) (hs:mX i:=by exact fun _ _=>rfl):E3 X (.Subscript o i pos) (zN td tk):=by
 refine PE.mono (xo (r:=R3 X.K tQ) (fun value slice pins s σ H vx vy v u Q' I rx ry h hs=>?_) ho hi hs) r9
 obtain ⟨x,y,M,Q,hx,hy,hm,q,k⟩:=h
 unfold tQ at q
 split at q
 ·rename_i a0 k0
  obtain ⟨kvs,e1,q⟩:=bY q
  obtain ⟨d,e2,q⟩:=bY q
  cases hx.ref_inv; cases hy.str_inv
  obtain ⟨vs,h1,h2,h3⟩:=k9 hm e1
  obtain ⟨w,e3,hw⟩:=(nA h2 h3).1 d e2
  refine v4 (by omega) value slice pins s σ H _ _ v u Q' I rx ry ⟨_,w,rfl,?_,k _ _ _ _ hw hm .refl q⟩ hs
  have g:=nE.k (k:=Sum.inr k0) h1
  rw [e3] at g
  exact g
 ·exact q.elim
def yR (neg:Bool) (x y:D) (M:Mp) (Q:DK):Prop:=match x,y with
 | .str k,.ref a=>(dkM M a).elim False fun kvs=>Q (.bl (if neg then !(eE kvs (.inr k)).isSome else (eE kvs (.inr k)).isSome)) M
 | _,_=>False
theorem tq {K:PySem.W.Frag} {H:Hp} {k:Key} {kvs:List (Key × D)} {vs:List (Key × V)} (h2:vs.map (·.1)=kvs.map (·.1)) (h3:aT K H (kvs.map (·.2)) (vs.map (·.2))):(gO vs k).isSome=(eE kvs k).isSome:=by
 obtain ⟨a,b⟩:=nA (k:=k) h2 h3
 cases e:eE kvs k with
 | none=>rw [b e]; rfl
 | some d =>
  obtain ⟨v,e3,_⟩:=a d e
  rw [e3]
  rfl
def Bl (neg:Bool) (tk td:T3):T3:=fun δ M Q=>tk δ M fun x M1=>td δ M1 fun y M2=>yR neg x y M2 Q
theorem zS (hu:X.A.units + 9 < cLine):OpR X (compareOp .In) (R3 X.K (yR false)):=fun pins s σ H vx vy v u Q' I rx ry h=>by
 obtain ⟨x,y,M,Q,hx,hy,hm,q,k⟩:=h
 unfold yR at q
 split at q
 ·obtain ⟨kvs,e1,q⟩:=bY q
  cases hy.ref_inv; cases hx.str_inv
  obtain ⟨vs,h1,h2,h3⟩:=k9 hm e1
  refine yU (by omega) pins s σ H _ _ v u Q' I rx ry ⟨_,_,rfl,nE.k (k:=Sum.inr _) h1,?_⟩
  rw [tq h2 h3]
  exact k _ _ _ _ .bl hm .refl q
 ·exact q.elim
theorem sJ (hu:X.A.units + 9 < cLine) (hi:E3 X i tk) (ho:E3 X o td) (hm:behindInMarks .In o=false:=by first | exact qr _ | with_unfolding_all rfl):B3 X (.Compare i [.In] [o] pos) (b3 (Bl false tk td)):=PT.mono (qH (zS hu) hi ho hm) fun σ H Q' ⟨δ,M,Q,hs,hm,ht,k⟩ =>
 r9 σ H _ ⟨δ,M,_,hs,hm,ht,fun v H1 d M1 hd hm1 e1 q1=>by
  cases d with
  | bl c=>exact ⟨c,hd.bl_inv,k c H1 M1 hm1 e1 q1⟩
  | _=>exact q1.elim⟩
def gG:List D→Option (List (Key × D))
 | []=>some []
 | .tup [.str k,d] :: r=>(gG r).map ((.inr k,d) :: ·)
 | _ :: _=>none
theorem l6 {K:PySem.W.Frag} {H:Hp}:∀ {es:List D} {kvs:List (Key × D)} {xs:List V},gG es=some kvs→aT K H es xs→∃ (ts:List Addr) (vs:List (Key × V)),xs=ts.map V.ref∧ts.length=vs.length∧vs.map (·.1)=kvs.map (·.1)∧aT K H (kvs.map (·.2)) (vs.map (·.2)) ∧
  ∀ (j:Nat) (t:Addr) (p:Key × V),ts[j]?=some t→vs[j]?=some p→SqT K H t [kV p.1,p.2]
 | [],_,_,e,h=>by
  cases e
  exact ⟨[],[],h.nil_inv,rfl,rfl,.nil,fun j t p z=>by simp at z⟩
 | d :: es,kvs,xs,e,h=>by
  obtain ⟨x,r,rfl,h1,h2⟩:=h.inv
  unfold gG at e
  split at e
  ·rename_i z; cases z
  ·rename_i k d' r' z
   cases z
   cases q:gG es with
   | none=>rw [q] at e; cases e
   | some kvs' =>
    rw [q] at e
    cases e
    obtain ⟨ts,vs,e1,e2,e3,e4,e5⟩:=l6 q h2
    obtain ⟨a,ys,rfl,g1,g2⟩:=h1.tup_inv
    obtain ⟨y,r1,rfl,g3,g4⟩:=g2.inv
    obtain ⟨w,r2,rfl,g5,g6⟩:=g4.inv
    cases g6.nil_inv
    cases g3.str_inv
    refine ⟨a :: ts,(.inr k,w) :: vs,by rw [e1]; rfl,by simpa using e2,by rw [List.map_cons,List.map_cons,e3],.cons g5 e4,fun j t p z1 z2=>?_⟩
    cases j with
    | zero =>
     have z1':a=t:=by simpa using z1
     have z2':(Sum.inr k,w)=p:=by simpa using z2
     subst z1' z2'
     exact g1
    | succ j=>exact e5 j t p (by simpa using z1) (by simpa using z2)
  ·cases e
def xm (ds:List D) (M:Mp) (Q:DK):Prop:=match ds with
 | [.ref a]=>(lstM M a).elim False fun es=>(gG es).elim False fun kvs=>(kvs.map (·.1)).Nodup∧∀ p,M p=none→Q (.ref p) (au M p (.dk kvs))
 | _=>False
theorem kg (hc:X.calm=true):C3 X (.type "dict") xm:=by
 intro pins s σ H vs us Q' I rv h
 obtain ⟨ds,M,Q,hd,hm,q,k⟩:=h
 unfold xm at q
 split at q
 ·obtain ⟨es,e1,q⟩:=bY q
  obtain ⟨kvs,e2,hnd,q⟩:=bY q
  obtain ⟨v,rfl,hv⟩:=cQ hd
  cases hv.ref_inv
  obtain ⟨xs,h1,h2,_⟩:=bb hm e1
  obtain ⟨ts,ws,rfl,f2,f3,f4,f5⟩:=l6 e2 h2
  refine pR hc pins s σ H _ us Q' I rv ⟨_,ts,ws,rfl,h1,f2,f5,by rw [f3]; exact hnd,fun d hd=>?_⟩
  have e:bH X.K H (upd H d (.dK ws)):=.new hd
  exact k _ _ _ _ .ref (hm.new (c:=.dk kvs) hd ⟨_,aU,f3,f4.mono e⟩) e (q d (hm.fresh hd))
 ·exact q.elim
theorem xO:bootBuiltins "set"=some (.type "set"):=by decide +kernel
def kC:List D→Option (List Str)
 | []=>some []
 | .str x :: r=>(kC r).map (x :: ·)
 | _ :: _=>none
theorem kE:∀ ss:List Str,kC (ss.map D.str)=some ss
 | []=>rfl
 | x :: r=>by
  show (kC (r.map D.str)).map (x :: ·)=_
  rw [kE r]
  rfl
theorem pf {K:PySem.W.Frag} {H:Hp}:∀ {ds:List D} {ss:List Str} {xs:List V},kC ds=some ss→aT K H ds xs→xs=ss.map V.str
 | [],_,_,e,h=>by cases e; exact h.nil_inv
 | d :: ds,_,_,e,h=>by
  obtain ⟨x,r,rfl,h1,h2⟩:=h.inv
  cases d with
  | str z =>
   unfold kC at e
   cases q:kC ds with
   | none=>rw [q] at e; cases e
   | some ss =>
    rw [q] at e
    cases e
    rw [h1.str_inv,pf q h2]
    rfl
  | _=>cases e
def zB (ta:T3):T3:=fun δ M Q=>ta δ M fun x M1=>(uM M1 x).elim False fun es=>(kC es).elim False fun ss=>ss.length < 4000∧Q (.int (dM ss).length) M1
theorem rK {p2 pos2:Pos} (hc:X.calm=true) (he:E3 X e ta) (hg1:Gl X "len") (hm1:X.mg "len"=none) (hg2:Gl X "set") (hm2:X.mg "set"=none) (b1:bootBuiltins "len"=some (.builtin "len")) (b2:bootBuiltins "set"=some (.type "set"))
  (hs:starEach [e] X.env=[(false,eval e X.env)]:=by rfl):E3 X (.Call (.Name "len" p) [.Call (.Name "set" p2) [e] [] pos2] [] pos) (zB ta) :=
 PE.mono (rB hc he hg1 hm1 hg2 hm2 b1 b2 hs) fun σ H Q' ⟨δ,M,Q,hs,hm,ht,k⟩=>⟨δ,M,_,hs,hm,ht,fun v H1 d M1 hd hm1 e1 q1=>by
  obtain ⟨es,e2,q1⟩:=bY q1
  obtain ⟨ss,e3,hz,q1⟩:=bY q1
  obtain ⟨a,xs,rfl,h1,h2⟩:=nI hm1 hd e2
  rw [pf e3 h2] at h1
  have z:scanBound=4096:=rfl
  exact ⟨a,ss,rfl,h1,by omega,k _ _ _ _ .int hm1 e1 q1⟩⟩
def zj (x:D) (ds:List D) (M:Mp) (Q:DK):Prop:=match x,ds with
 | .ref a,[y]=>(lstM M a).elim False fun es=>es.length < sizeLine∧Q .non (au M a (.lst (es ++ [y])))
 | _,_=>False
theorem bo {M:Mp} {a:Addr} {es:List D} (h:lstM M a=some es):M a=some (.lst es):=by
 unfold lstM at h
 split at h
 ·rename_i e; rw [e]; cases h; rfl
 ·cases h
theorem qC {K:PySem.W.Frag} {H:Hp} {M:Mp} {a:Addr} {es:List D} (hm:HM K H M) (h:lstM M a=some es):∃ xs,H a=some (.lst xs)∧aT K H es xs:=hm a _ (bo h)
theorem q9:M3 X "list.append" zj:=by
 intro pins s σ H vx vs v us Q' I rx rv h
 obtain ⟨x,ds,M,Q,hx,hd,hm,q,k⟩:=h
 unfold zj at q
 split at q
 ·obtain ⟨es,e1,hz,q⟩:=bY q
  obtain ⟨w,rfl,hw⟩:=cQ hd
  cases hx.ref_inv
  obtain ⟨xs,h1,h2⟩:=qC hm e1
  refine sB pins s σ H _ _ v us Q' I rx rv ⟨_,xs,w,rfl,rfl,h1,by rw [← h2.length]; exact hz,?_⟩
  obtain ⟨hm2,ex⟩:=hm.put (c:=.lst (es ++ [_])) (bo e1) fun ex=>⟨_,aU,(h2.mono ex).snoc (hw.mono ex)⟩
  exact k _ _ _ _ .non hm2 ex q
 ·exact q.elim
variable {es:List Expr} {t:T3A} {apos:Pos}
theorem cP (ho:E3 X o ta) (ha:A3 X (e :: es) t) (hbase:attributeBase o "append" X.env (eval o X.env)=eval o X.env:=by rfl)
  (hfew:((backTo pos (starEach (e :: es) X.env)).all (fun x=>!x.1) && (backToKw pos (keywordEach [] X.env)).all (fun x=>x.1.isSome) && decide ((e :: es).length + ([]:List Keyword).length + (if ([]:List Keyword).isEmpty then 0 else 1) < 30))=true:=by rfl)
  (hline:(apos.endLine == pos.line)=true:=by rfl) (hs:starEach (e :: es) X.env=(false,eval e X.env) :: starEach es X.env:=by rfl) (hplain:(backTo pos (starEach es X.env)).any (·.1)=false:=by rfl) :
  E3 X (.Call (.Attribute o "append" apos) (e :: es) [] pos) (lm3 zj ta t):=xp PySem.F.slot_list_append PySem.F.type_list_append q9 ho ha hbase hfew hline hs hplain
end
end L3
namespace L3
open PySem PySem.Spec PyProof.Rows L2
theorem Sub.none {M M2:Mp} {q:Addr} (s:Sub M M2) (h:M2 q=none):M q=none:=by
 cases e:M q with
 | none=>rfl
 | some c=>rw [s q c e] at h; cases h
theorem Sub.upd {M M2:Mp} {q:Addr} {c:gz} (s:Sub M M2):Sub (au M q c) (au M2 q c):=fun x d h=>by
 by_cases e:x=q
 ·subst e; rw [aZ] at h ⊢; exact h
 ·rw [fv e] at h ⊢; exact s x d h
theorem Sub.dk {M M':Mp} {a:Addr} {ds:List (Key × D)} (s:Sub M M') (h:dkM M a=some ds):dkM M' a=some ds:=by
 unfold dkM at h ⊢
 cases e:M a with
 | none=>rw [e] at h; cases h
 | some c=>rw [s a c e]; rw [e] at h; exact h
def dm (p:Addr) (M M':Mp):Prop:=∀ b c,b ≠ p→M b=some c→M' b=some c
theorem Sub.keep {M M':Mp} {p:Addr} (s:Sub M M'):dm p M M':=fun b c _ h=>s b c h
theorem dm.trans {M M1 M2:Mp} {p:Addr} (a:dm p M M1) (b:dm p M1 M2):dm p M M2:=fun x c n h=>b x c n (a x c n h)
theorem dm.put {M:Mp} {p:Addr} {c:gz}:dm p M (au M p c):=fun b d n h=>by rw [fv n]; exact h
theorem dm.lst {M M':Mp} {p a:Addr} {ds:List D} (k:dm p M M') (n:a ≠ p) (h:lstM M a=some ds):lstM M' a=some ds:=by
 have:=k a _ n (bo h)
 unfold lstM
 rw [this]
theorem dm.dk {M M':Mp} {p a:Addr} {ds:List (Key × D)} (k:dm p M M') (n:a ≠ p) (h:dkM M a=some ds):dkM M' a=some ds:=by
 unfold dkM at h ⊢
 cases e:M a with
 | none=>rw [e] at h; cases h
 | some c=>rw [k a c n e]; rw [e] at h; exact h
theorem aI {M:Mp} {a p C:Addr} {ds:List D} {fs:List (Str × D)} (h:lstM M a=some ds) (hp:M p=some (.ins C fs)):a ≠ p:=fun z=>by
 subst z
 rw [bo h] at hp
 cases hp
theorem kY {M:Mp} {a p C:Addr} {ds:List (Key × D)} {fs:List (Str × D)} (h:dkM M a=some ds) (hp:M p=some (.ins C fs)):a ≠ p:=fun z=>by
 subst z
 unfold dkM at h
 rw [hp] at h
 cases h
theorem dB {M:Mp} {p:Addr} {ds:List D} (h:M p=some (.lst ds)):lstM M p=some ds:=by
 unfold lstM
 rw [h]
theorem iF {M:Mp} {p:Addr} {ds:List (Key × D)} (h:M p=some (.dk ds)):dkM M p=some ds:=by
 unfold dkM
 rw [h]
theorem dF {N:Mp} {p q C:Addr} {fs fs':List (Str × D)} {c:gz} (hp:N p=some (.ins C fs)) (hq:N q=none) :
  q ≠ p∧au N q c p=some (.ins C fs)∧dm p N (au (au N q c) p (.ins C fs'))∧au (au N q c) p (.ins C fs') q=some c∧au (au N q c) p (.ins C fs') p=some (.ins C fs'):=by
 have n:p ≠ q:=neM hp hq
 refine ⟨Ne.symm n,by rw [fv n]; exact hp,(Sub.new hq).keep.trans .put,by rw [fv (Ne.symm n),aZ],aZ⟩
theorem mK {g:T3G} {te:T3} {ok:Mp→Prop} {Q:DK} (all:List D) (J:List D→List D→DSt→Mp→Prop) (hok:∀ p acc δ M,J p acc δ M→ok M):∀ (ds pre acc:List D) (δ:DSt) (M:Mp),pre ++ ds=all→acc.length + ds.length≤sizeLine→J pre acc δ M →
  (∀ pre d post,pre ++ d :: post=all→∀ acc δ M,J pre acc δ M→∀ k:DSt→DK,(∀ δ2 y M4,J (pre ++ [d]) (acc ++ [y]) δ2 M4→k δ2 y M4)→g d δ M fun δ2 M2=>te δ2 M2 (k δ2)) →
  (∀ acc δ M,J all acc δ M→∀ p,M p=none→Q (.ref p) (au M p (.lst acc)))→gb g mD te ok Q ds acc δ M
 | [],pre,acc,δ,M,e,hl,j,_,hq=>⟨by simpa using hl,hq acc δ M (by rw [← e,List.append_nil]; exact j)⟩
 | d :: r,pre,acc,δ,M,e,hl,j,ht,hq=>by
  rw [List.length_cons] at hl
  refine ⟨by omega,?_⟩
  refine ht pre d r e acc δ M j (fun δ2 y M4=>ok M4∧gb g mD te ok Q r (acc ++ [y]) δ2 M4) fun δ2 y M4 j'=>⟨hok _ _ _ _ j',mK all J hok r (pre ++ [d]) (acc ++ [y]) δ2 M4 (by rw [← e,List.append_assoc]; rfl) ?_ j' ht hq⟩
  rw [List.length_append,List.length_singleton]
  omega
end L3
namespace L3
open PySem PySem.Spec PyProof.Rows L2
def js:Nat→D→Bool
 | _,.non=>true
 | _,.bl _=>true
 | _,.int _=>true
 | _,.str _=>true
 | n + 1,.tup ds=>ds.all (js n)
 | _,_=>false
theorem iO {f:D→D→Option Bool}:∀ ds:List D,(∀ d∈ds,f d d=some true)→di f ds ds=some true
 | [],_=>rfl
 | d :: r,h=>by
  show (f d d).bind (fun p=>(di f r r).map fun q=>p && q)=some true
  rw [h d List.mem_cons_self,iO r fun e he=>h e (List.mem_cons_of_mem _ he)]
  rfl
theorem jd {M:Mp}:∀ (n:Nat) (d:D),js n d=true→eqD M (n + 1) d d=some true
 | _,.non,_=>rfl
 | _,.bl _,_=>by simp [eqD]
 | _,.int _,_=>by simp [eqD]
 | _,.str _,_=>by simp [eqD]
 | n + 1,.tup ds,h=>by
  have h:ds.all (js n)=true:=h
  show (di (eqD M (n + 1)) ds ds).map (fun p=>p && ds.length == ds.length)=some true
  rw [iO ds fun d hd=>jd n d (List.all_eq_true.mp h d hd)]
  simp
 | 0,.tup _,h=>by cases h
 | 0,.ref _,h=>by cases h
 | _ + 1,.ref _,h=>by cases h
 | 0,.ty _,h=>by cases h
 | _ + 1,.ty _,h=>by cases h
 | 0,.rl _,h=>by cases h
 | _ + 1,.rl _,h=>by cases h
theorem jD {M:Mp} {n:Nat} {a b:Addr} {ds:List D} (ha:lstM M a=some ds) (hb:lstM M b=some ds) (h:∀ d∈ds,eqD M n d d=some true):eqD M (n + 1) (.ref a) (.ref b)=some true:=by
 show (lstM M a).bind (fun i=>(lstM M b).bind fun j=>if i.length=j.length then di (eqD M n) i j else some false)=some true
 rw [ha,hb]
 show (if ds.length=ds.length then di (eqD M n) ds ds else some false)=some true
 rw [if_pos rfl]
 exact iO ds h
section
variable {X:Cx} {pos apos:Pos} {o e:Expr} {es:List Expr} {ta:T3} {t:T3A}
end
end L3
namespace L3
open PySem PySem.Spec PyProof.Rows L2
section
variable {X:Cx} {pos:Pos}
def yP (tc:T3T) (tb:T3S):T3S:=fun E δ M=>∃ W:Nat→DSt→Mp→Prop,(∃ m,W m δ M)∧∀ m δ M,W m δ M →
 tc δ M fun b M1=>if b=true then tb { E with nx:=fun δ' M'=>∃ m',m' < m∧W m' δ' M',ct:=fun δ' M'=>∃ m',m' < m∧W m' δ' M',bk:=E.nx } δ M1 else E.nx δ M1
theorem tY {c:Expr} {body:List Stmt} {tc:T3T} {tb:T3S} (hp:PassesOwn (model X.prog X.w) X.A X.env X.xe) (hc:B3 X c tc) (hb:Ss3 X body tb):S3 X (.While c body [] pos) (yP tc tb) :=
 PS.mono (tD hp hc hb) fun D' σ H ⟨δ,M,E,hs,hm,⟨W,⟨m0,w0⟩,turn⟩,k1,k2,k3,k4⟩=>by
 refine ⟨fun m σ' H'=>∃ δ' M',St3 X.K H' σ' δ'∧HM X.K H' M'∧bH X.K H H'∧σ'.length=σ.length∧W m δ' M',⟨m0,δ,M,hs,hm,.refl,rfl,w0⟩,?_⟩
 rintro m σ1 H1 ⟨δ1,M1,hs1,hm1,e1,l1,w1⟩
 refine ⟨δ1,M1,_,hs1,hm1,turn m δ1 M1 w1,fun b H2 M2 hm2 e2 q2=>?_⟩
 cases b with
 | false =>
  rw [if_neg Bool.false_ne_true] at q2 ⊢
  exact k1 σ1 H2 δ1 M2 (hs1.mono e2) hm2 (e1.trans e2) l1 q2
 | true =>
  rw [if_pos rfl] at q2 ⊢
  refine ⟨fun σ' H'=>∃ δ' M',St3 X.K H' σ' δ'∧HM X.K H' M'∧bH X.K H H'∧σ'.length=σ.length∧∃ m',m' < m∧W m' δ' M',?_,δ1,M2,_,hs1.mono e2,hm2,q2,?_,?_,?_,?_⟩
  ·rintro σ' H' ⟨δ',M',a1,a2,a3,a4,m',lt,w⟩
   exact ⟨m',lt,δ',M',a1,a2,a3,a4,w⟩
  ·exact fun σ' H' δ' M' y1 y2 y3 y4 y5=>⟨δ',M',y1,y2,e1.trans (e2.trans y3),by rw [y4,l1],y5⟩
  ·exact fun v H' d M' y1 y2 y3 y4=>k2 v H' d M' y1 y2 (e1.trans (e2.trans y3)) y4
  ·exact fun σ' H' δ' M' y1 y2 y3 y4 y5=>k1 σ' H' δ' M' y1 y2 (e1.trans (e2.trans y3)) (by rw [y4,l1]) y5
  ·exact fun σ' H' δ' M' y1 y2 y3 y4 y5=>⟨δ',M',y1,y2,e1.trans (e2.trans y3),by rw [y4,l1],y5⟩
def x8 (op:Operator) (x y:D):Option D:=match op,x,y with
 | .Add,.int i,.int j=>some (.int (i + j))
 | .Sub,.int i,.int j=>some (.int (i - j))
 | _,_,_=>none
def yO (op:Operator):V→V→Hp→VK→Prop:=fun vx vy H Q=>match op,vx,vy with
 | .Add,.int i,.int j=>Q (.int (i + j)) H
 | .Sub,.int i,.int j=>Q (.int (i - j)) H
 | _,_,_=>False
theorem xN {op:Operator}:vC X op (yO op):=by
 intro pins s σ H x y u v Q I rx ry h
 unfold yO at h
 split at h
 ·exact xD pins s σ H _ _ u v Q I rx ry ⟨_,_,rfl,rfl,h⟩
 ·exact zp pins s σ H _ _ u v Q I rx ry ⟨_,_,rfl,rfl,h⟩
 ·exact h.elim
theorem wc {K:PySem.W.Frag} {H:Hp} {op:Operator} {x y z:D} {vx vy:V} {Q:VK} (hx:Has K H x vx) (hy:Has K H y vy) (e:x8 op x y=some z) (k:∀ vz,Has K H z vz→Q vz H):yO op vx vy H Q:=by
 unfold x8 at e
 split at e
 ·cases e; cases hx.int_inv; cases hy.int_inv; exact k _ .int
 ·cases e; cases hx.int_inv; cases hy.int_inv; exact k _ .int
 ·cases e
def Aj (K:PySem.W.Frag) (f:Str) (op:Operator) (ta tv:T3):T3S:=fun E δ M=>ta δ M fun x M1=>match x with
 | .ref a=>oa (M1 a) fun C fs=>bG K C f∧(fs.lookup f).elim False fun d=>tv δ M1 fun y M2=>(x8 op d y).elim False fun z =>
   oa (M2 a) fun C' fs'=>C'=C∧fs'.length < 1000∧E.nx δ (au M2 a (.ins C (putD f z fs')))
 | _=>False
theorem mo {o value:Expr} {ta tv:T3} {f:Str} {op:Operator} {tpos:Pos} (ha:E3 X o ta) (hv:E3 X value tv):S3 X (.AugAssign (.Attribute o f tpos) op value pos) (Aj X.K f op ta tv) :=
 PS.mono (rq ha hv xN) fun D' σ H ⟨δ,M,E,hs,hm,ht,k1,k2,k3,k4⟩ =>
 ⟨δ,M,_,hs,hm,ht,fun v H1 d M1 hd hm1 e1 q1=>by
  cases d with
  | ref a =>
   cases hd.ref_inv
   obtain ⟨C,fs,e,q1⟩:=gW q1
   obtain ⟨na,q1⟩:=q1
   obtain ⟨d,ed,q1⟩:=bY q1
   obtain ⟨dx,vs,h1,cl,nn,fo⟩:=hm1 a _ e
   obtain ⟨w,ew,hw⟩:=(gJ fo).1 d ed
   refine ⟨a,C,dx,vs,w,rfl,h1,cl,na,ew,δ,M1,_,hs.mono e1,hm1,q1,fun u H2 y M2 hy hm2 e2 q2=>?_⟩
   obtain ⟨z,ez,q2⟩:=bY q2
   obtain ⟨C',fs',e',q2⟩:=gW q2
   obtain ⟨rfl,hl,q2⟩:=q2
   refine wc (hw.mono e2) hy ez fun vz hz=>?_
   obtain ⟨dx',vs',h1',cl',nn',fo'⟩:=hm2 a _ e'
   have hlen:vs'.length=fs'.length:=by have:=congrArg List.length fo'.1; simpa using this
   refine ⟨dx',vs',h1',by omega,?_⟩
   obtain ⟨hm3,e3⟩:=hm2.put (p:=a) (o:=.ins C' dx' (fU f vz vs')) (c:=.ins C' (putD f z fs')) e' fun x=>⟨dx',_,aU,cl',fun g hg=>by
    rcases kx hg with q | q
    ·rw [q]; exact na
    ·exact nn' g q,mG (hz.mono x) (fo'.mono x)⟩
   exact k1 σ _ δ _ (hs.mono (e1.trans (e2.trans e3))) hm3 (e1.trans (e2.trans e3)) rfl q2
  | _=>exact q1.elim⟩
end
end L3
namespace L3
open PySem PySem.Spec PyProof.Rows L2
theorem dP {i:Nat} {tt:T3T} {te:T3} {ok:Mp→Prop} {Q:DK} {f:D→D} {t:D→Bool} {M:Mp} (hok:ok M):∀ (ds acc:List D) (δ:DSt),acc.length + ds.length≤sizeLine →
  (∀ d∈ds,∀ k:Bool→Mp→Prop,k (t d) M→tt (δ.set i (some d)) M k)→(∀ d∈ds,t d=true→∀ k:DK,k (f d) M→te (δ.set i (some d)) M k) →
  (∀ p,M p=none→Q (.ref p) (au M p (.lst (acc ++ (ds.filter t).map f))))→gb (hW i) tt te ok Q ds acc δ M
 | [],acc,δ,hl,_,_,hq=>⟨by simpa using hl,by simpa using hq⟩
 | d :: r,acc,δ,hl,ht,he,hq=>by
  rw [List.length_cons] at hl
  refine ⟨by omega,?_⟩
  show tt (δ.set i (some d)) M _
  refine ht d List.mem_cons_self _ ?_
  have z:∀ e:D,(δ.set i (some d)).set i (some e)=δ.set i (some e):=fun e=>by rw [List.set_set]
  cases q:t d with
  | true =>
   rw [if_pos rfl]
   refine he d List.mem_cons_self q _ ⟨hok,dP (f:=f) (t:=t) hok r (acc ++ [f d]) _ ?_ (fun e m k h=>?_) (fun e m h0 k h=>?_) ?_⟩
   ·rw [List.length_append,List.length_singleton]; omega
   ·rw [z]; exact ht e (List.mem_cons_of_mem _ m) k h
   ·rw [z]; exact he e (List.mem_cons_of_mem _ m) h0 k h
   ·intro p hp
    have:=hq p hp
    rw [List.filter_cons_of_pos q] at this
    simpa using this
  | false =>
   rw [if_neg Bool.false_ne_true]
   refine ⟨hok,dP (f:=f) (t:=t) hok r acc _ (by omega) (fun e m k h=>?_) (fun e m h0 k h=>?_) ?_⟩
   ·rw [z]; exact ht e (List.mem_cons_of_mem _ m) k h
   ·rw [z]; exact he e (List.mem_cons_of_mem _ m) h0 k h
   ·intro p hp
    have:=hq p hp
    rw [List.filter_cons_of_neg (by rw [q]; exact Bool.false_ne_true)] at this
    exact this
section
variable {X:Cx} {pos:Pos} {a:Expr} {ta:T3}
def AW (ta:T3):T3:=fun δ M Q=>ta δ M fun x M1=>match x with | .int i=>Q (.int (-i)) M1 | _=>False
theorem mI (ha:E3 X a ta):E3 X (.UnaryOp .USub a pos) (AW ta):=PE.mono (Ae yS ha) fun σ H Q' ⟨δ,M,Q,hs,hm,ht,k⟩ =>
 ⟨δ,M,_,hs,hm,ht,fun v H1 d M1 hd hm1 e1 q1=>by
  cases d with
  | int i =>
   cases hd.int_inv
   exact ⟨i,rfl,k _ H1 _ M1 .int hm1 e1 q1⟩
  | _=>exact q1.elim⟩
end
end L3
namespace L2
open PySem PySem.Spec PyProof.Rows PySem.W
section
variable {prog:Program} {w:World} {A:Around} {E:Value→Shared→Prop} {s:Shared}
end
end L2
namespace L2
open PySem PySem.Spec PyProof.Rows PySem.W
section
variable {prog:Program} {w:World} {A:Around} {E:Value→Shared→Prop} {s:Shared}
end
theorem Inv.many {X:Cx} {pins:List (Addr × Obj)} {σ:St} {H H':Hp} {s:Shared} {h':Heap} {t':Nat} (I:Inv X pins σ H s) (k:∀ b o,s.heap.get? b=some o→h'.get? b=some o) (hs:∀ b,b < s.heap.objs.size→H' b=H b)
  (new:∀ b o,s.heap.objs.size≤b→H' b=some o→dE X.prog X.w H' h' b o):Inv X pins σ H' { s with heap:=h',toks:=t' }:=by
 have sm:∀ b o,H b=some o→H' b=some o:=fun b o e=>by rw [hs b (I.hok.lt e)]; exact e
 refine I.step (g':=s.gens) (d':=s.drawn) (ch:=[]) (fun b hb=>nomatch hb) (fun b o _ _ _ e _=>k b o e) (fun b o _ _ _ e _=>⟨o.slots,k b o e⟩) (fun b o _ e n=>by rw [hs b (Heap.lt_size e)]; exact n)
  (fun b o _ e=>⟨o,k b o e⟩) (fun b xs e=>sm b _ e) (fun b o u e=>sm b _ e) (fun b ps e=>⟨#[],by rw [sm b _ e]; simp⟩) (fun m hm=>?_) (fun b u e=>?_) I.bare
 ·obtain ⟨o,es,ep,ho,r⟩:=hm
  exact ⟨o,es,ep,k _ o ho,r⟩
 ·by_cases hb:b < s.heap.objs.size
  ·rw [hs b hb] at e
   exact (I.hok b u e).stay (fun c v _ q=>k c v q) (fun c q=>sm c _ q) fun c xs q=>sm c _ q
  ·exact new b u (Nat.le_of_not_lt hb) e
end L2
namespace L3
open PySem PySem.Spec PyProof.Rows L2
end L3
namespace L3
open PySem PySem.Spec PyProof.Rows L2
section
variable {X:Cx} {pos:Pos} {a b o i:Expr} {ta tb ti to:T3}
def Al (to ti:T3):T3G:=fun d δ M Q=>to δ M fun x M1=>ti δ M1 fun y M2=>match x,y with
 | .ref p,.int k=>(lstM M2 p).elim False fun es=>(ixN es.length k).elim False fun j=>Q δ (au M2 p (.lst (es.set j d)))
 | _,_=>False
theorem aT.set {K:PySem.W.Frag} {H:Hp} {d:D} {v:V} (hv:Has K H d v):∀ {ds:List D} {xs:List V} (j:Nat),aT K H ds xs→aT K H (ds.set j d) (xs.set j v)
 | [],_,j,h=>by rw [h.nil_inv]; simp only [List.set_nil]; exact .nil
 | e :: ds,_,0,h=>by
  obtain ⟨x,r,rfl,h1,h2⟩:=h.inv
  exact .cons hv h2
 | e :: ds,_,j + 1,h=>by
  obtain ⟨x,r,rfl,h1,h2⟩:=h.inv
  exact .cons h1 (aT.set hv j h2)
theorem xR (ho:E3 X o to) (hi:E3 X i ti)
  (ha:∀ v,assign (.Subscript o i pos) X.env v=(do
   let ov ← holding [v] (eval o X.env)
   let iv ← holding [v,ov] (eval i X.env)
   standAt pos
   holding [v,ov,iv] (setItem ov iv v)
   release [v,ov,iv] []):=by intro _; rfl):G3 X (.Subscript o i pos) (Al to ti) :=
 PG.mono (xA ho hi uw ha) fun v σ H Q' ⟨d,δ,M,Q,hd,hs,hm,ht,k⟩ =>
 ⟨δ,M,_,hs,hm,ht,fun vx H1 x M1 hx hm1 e1 q1=>⟨δ,M1,_,hs.mono e1,hm1,q1,fun vy H2 y M2 hy hm2 e2 q2=>by
  cases x with
  | ref p =>
   cases y with
   | int j0 =>
    obtain ⟨es,f1,q2⟩:=bY q2
    obtain ⟨j,f2,q2⟩:=bY q2
    cases (hx.mono e2).ref_inv
    cases hy.int_inv
    obtain ⟨xs,h1,h2⟩:=qC hm2 f1
    refine ⟨p,xs,j0,j,rfl,rfl,h1,by rw [← h2.length]; exact f2,?_⟩
    have hd2:=hd.mono (e1.trans e2)
    obtain ⟨hm3,e3⟩:=hm2.put (o:=.lst (xs.set j v)) (c:=.lst (es.set j d)) (bo f1) fun ex=>⟨_,aU,(h2.mono ex).set (hd2.mono ex) j⟩
    exact k σ _ δ _ (hs.mono (e1.trans (e2.trans e3))) hm3 (e1.trans (e2.trans e3)) rfl q2
   | _=>exact q2.elim
  | _=>exact q2.elim⟩⟩
end
end L3
namespace L2
open PySem PySem.Spec PyProof.Rows
section
variable {prog:Program} {w:World} {A:Around} {E:Value→Shared→Prop} {s:Shared}
end
section
variable {X:Cx}
end
end L2
namespace L3
open PySem PySem.Spec PyProof.Rows L2
section
variable {X:Cx} {pos apos p:Pos} {a b o e i value:Expr} {es:List Expr} {ta tb ti to tv td tk:T3} {t:T3A}
def kM (kvs:List (Key × D)) (k:Key) (v:D):List (Key × D):=if (kvs.any fun kv=>decide (kv.1=k))=true then kvs.map (fun kv=>if kv.1=k then (kv.1,v) else kv) else kvs ++ [(k,v)]
theorem oA {κ α β:Type} {k:κ} [DecidableEq κ]:∀ {xs:List (κ × α)} {ys:List (κ × β)},xs.map (·.1)=ys.map (·.1)→(xs.any fun kv=>decide (kv.1=k))=ys.any fun kv=>decide (kv.1=k)
 | [],[],_=>rfl
 | [],_ :: _,e=>by cases e
 | _ :: _,[],e=>by cases e
 | x :: xs,y :: ys,e=>by
  obtain ⟨e1,e2⟩:=List.cons.inj e
  rw [List.any_cons,List.any_cons,oA e2]
  have e1:x.1=y.1:=e1
  rw [e1]
theorem su {K:PySem.W.Frag} {H:Hp} {k:Key} {d:D} {v:V} (hv:Has K H d v) {kvs:List (Key × D)} {vs:List (Key × V)} (h1:vs.map (·.1)=kvs.map (·.1)) (h2:aT K H (kvs.map (·.2)) (vs.map (·.2))) :
  (iR vs k v).map (·.1)=(kM kvs k d).map (·.1)∧aT K H ((kM kvs k d).map (·.2)) ((iR vs k v).map (·.2)):=by
 have go:∀ {kvs:List (Key × D)} {vs:List (Key × V)},vs.map (·.1)=kvs.map (·.1)→aT K H (kvs.map (·.2)) (vs.map (·.2)) →
   (vs.map (fun kv=>if kv.1=k then (kv.1,v) else kv)).map (·.1)=(kvs.map (fun kv=>if kv.1=k then (kv.1,d) else kv)).map (·.1)∧aT K H ((kvs.map (fun kv=>if kv.1=k then (kv.1,d) else kv)).map (·.2)) ((vs.map (fun kv=>if kv.1=k then (kv.1,v) else kv)).map (·.2)):=fun {kvs}=>by
  induction kvs with
  | nil=>intro vs e h; cases vs with
   | nil=>exact ⟨rfl,.nil⟩
   | cons _ _=>cases e
  | cons c r ih=>intro vs e h; cases vs with
   | nil=>cases e
   | cons w ws =>
    obtain ⟨e1,e2⟩:=List.cons.inj e
    obtain ⟨x,xr,e3,g1,g2⟩:=h.inv
    obtain ⟨e4,e5⟩:=List.cons.inj e3
    subst e4 e5
    obtain ⟨i1,i2⟩:=ih e2 g2
    have e1:w.1=c.1:=e1
    by_cases hk:c.1=k
    ·have w1:(if w.1=k then (w.1,v) else w)=(w.1,v):=if_pos (e1.trans hk)
     have w2:(if c.1=k then (c.1,d) else c)=(c.1,d):=if_pos hk
     simp only [List.map_cons,w1,w2]
     exact ⟨by rw [i1,e1],.cons hv i2⟩
    ·have w1:(if w.1=k then (w.1,v) else w)=w:=if_neg fun z=>hk (e1.symm.trans z)
     have w2:(if c.1=k then (c.1,d) else c)=c:=if_neg hk
     simp only [List.map_cons,w1,w2]
     exact ⟨by rw [i1,e1],.cons g1 i2⟩
 unfold iR kM
 rw [oA (k:=k) h1]
 by_cases hk:(kvs.any fun kv=>decide (kv.1=k))=true
 ·rw [if_pos hk,if_pos hk]
  exact go h1 h2
 ·rw [if_neg hk,if_neg hk]
  exact ⟨by rw [List.map_append,List.map_append,h1]; rfl,by rw [List.map_append,List.map_append]; exact h2.append (.cons hv .nil)⟩
def zG (td tk tv:T3):T3S:=fun D δ M=>tv δ M fun v M1=>td δ M1 fun x M2=>tk δ M2 fun y M3=>match x,y with
 | .ref a,.str k=>(dkM M3 a).elim False fun kvs=>kvs.length < sizeLine∧D.nx δ (au M3 a (.dk (kM kvs (.inr k) v)))
 | _,_=>False
theorem fK {M:Mp} {a:Addr} {kvs:List (Key × D)} (h:dkM M a=some kvs):M a=some (.dk kvs):=by
 unfold dkM at h
 split at h
 ·rename_i e; rw [e]; cases h; rfl
 ·cases h
theorem qN {pos':Pos} (hu:X.A.units + 9 < cLine) (ho:E3 X o td) (hi:E3 X i tk) (hv:E3 X value tv) (hs:swapsWith value (some (.Subscript o i pos')) pos.line X.env=pure false:=by rfl):S3 X (.Assign [.Subscript o i pos'] value pos) (zG td tk tv) :=
 PS.mono (wl (by omega) ho hi hv hs) fun D' σ H ⟨δ,M,D,hs,hm,ht,k1,k2,k3,k4⟩ =>
 ⟨δ,M,_,hs,hm,ht,fun v H1 d M1 hd hm1 e1 q1=>⟨δ,M1,_,hs.mono e1,hm1,q1,fun vx H2 x M2 hx hm2 e2 q2=>⟨δ,M2,_,hs.mono (e1.trans e2),hm2,q2,fun vy H3 y M3 hy hm3 e3 q3=>by
  split at q3
  ·rename_i a0 k0
   obtain ⟨kvs,f1,f2,q3⟩:=bY q3
   cases (hx.mono e3).ref_inv
   cases hy.str_inv
   obtain ⟨vs,h1,h2,h3⟩:=k9 hm3 f1
   have hl:vs.length=kvs.length:=by have:=congrArg List.length h2; simpa using this
   refine ⟨_,_,rfl,tT.k (k:=Sum.inr k0) h1 (by omega),?_⟩
   have hd3:=hd.mono (e2.trans e3)
   obtain ⟨hm4,e4⟩:=hm3.put (o:=.dK (iR vs (Sum.inr k0) v)) (c:=.dk (kM kvs (.inr k0) d)) (fK f1) fun ex=>by
    obtain ⟨g1,g2⟩:=su (k:=Sum.inr k0) (hd3.mono ex) h2 (h3.mono ex)
    exact ⟨_,aU,g1,g2⟩
   exact k1 σ _ δ _ (hs.mono (e1.trans (e2.trans (e3.trans e4)))) hm4 (e1.trans (e2.trans (e3.trans e4))) rfl q3
  ·exact q3.elim⟩⟩⟩
end
end L3
namespace L3
open PySem PySem.Spec PyProof.Rows L2
section
variable {X:Cx} {pins:List (Addr × Obj)} {σ:St} {H:Hp} {s:Shared}
end
section
variable {X:Cx} {pos p tp:Pos} {elts:List Expr} {n:Nat}
end
end L3
namespace L2
open PySem PySem.Spec PyProof.Rows Builtin Builtin.Str
section
variable {prog:Program} {w:World} {A:Around} {E:Value→Shared→Prop} {s:Shared}
end
section
variable {X:Cx}
end
end L2
namespace L3
open PySem PySem.Spec PyProof.Rows L2 Builtin Builtin.Str
section
variable {X:Cx} {pos apos:Pos} {o e:Expr} {es:List Expr} {ta:T3} {t:T3A}
end
end L3
namespace L3
open PySem PySem.Spec PyProof.Rows L2
@[irreducible] def SsI (X:Cx) (st:List Stmt) (t:T3S):Prop:=Ss3 X st t
@[irreducible] def SI (X:Cx) (st:Stmt) (t:T3S):Prop:=S3 X st t
@[irreducible] def EI (X:Cx) (e:Expr) (t:T3):Prop:=E3 X e t
@[irreducible] def AI (X:Cx) (es:List Expr) (t:T3A):Prop:=A3 X es t
section
variable {X:Cx} {pos:Pos}
end
end L3
namespace L3
open PySem PySem.Spec PyProof.Rows L2
section
variable {prog:Program} {w:World} {A:Around} {E:Value→Shared→Prop} {s:Shared}
end
section
variable {X:Cx} {pins:List (Addr × Obj)} {σ:St} {H:Hp} {s:Shared}
end
section
variable {X:Cx} {pos p tp:Pos} {elts:List Expr} {n:Nat}
end
end L3
namespace L3
open PySem PySem.Spec PyProof.Rows L2
section
variable {X:Cx} {pos apos:Pos} {o e:Expr} {es:List Expr} {ta:T3} {t:T3A}
def AK:T3T:=fun _ _ _=>False
theorem oy {cs:List Expr}:F3 X cs AK:=fun _ _ _ _ _ _ ⟨_,_,_,_,_,z,_⟩=>z.elim
theorem il {g:T3G} {tt:T3T} {te:T3} {ok:Mp→Prop} {Q:DK} (all:List D) (J:List D→List D→DSt→Mp→Prop) (hok:∀ p acc δ M,J p acc δ M→ok M):∀ (ds pre acc:List D) (δ:DSt) (M:Mp),pre ++ ds=all→acc.length + ds.length≤sizeLine→J pre acc δ M →
  (∀ pre d post,pre ++ d :: post=all→∀ acc δ M,J pre acc δ M→∀ (k:DSt→DK) (k2:DSt→Mp→Prop),(∀ δ2 y M4,J (pre ++ [d]) (acc ++ [y]) δ2 M4→k δ2 y M4)→(∀ δ2 M3,J (pre ++ [d]) acc δ2 M3→k2 δ2 M3)→g d δ M fun δ2 M2=>tt δ2 M2 fun b M3=>if b=true then te δ2 M3 (k δ2) else k2 δ2 M3) →
  (∀ acc δ M,J all acc δ M→∀ p,M p=none→Q (.ref p) (au M p (.lst acc)))→gb g tt te ok Q ds acc δ M
 | [],pre,acc,δ,M,e,hl,j,_,hq=>⟨by simpa using hl,hq acc δ M (by rw [← e,List.append_nil]; exact j)⟩
 | d :: r,pre,acc,δ,M,e,hl,j,ht,hq=>by
  rw [List.length_cons] at hl
  refine ⟨by omega,?_⟩
  refine ht pre d r e acc δ M j (fun δ2 y M4=>ok M4∧gb g tt te ok Q r (acc ++ [y]) δ2 M4) (fun δ2 M3=>ok M3∧gb g tt te ok Q r acc δ2 M3) (fun δ2 y M4 j'=>⟨hok _ _ _ _ j',il all J hok r (pre ++ [d]) (acc ++ [y]) δ2 M4 (by rw [← e,List.append_assoc]; rfl) ?_ j' ht hq⟩) fun δ2 M3 j'=>⟨hok _ _ _ _ j',il all J hok r (pre ++ [d]) acc δ2 M3 (by rw [← e,List.append_assoc]; rfl) (by omega) j' ht hq⟩
  rw [List.length_append,List.length_singleton]
  omega
end
end L3
namespace L3
open PySem PySem.Spec PyProof.Rows L2
section
variable {X:Cx}
end
end L3
namespace L2
open PySem PySem.Spec PyProof.Rows
def Cx.xeTo (X:Cx) (E:Value→Shared→Prop):Cx:={ X with xe:=E }
theorem Inv.xeTo {X:Cx} {E:Value→Shared→Prop} {pins:List (Addr × Obj)} {σ:St} {H:Hp} {s:Shared} (I:Inv X pins σ H s):Inv (X.xeTo E) pins σ H s :=
 ⟨⟨I.ok.mod,I.ok.kind,I.ok.glob,I.ok.blt,I.ok.above,I.ok.inj,I.ok.has,I.ok.cab,I.ok.hd,I.ok.frames,I.ok.stk,I.ok.exf,I.ok.bs,I.ok.bsz,I.ok.noex,I.ok.exfs,I.ok.funs,I.ok.frf⟩,I.os,I.bare,I.base,I.loc,I.cell,I.free,I.freeC,I.pin,I.hok,I.len⟩
theorem Inv.xeOf {X:Cx} {E:Value→Shared→Prop} {pins:List (Addr × Obj)} {σ:St} {H:Hp} {s:Shared} (I:Inv (X.xeTo E) pins σ H s):Inv X pins σ H s :=
 ⟨⟨I.ok.mod,I.ok.kind,I.ok.glob,I.ok.blt,I.ok.above,I.ok.inj,I.ok.has,I.ok.cab,I.ok.hd,I.ok.frames,I.ok.stk,I.ok.exf,I.ok.bs,I.ok.bsz,I.ok.noex,I.ok.exfs,I.ok.funs,I.ok.frf⟩,I.os,I.bare,I.base,I.loc,I.cell,I.free,I.freeC,I.pin,I.hok,I.len⟩
end L2
namespace L3
open PySem PySem.Spec PyProof.Rows L2
end L3
namespace L2
open PySem PySem.Spec PyProof.Rows
end L2
namespace L2
open PySem PySem.Spec PyProof.Rows
end L2
namespace L3
open PySem PySem.Spec PyProof.Rows L2
section
variable {X:Cx} {pos p tp kpos:Pos} {elts:List Expr} {n:Nat}
end
end L3
namespace L2
open PySem PySem.Spec PyProof.Rows
section
variable {prog:Program} {w:World} {A:Around} {E:Value→Shared→Prop} {s:Shared} {a:Addr} {δ:Type} {R:δ→Value→Prop} {D:List (Str × δ)} {k:Str} {tk:Tok}
end
end L2
namespace L3
open PySem PySem.Spec PyProof.Rows L2
section
variable {X:Cx} {pos p:Pos} {x:Str} {d:D} {e o i:Expr} {ta tb td tk:T3} {F:List (Str × List Str)}
end
end L3
namespace L2
open PySem PySem.Spec PyProof.Rows
def ve (h:Heap) (e:Addr) (cls:Value) (dx tb:Option Addr) (F:Value):Prop :=
 ∃ oe vs,h.get? e=some oe∧oe.cls=cls∧oe.dict=dx∧oe.data=.fields vs∧1 < vs.size∧vs[1]?=some (tb.elim Value.none Value.ref)∧∀ T,tb=some T→T ≠ e∧∃ oT ts,h.get? T=some oT∧oT.data=.fields ts∧3 < ts.size∧ts[3]?=some F
def XAt (h:Heap) (e:Addr) (cls:Value) (dx tb:Option Addr):Prop:=ve h e cls dx tb Value.none
theorem kX {h base:Heap}:∀ {l:List Env} {b:Addr},h.FunFrames base l→b∈frs l→∃ o,h.get? b=some o∧∀ vs,o.data ≠ .fields vs
 | [],b,_,hb=>by cases hb
 | env :: r,b,hF,hb=>by
  obtain ⟨_,⟨L,o,hL,_,ho,hd⟩,hr⟩:=hF
  have e:frs (env :: r)=L :: frs r:=by
   unfold frs
   rw [List.filterMap_cons,hL]
  rw [e] at hb
  rcases List.mem_cons.mp hb with z | z
  ·rw [z]; exact ⟨o,ho,hd⟩
  ·exact kX hr z
theorem mj {h base:Heap} {l:List Env} {b:Addr} {o:Obj} {vs:Array Value} (hF:h.FunFrames base l) (ho:h.get? b=some o) (hd:o.data=.fields vs):b ∉ frs l:=fun hb=>by
 obtain ⟨o',ho',hn⟩:=kX hF hb
 rw [ho] at ho'
 cases ho'
 exact hn vs hd
section
variable {M:Model} {A:Around} {E:Value→Shared→Prop} {s:Shared} {base:Heap} {env:Env} {outer:List Env} {L e:Addr} {cls:Value} {dx:Option Addr} {Q:Unit→Shared→Prop}
theorem vW {head:Value} {had:Bool} {oe:Obj} {vs:Array Value} {cenv:Env} (hcf:cenv.frame=some L) (hfr:A.frames=some (env :: outer)) (hF:s.heap.FunFrames base (env :: outer)) (hL:env.frame=some L) (ho:s.heap.get? e=some oe) (hd:oe.data=.fields vs) (h1:1 < vs.size)
  (k:∀ (h':Heap) (T:Addr),s.heap.get? T=none→(∀ b o,s.heap.get? b=some o→b ∉ frs (env :: outer)→b ≠ e→h'.get? b=some o)→(∀ b o,s.heap.get? b=some o→b∈frs (env :: outer)→∃ sl,h'.get? b=some { o with slots:=sl }) →
   (∃ oe',h'.get? e=some oe'∧oe'.cls=oe.cls∧oe'.dict=oe.dict∧oe'.data=.fields (vs.setIfInBounds 1 (.ref T)))→(∃ oT ts,h'.get? T=some oT∧oT.data=.fields ts∧3 < ts.size∧ts[3]?=some (rawInt ↑L))→Q () { s with heap:=h' }) :
  wpAny M A (do
   let a ← PySem.frameOf cenv
   let pl ← entryPlaceOf L had
   let b ← EntryCells.newEntry head a Value.none (rawInt ↑L) Value.none pl
   setField (Value.ref e) 1 b) Q E s:=by
 have ne:=mj hF ho hd
 unfold PySem.frameOf
 refine wpAny_bind (wpAny_bind (wpAny_frameEnvs hfr (wpAny_bind ?_)))
 have ed:List.dropWhile (fun x=>x.frame != cenv.frame) (env :: outer)=env :: outer:=by
  rw [List.dropWhile_cons,if_neg (by rw [hL,hcf]; simp)]
 rw [ed]
 unfold frameObject
 refine wpAny_bind (wpAny_readyFrames_fun hF fun h1' hs=>?_)
 obtain ⟨z1,z2,z3⟩:=hs
 rw [hL]
 refine wpAny_pure (wpAny_pure ?_)
 refine wpAny_bind (wpAny_entryPlaceOf fun pl hp=>?_)
 refine wpAny_bind ?_
 unfold EntryCells.newEntry newFields
 have hlen:([head,Value.ref L,Value.none,rawInt ↑L,Value.none] ++ if pl.isEmpty=true then List.replicate 6 Value.none else pl).length=11:=by
  rw [List.length_append]
  rcases hp with rfl | ⟨_,_,_,_,_,_,_,rfl⟩ <;> rfl
 have hfl:([head,Value.ref L,Value.none,rawInt ↑L,Value.none] ++ if pl.isEmpty=true then List.replicate 6 Value.none else pl)[3]?=some (rawInt ↑L):=rfl
 generalize ([head,Value.ref L,Value.none,rawInt ↑L,Value.none] ++ if pl.isEmpty=true then List.replicate 6 Value.none else pl)=fs at hlen hfl ⊢
 refine wpAny_newObj_type ?_ (by
  show fs.toArray.size≤_
  rw [List.size_toArray,hlen]
  decide)
 have e1:h1'.get? e=some oe:=by rw [z2 e ne]; exact ho
 have e2:(h1'.push { cls:=.type "traceback",data:=.fields fs.toArray }).get? e=some oe:=Heap.get?_push_of_some _ e1
 refine wpAny_setField e2 hd h1 ?_
 have tn:s.heap.get? h1'.objs.size=none:=Heap.get?_none_of_le (by rw [z1]; exact Nat.le_refl _)
 have te:h1'.objs.size ≠ e:=fun z=>by rw [z,ho] at tn; cases tn
 obtain ⟨oc,od,odt,osl⟩:=oe
 obtain rfl:odt=.fields vs:=hd
 have up:∀ b,e ≠ b→((h1'.push { cls:=.type "traceback",data:=.fields fs.toArray }).update e (Obj.mapFields fun x=>x.setIfInBounds 1 (.ref h1'.objs.size))).get? b=(h1'.push { cls:=.type "traceback",data:=.fields fs.toArray }).get? b:=fun b z=>Heap.get?_update_other _ _ z
 refine k _ h1'.objs.size tn (fun b o hb nf ne'=>?_) (fun b o hb hf=>?_) ⟨_,Heap.get?_update_self _ e2 rfl,rfl,rfl,rfl⟩ ⟨_,fs.toArray,(up _ (Ne.symm te)).trans (Heap.get?_push_size _ rfl),rfl,by rw [List.size_toArray,hlen]; decide,by rw [List.getElem?_toArray]; exact hfl⟩
 ·rw [up b (Ne.symm ne')]
  exact Heap.get?_push_of_some _ (by rw [z2 b nf]; exact hb)
 ·obtain ⟨sl,q⟩:=z3 b o hb
  refine ⟨sl,?_⟩
  rw [up b (fun z=>ne (z ▸ hf))]
  exact Heap.get?_push_of_some _ q
theorem xQ {E₁:Value→Shared→Prop} {tb:Option Addr} {F:Value} {cenv:Env} (hcf:cenv.frame=some L) (hfr:A.frames=some (env :: outer)) (hF:s.heap.FunFrames base (env :: outer)) (hL:env.frame=some L) (hx:ve s.heap e cls dx tb F) (hFL:(F == rawInt ↑L)=false)
  (k:∀ (h':Heap) (T:Addr),s.heap.get? T=none→(∀ b o,s.heap.get? b=some o→b ∉ frs (env :: outer)→b ≠ e→tb ≠ some b→h'.get? b=some o)→(∀ b o,s.heap.get? b=some o→b∈frs (env :: outer)→∃ sl,h'.get? b=some { o with slots:=sl }) →
   (∀ b,h'.get? b=none→s.heap.get? b=none)→ve h' e cls dx (some T) (rawInt ↑L)→Q () { s with heap:=h' }):wpAny M A (noteFrame (.ref e) cenv) Q E₁ s:=by
 obtain ⟨oe,vs,ho,hc,hdx,hd,h1,hv,hT⟩:=hx
 have ne:=mj hF ho hd
 unfold noteFrame
 rw [hcf]
 refine wpAny_bind (wpAny_field ho hd hv ?_)
 have fin:∀ (s1:Shared) (oe1:Obj),s1.gens=s.gens→s1.drawn=s.drawn→s1.toks=s.toks→s1.os=s.os→s1.heap.FunFrames base (env :: outer)→s1.heap.get? e=some oe1→oe1.cls=cls→oe1.dict=dx→oe1.data=.fields vs→(∀ b o,s.heap.get? b=some o→b ∉ frs (env :: outer)→b ≠ e→tb ≠ some b→s1.heap.get? b=some o) →
   (∀ b o,s.heap.get? b=some o→b∈frs (env :: outer)→s1.heap.get? b=some o)→(∀ b,s1.heap.get? b=none ↔ s.heap.get? b=none)→∀ (head:Value) (had:Bool),wpAny M A (do
   let a ← PySem.frameOf cenv
   let pl ← entryPlaceOf L had
   let b ← EntryCells.newEntry head a Value.none (rawInt ↑L) Value.none pl
   setField (Value.ref e) 1 b) Q E₁ s1:=by
  intro s1 oe1 g1 g2 g3 g4 hF1 ho1 hc1 hdx1 hd1 kb kf kn head had
  refine vW hcf hfr hF1 hL ho1 hd1 h1 fun h' T tn k1 k2 ⟨oe',he',hce,hdxe,hde⟩ ⟨oT,ts,hoT,hdT,h3,h3v⟩=>?_
  have te:T ≠ e:=fun z=>by rw [z,ho1] at tn; cases tn
  have:=k h' T ((kn T).mp tn) (fun b o hb nf nb nt=>k1 b o (kb b o hb nf nb nt) nf nb) (fun b o hb hf=>k2 b o (kf b o hb hf) hf) (fun b hb=>?_) ⟨oe',vs.setIfInBounds 1 (.ref T),he',hce.trans hc1,hdxe.trans hdx1,hde,by rw [Array.size_setIfInBounds]; exact h1,by rw [Array.getElem?_setIfInBounds_self_of_lt h1]; rfl,fun T' eT=>?_⟩
  ·show Q () { heap:=_,gens:=s1.gens,drawn:=s1.drawn,toks:=s1.toks,os:=s1.os }
   rw [g1,g2,g3,g4]
   exact this
  ·refine (kn b).mp ?_
   cases q:s1.heap.get? b with
   | none=>rfl
   | some o =>
    by_cases z:b=e
    ·rw [z,he'] at hb; cases hb
    ·by_cases zf:b∈frs (env :: outer)
     ·obtain ⟨sl,q2⟩:=k2 b o q zf
      rw [q2] at hb; cases hb
     ·rw [k1 b o q zf z] at hb; cases hb
  ·cases eT
   exact ⟨te,oT,ts,hoT,hdT,h3,h3v⟩
 cases tb with
 | none =>
  rw [if_neg (show ¬ ((none:Option Addr).elim Value.none Value.ref != Value.none)=true by decide +kernel)]
  exact fin s oe rfl rfl rfl rfl hF ho hc hdx hd (fun b o hb _ _ _=>hb) (fun b o hb _=>hb) (fun b=>.rfl) _ _
 | some T =>
  obtain ⟨nTe,oT,ts,hoT,hdT,h3,hn⟩:=hT T rfl
  rw [if_pos (show ((some T:Option Addr).elim Value.none Value.ref != Value.none)=true by rfl)]
  refine wpAny_bind (wpAny_field hoT hdT hn ?_)
  rw [if_neg (by rw [hFL]; exact Bool.false_ne_true)]
  refine wpAny_bind (wpAny_setField hoT hdT h3 ?_)
  have up:∀ b,T ≠ b→(s.heap.update T (Obj.mapFields fun x=>x.setIfInBounds 3 .none)).get? b=s.heap.get? b:=fun b z=>Heap.get?_update_other _ _ z
  have nf:∀ b o,s.heap.get? b=some o→(∀ vs,o.data ≠ .fields vs)→T ≠ b:=fun b o hb hn z=>by
   rw [← z,hoT] at hb
   cases hb
   exact hn ts hdT
  have sz:∀ b,(s.heap.update T (Obj.mapFields fun x=>x.setIfInBounds 3 .none)).get? b=none ↔ s.heap.get? b=none:=fun b=>by
   by_cases z:T=b
   ·rw [← z]
    obtain ⟨oc,od,odt,osl⟩:=oT
    obtain rfl:odt=.fields ts:=hdT
    rw [Heap.get?_update_self _ hoT rfl,hoT]
    exact ⟨(fun q=>by cases q),(fun q=>by cases q)⟩
   ·rw [up b z]
  exact fin { s with heap:=s.heap.update T (Obj.mapFields fun x=>x.setIfInBounds 3 .none) } oe rfl rfl rfl rfl (Heap.FunFrames.of_keeps (fun b o hb hn=>⟨o,(up b (nf b o hb hn)).trans hb,rfl⟩) hF) ((up e nTe).trans ho) hc hdx hd
   (fun b o hb _ _ nt=>(up b fun z=>nt (by rw [z])).trans hb) (fun b o hb hf=>by
    obtain ⟨o',ho',hn⟩:=kX hF hf
    rw [hb] at ho'
    cases ho'
    exact (up b (nf b o hb hn)).trans hb) sz _ _
theorem ua {T:Addr} {F:Value} (x:Option Addr) (hx:ve s.heap e cls dx (some T) F) (k:∀ h':Heap,(∀ b,T ≠ b→h'.get? b=s.heap.get? b)→(∀ b,h'.get? b=none ↔ s.heap.get? b=none)→ve h' e cls dx (some T) (x.elim .none fun f=>rawInt f)→Q () { s with heap:=h' }):wpAny M A (setFlight (.ref e) x) Q E s:=by
 obtain ⟨oe,vs,ho,hc,hdx,hd,h1,hv,hT⟩:=hx
 obtain ⟨nTe,oT,ts,hoT,hdT,h3,hn⟩:=hT T rfl
 unfold setFlight
 refine wpAny_bind (wpAny_field ho hd hv ?_)
 rw [if_pos (by rfl)]
 refine wpAny_setField hoT hdT h3 ?_
 obtain ⟨oc,od,odt,osl⟩:=oT
 obtain rfl:odt=.fields ts:=hdT
 have up:∀ b,T ≠ b→(s.heap.update T (Obj.mapFields fun y=>y.setIfInBounds 3 (x.elim .none fun f=>rawInt f))).get? b=s.heap.get? b:=fun b z=>Heap.get?_update_other _ _ z
 refine k _ up (fun b=>?_) ⟨oe,vs,(up e nTe).trans ho,hc,hdx,hd,h1,hv,fun T' eT=>?_⟩
 ·by_cases z:T=b
  ·rw [← z,Heap.get?_update_self _ hoT rfl,hoT]
   exact ⟨(fun q=>by cases q),(fun q=>by cases q)⟩
  ·rw [up b z]
 ·cases eT
  exact ⟨nTe,_,ts.setIfInBounds 3 (x.elim .none fun f=>rawInt f),Heap.get?_update_self _ hoT rfl,rfl,by rw [Array.size_setIfInBounds]; exact h3,by rw [Array.getElem?_setIfInBounds_self_of_lt h3]⟩
theorem qw {E₁ E₂:Value→Shared→Prop} {tb:Option Addr} (hfr:A.frames=some (env :: outer)) (hF:s.heap.FunFrames base (env :: outer)) (hL:env.frame=some L) (hx:XAt s.heap e cls dx tb)
  (k:∀ (h':Heap) (T:Addr),s.heap.get? T=none→(∀ b o,s.heap.get? b=some o→b ∉ frs (env :: outer)→b ≠ e→tb ≠ some b→h'.get? b=some o)→(∀ b o,s.heap.get? b=some o→b∈frs (env :: outer)→∃ sl,h'.get? b=some { o with slots:=sl }) →
   XAt h' e cls dx (some T)→Q () { s with heap:=h' }):wpAny M A (noteFrame (.ref e) env) (fun _ s₂=>wpAny M A (setFlight (.ref e) none) Q E₂ s₂) E₁ s:=by
 refine xQ hL hfr hF hL hx (Bool.eq_false_iff.mpr fun z=>by have:=beq_iff_eq.mp z; cases this) fun h' T tn k1 k2 _ x'=>?_
 refine ua none x' fun h2 up _ x2=>k h2 T tn (fun b o hb nf nb nt=>?_) (fun b o hb hf=>?_) x2
 ·have tb:T ≠ b:=fun z=>by rw [z,hb] at tn; cases tn
  exact (up b tb).trans (k1 b o hb nf nb nt)
 ·have tb:T ≠ b:=fun z=>by rw [z,hb] at tn; cases tn
  obtain ⟨sl,q⟩:=k2 b o hb hf
  exact ⟨sl,(up b tb).trans q⟩
theorem vS {tb:Option Addr} (hfr:A.frames=some (env :: outer)) (hF:s.heap.FunFrames base (env :: outer)) (hL:env.frame=some L) (hx:XAt s.heap e cls dx tb)
  (k:∀ (h':Heap) (T:Addr),s.heap.get? T=none→(∀ b o,s.heap.get? b=some o→b ∉ frs (env :: outer)→b ≠ e→tb ≠ some b→h'.get? b=some o)→(∀ b o,s.heap.get? b=some o→b∈frs (env :: outer)→∃ sl,h'.get? b=some { o with slots:=sl }) →
   XAt h' e cls dx (some T)→Q () { s with heap:=h' }):wpAny M A (leaving env (.ref e)) Q E s:=wpAny_bind (qw hfr hF hL hx k)
end
end L2
namespace L2
open PySem PySem.Spec PyProof.Rows
def CX1 (P:Program) (w:World):CXT:=fun outer H s E ev s'=>∃ e C dx H' tb,ev=.ref e∧E (.ref C) dx H'∧s'.os=s.os∧AllBare s'.gens∧Un (frs outer) [] H H' s.heap s'.heap∧HOk P w H' s'.heap ∧
 XAt s'.heap e (.ref C) dx (some tb)∧s.heap.get? e=none∧s.heap.get? tb=none∧H' e=none∧H' tb=none
theorem ko {P:Program} {w:World} {H:Hp} {h:Heap} {a:Addr} {o:HO} (x:dE P w H h a o):∃ ob,h.get? a=some ob:=by
 cases o with
 | lst xs=>obtain ⟨_,_,_,_,e⟩:=x; exact ⟨_,e⟩
 | tup xs=>obtain ⟨_,_,_,o,e,_⟩:=x; exact ⟨_,e⟩
 | dK kvs=>obtain ⟨_,_,_,_,o,_,_,e,_⟩:=x; exact ⟨_,e⟩
 | dT kvs=>obtain ⟨_,_,_,_,o,_,_,e,_⟩:=x; exact ⟨_,e⟩
 | set S n=>obtain ⟨o,_,_,_,e,_⟩:=x; exact ⟨_,e⟩
 | ins C dx fs=>obtain ⟨_,_,_,e,_⟩:=x; exact ⟨_,e⟩
 | own y=>exact x
 | xd fs=>obtain ⟨_,⟨_,_,_,e,_⟩,_⟩:=x; exact ⟨_,e⟩
 | rng lo hi=>obtain ⟨_,_,_,e⟩:=x; exact ⟨_,e⟩
 | frz ob u=>obtain ⟨e,_⟩:=x; exact ⟨_,e⟩
 | tbl ps=>exact ⟨_,x⟩
 | met f y=>exact ⟨_,x⟩
 | ext φ=>obtain ⟨_,e,_⟩:=x; exact e
theorem pi {P:Program} {w:World} {H:Hp} {h:Heap} {T:Addr} (hok:HOk P w H h) (tn:h.get? T=none):H T=none:=by
 cases z:H T with
 | none=>rfl
 | some o =>
  obtain ⟨ob,hob⟩:=ko (hok T o z)
  rw [hob] at tn
  cases tn
section
variable {P:Program} {w:World} {K:PySem.W.Frag} {mg:Str→Option Value} {base:Heap} {N:List Str} {qual:Str} {scope:Scope} {f:Addr} {cd:Value} {A:Around} {outer:List Env} {s0:Shared} {H0:Hp} {E:XK}
theorem o0 {fs ex:List Addr} {H H':Hp} {h h':Heap} (u:Un fs ex H H' h h') (hex:ex=[]) {b:Addr} (hb:h'.get? b=none):h.get? b=none:=by
 cases q:h.get? b with
 | none=>rfl
 | some o =>
  obtain ⟨o',e⟩:=u.there b o q (by rw [hex]; simp)
  rw [e] at hb
  cases hb
theorem tE {pins:List (Addr × Obj)} {σ:St} {H:Hp} {s:Shared} {e C T:Addr} {tb dx:Option Addr} {h':Heap} (I:Inv (gI (CX1 P w) P w K mg base N qual scope f cd A outer s0 H0 E) pins σ H s) (he:s0.heap.get? e=none) (old:∀ T,tb=some T→s0.heap.get? T=none∧H T=none) (hn:H e=none) (q:E (.ref C) dx H) (hT:s0.heap.get? T=none∧H T=none)
  (k1:∀ b o,s.heap.get? b=some o→b ∉ frs (envOfC qual scope s0.heap.objs.size f cd :: outer)→b ≠ e→tb ≠ some b→h'.get? b=some o) (k2:∀ b o,s.heap.get? b=some o→b∈frs (envOfC qual scope s0.heap.objs.size f cd :: outer)→∃ sl,h'.get? b=some { o with slots:=sl }) (x':XAt h' e (.ref C) dx (some T)) :
  CX1 P w outer H0 s0 E (.ref e) { s with heap:=h' }:=by
 have hfree:=I.stkFree
 have tracked:∀ b o,H b=some o→∀ u,s.heap.get? b=some u→h'.get? b=some u:=fun b o hb u hu=>k1 b u hu (fun z=>by rw [hfree b z] at hb; cases hb) (fun z=>by rw [z,hn] at hb; cases hb) (fun z=>by rw [(old b z).2] at hb; cases hb)
 have oldf:∀ b o,s0.heap.get? b=some o→b ∉ frs [envOfC qual scope s0.heap.objs.size f cd]:=fun b o hb z=>by
  have:b=s0.heap.objs.size:=by
   have hz:b∈[s0.heap.objs.size]:=z
   exact List.mem_singleton.mp hz
  rw [this] at hb
  exact absurd (Heap.lt_size hb) (Nat.lt_irrefl _)
 have fr:∀ b,b∈frs (envOfC qual scope s0.heap.objs.size f cd :: outer)→b∈frs [envOfC qual scope s0.heap.objs.size f cd]∨b∈frs outer:=fun b hb=>by
  have hb:b∈s0.heap.objs.size :: frs outer:=hb
  rcases List.mem_cons.mp hb with z | z
  ·exact .inl (by rw [z]; exact List.mem_cons_self)
  ·exact .inr z
 have base1:Un (frs outer) [] H0 H s0.heap s.heap:=I.base
 refine ⟨e,C,dx,H,T,rfl,q,I.os,I.bare,⟨fun b o hb h0 nf ne=>?_,fun b o hb h0 hf ne=>?_,base1.free,fun b o hb ne=>?_,base1.tups,base1.frzs,base1.tbls⟩,fun b o hb=>?_,x',he,hT.1,hn,hT.2⟩
 ·have hs:=base1.keep b o hb h0 nf ne
  refine k1 b o hs (fun z=>?_) (fun z=>by rw [z,he] at hb; cases hb) fun z=>by rw [(old b z).1] at hb; cases hb
  rcases fr b z with z | z
  ·exact oldf b o hb z
  ·exact nf z
 ·obtain ⟨sl,hs⟩:=base1.slot b o hb h0 hf ne
  have:b∈frs (envOfC qual scope s0.heap.objs.size f cd :: outer):=List.mem_cons_of_mem _ hf
  obtain ⟨sl',h2⟩:=k2 b _ hs this
  exact ⟨sl',h2⟩
 ·obtain ⟨o',hs⟩:=base1.there b o hb ne
  by_cases z:b∈frs (envOfC qual scope s0.heap.objs.size f cd :: outer)
  ·obtain ⟨sl,h2⟩:=k2 b o' hs z
   exact ⟨_,h2⟩
  ·exact ⟨o',k1 b o' hs z (fun z=>by rw [z,he] at hb; cases hb) fun z=>by rw [(old b z).1] at hb; cases hb⟩
 ·refine (I.hok b o hb).stay (fun b' u hb' hu=>?_) (fun _ q=>q) fun _ _ q=>q
  rcases hb' with z | z
  ·subst z; exact tracked b' o hb u hu
  ·exact tracked b' _ z u hu
theorem Ag {pins:List (Addr × Obj)} {σ:St} {H:Hp} {s:Shared} {e C:Addr} {tb dx:Option Addr} (I:Inv (gI (CX1 P w) P w K mg base N qual scope f cd A outer s0 H0 E) pins σ H s) (hx:XAt s.heap e (.ref C) dx tb) (he:s0.heap.get? e=none) (hT:∀ T,tb=some T→s0.heap.get? T=none∧H T=none) (hn:H e=none) (q:E (.ref C) dx H) :
  (gI (CX1 P w) P w K mg base N qual scope f cd A outer s0 H0 E).xe (.ref e) s :=
 vS (base:=base) (outer:=outer) I.ok.frames I.stack rfl hx fun h' T tn k1 k2 x'=>tE I he hT hn q ⟨o0 (show Un (frs outer) [] H0 H s0.heap s.heap from I.base) rfl tn,pi I.hok tn⟩ k1 k2 x'
end
end L2
namespace L2
open PySem PySem.Spec PyProof.Rows
section
variable {P:Program} {w:World} {K:PySem.W.Frag} {mg:Str→Option Value} {base:Heap} {N:List Str} {qual:Str} {scope:Scope} {f:Addr} {cd:Value} {A:Around} {outer:List Env} {s0:Shared} {H0:Hp} {E:XK}
end
end L2
namespace L3
open PySem PySem.Spec PyProof.Rows L2
abbrev rn:=List D→Mp→DK→(Addr→Mp→Prop)→Prop
def zT (K:PySem.W.Frag) (C:Addr) (dx:Option Addr):Prop:=∀ d,dx=some d→∃ f,PySem.W.findIn K (.ref C) "__init__"=some (some (.ref f))
def RTo (K:PySem.W.Frag) (R:Addr→Mp→Prop) (E:XK):Prop:=∀ C dx H M,HM K H M→zT K C dx→R C M→E (.ref C) dx H
def AD (K:PySem.W.Frag) (sp:rn):Sp:=fun vs H Q' E=>∃ ds M Q R,aT K H ds vs∧HM K H M∧sp ds M Q R∧Up K H Q' Q∧RTo K R E
abbrev zh (P:Program) (w:World) (K:PySem.W.Frag) (mg:Str→Option Value) (base:Heap) (k:Nat) (f:Addr) (fd:FuncData) (ps:List Str) (sp:rn):Prop:=iw P w K mg base (CX1 P w) k f fd ps (AD K sp)
section
variable {X:Cx} {x:Str} {p pos np cpos:Pos} {e:Expr} {es:List Expr} {t:T3A} {k:Nat} {f C:Addr} {fd:FuncData} {ps:List Str} {sp:rn} {R:Addr→Mp→Prop} {E:XK}
end
section
variable {P:Program} {w:World} {K:PySem.W.Frag} {mg:Str→Option Value} {base:Heap} {N:List Str} {qual:Str} {scope:Scope} {f:Addr} {cd:Value} {A:Around} {outer:List Env} {s0:Shared} {H0:Hp} {E:XK} {x:Str} {np cpos pos:Pos} {e:Expr} {C:Addr} {R:Addr→Mp→Prop} {ta:T3A}
theorem zZ {x qual:Str} {st:Stmt} {f:Addr} {fd:FuncData} {N ps:List Str} {k:Nat} {sp:rn} (F:Fun K x qual st f fd) (S:ax N ps (ah st)) (len:∀ ds M Q R,sp ds M Q R→ds.length=ps.length)
  (hbody:∀ (cdv:Value) (A:Around) (outer:List Env) (s:Shared) (H:Hp) (E:XK) (R:Addr→Mp→Prop),dG k (A.deeper (envOfC qual (ah st) s.heap.objs.size f cdv))→RTo K R E →
   ∃ t,Ss3 (gI (CX1 P w) P w K mg base N qual (ah st) f cdv A outer s H E) (al st) t∧∀ ds M Q,sp ds M Q R→t { nx:=fun _ M'=>∃ M'',Sub M'' M'∧Q .non M'',rt:=fun d M'=>∃ M'',Sub M'' M'∧Q d M'' } (jN N ds) M):zh P w K mg base (k + 1) f fd ps sp:=by
 obtain ⟨oc,od,kV,doc,pm,an,cdv,ct,osl,rfl,lk,hcd⟩:=F.ex
 refine um lk hcd S (fun vs H Q E h=>?_) fun A outer s H vs Q' E hr h=>?_
 ·obtain ⟨ds,M,Q,R,hd,_,hs,_⟩:=h
  rw [← hd.length]
  exact len ds M Q R hs
 ·obtain ⟨ds,M,Q,R,hd,hm,hs,k,hR⟩:=h
  obtain ⟨t,ht,hb⟩:=hbody cdv A outer s H E R hr hR
  exact ⟨_,ht,jN N ds,M,_,mz hd,hm,hb ds M Q hs,fun σ' H' δ' M' _ x2 x3 _ ⟨M'',y1,y2⟩=>k .non H' .non M'' .non (x2.sub y1) x3 y2,fun v H' d M' x1 x2 x3 ⟨M'',y1,y2⟩=>k v H' d M'' x1 (x2.sub y1) x3 y2,fun _ _ _ _ _ _ _ _ z=>z,fun _ _ _ _ _ _ _ _ z=>z⟩
end
end L3
namespace L2
open PySem PySem.Spec PyProof.Rows
def TKept (H H':Hp):Prop:=(∀ b xs,H b=some (.tup xs)→H' b=some (.tup xs))∧∀ b o u,H b=some (.frz o u)→H' b=some (.frz o u)
def XIn (X:Cx) (pins:List (Addr × Obj)) (σ:St) (J:Hp→Prop) (E:XK) (ev:Value) (s':Shared):Prop:=∃ H s,J H∧Inv X pins σ H s∧CX1 X.prog X.w X.stack H s E ev s'
def zC (X:Cx) (pins:List (Addr × Obj)) (σ:St) (J:Hp→Prop) (E:XK) (ev:Value) (s':Shared):Prop:=∃ a C dx H' tb H1 s1,ev=.ref a∧E (.ref C) dx H'∧Inv X pins σ H' s'∧XAt s'.heap a (.ref C) dx (some tb)∧H' a=none∧H' tb=none∧J H1∧TKept H1 H'∧Inv X pins σ H1 s1∧s1.heap.get? a=none
theorem yH {X:Cx} {M:Model} {E₁ E₂:Value→Shared→Prop} {pins:List (Addr × Obj)} {σ:St} {J:Hp→Prop} {E:XK} {ev:Value} {s':Shared} {outer:List Env} {L:Addr} (h:XIn X pins σ J E ev s') (hst:X.stack=X.env :: outer) (hL:X.env.frame=some L) :
  wpAny M X.A (noteFrame ev X.env) (fun _ s₂=>wpAny M X.A (setFlight ev none) (fun _ s₃=>zC X pins σ J E ev s₃) E₂ s₂) E₁ s':=by
 obtain ⟨H,s,jH,I,e,C,dx,H',tb,rfl,q,os,bare,un,hok,x,he,ht,ne,nt⟩:=h
 obtain ⟨hh,g,d,t,os'⟩:=s'
 obtain rfl:os'=s.os:=os
 have I':=I.call (h':=hh) (g':=g) (d':=d) (t':=t) (ch:=[]) un hok bare (fun b z=>absurd z (by simp))
 have hF:=I'.stack
 have hfree:=I'.stkFree
 have hfr:=I.ok.frames
 rw [hst] at hF hfr
 refine qw (base:=X.base) (outer:=outer) hfr hF hL x fun h' T tn k1 k2 x'=>?_
 have tracked:∀ b o,H' b=some o→∀ u,hh.get? b=some u→h'.get? b=some u:=fun b o hb u hu=>k1 b u hu (fun z=>by rw [hfree b (by rw [hst]; exact z)] at hb; cases hb) (fun z=>by rw [z,ne] at hb; cases hb) (fun z=>by cases z; rw [nt] at hb; cases hb)
 have un':Un (frs X.stack) [] H H' s.heap h':=by
  refine ⟨fun b o hb h0 nf nx=>?_,fun b o hb h0 hf nx=>?_,un.free,fun b o hb nx=>?_,un.tups,un.frzs,un.tbls⟩
  ·exact k1 b o (un.keep b o hb h0 nf nx) (fun z=>nf (by rw [hst]; exact z)) (fun z=>by rw [z,he] at hb; cases hb) fun z=>by cases z; rw [ht] at hb; cases hb
  ·obtain ⟨sl,hs⟩:=un.slot b o hb h0 hf nx
   obtain ⟨sl',h2⟩:=k2 b _ hs (by rw [← hst]; exact hf)
   exact ⟨sl',h2⟩
  ·obtain ⟨o',hs⟩:=un.there b o hb nx
   by_cases z:b∈frs (X.env :: outer)
   ·obtain ⟨sl,h2⟩:=k2 b o' hs z
    exact ⟨_,h2⟩
   ·exact ⟨o',k1 b o' hs z (fun z=>by rw [z,he] at hb; cases hb) fun z=>by cases z; rw [ht] at hb; cases hb⟩
 have hok':HOk X.prog X.w H' h':=fun b o hb=>(hok b o hb).stay (fun b' u hb' hu=>by
  rcases hb' with z | z
  ·subst z; exact tracked b' o hb u hu
  ·exact tracked b' _ z u hu) (fun _ q=>q) fun _ _ q=>q
 have I3:Inv X pins σ H' { heap:=h',gens:=g,drawn:=d,toks:=t,os:=s.os }:=Inv.call (s:=s) (ch:=[]) I un' hok' bare (fun b z=>absurd z (by simp))
 refine ⟨e,C,dx,H',T,H,s,rfl,q,I3,x',ne,?_,jH,⟨un.tups,un.frzs⟩,I,he⟩
 cases z:H' T with
 | none=>rfl
 | some o =>
  obtain ⟨ob,hob⟩:=ko (hok T o z)
  have tn:hh.get? T=none:=tn
  rw [hob] at tn
  cases tn
end L2
namespace L2
open PySem PySem.Spec PyProof.Rows
section
variable {X:Cx} {pins:List (Addr × Obj)} {σ σ':St} {H H1:Hp} {s s1:Shared} {ev:Value} {E':Value→Shared→Prop} {a:Addr}
theorem Inv.adopt {o:HO} (I:Inv X pins σ H s) (I1:Inv X pins σ' H1 s1) (n1:s1.heap.get? a=none) (hn:H a=none) (ok:dE X.prog X.w (upd H a o) s.heap a o):Inv X pins σ (upd H a o) s:=by
 have ne:∀ b ob,s1.heap.get? b=some ob→b ≠ a:=fun b ob e z=>by rw [z,n1] at e; cases e
 have nh:∀ b ob,H b=some ob→b ≠ a:=fun b ob e z=>by rw [z,hn] at e; cases e
 refine ⟨I.ok,I.os,I.bare,⟨I.base.keep,I.base.slot,fun b o' e h0 hb=>?_,I.base.there,fun b xs e=>?_,fun b o' u e=>?_,fun b ps e=>?_⟩,I.loc,I.cell,?_,fun x c e=>?_,fun p hp=>?_,fun b ob e=>?_,I.len⟩
 ·obtain ⟨o2,e2⟩:=I1.base.there b o' e hb
  rw [aN (ne b o2 e2)]
  exact I.base.free b o' e h0 hb
 ·have:=I.base.tups b xs e
  rw [aN (nh b _ this)]; exact this
 ·have:=I.base.frzs b o' u e
  rw [aN (nh b _ this)]; exact this
 ·obtain ⟨more,this⟩:=I.base.tbls b ps e
  exact ⟨more,by rw [aN (nh b _ this)]; exact this⟩
 ·obtain ⟨m,⟨o2,_,_,e2,_⟩,_⟩:=I1.loc
  rw [aN (ne _ o2 e2)]; exact I.free
 ·obtain ⟨v,o2,e2,_⟩:=I1.cell x c e
  rw [aN (ne _ o2 e2)]; exact I.freeC x c e
 ·obtain ⟨e1,e2,e3,e4,e5⟩:=I.pin p hp
  exact ⟨e1,by rw [aN (ne _ _ (I1.pin p hp).1)]; exact e2,e3,e4,e5⟩
 ·by_cases z:b=a
  ·subst z
   rw [aU] at e
   cases e
   exact ok
  ·rw [aN z] at e
   exact (I.hok b ob e).stay (fun _ _ _ q=>q) (fun b' q=>by rw [aN (nh b' _ q)]; exact q) fun b' xs q=>by rw [aN (nh b' _ q)]; exact q
theorem Inv.locs {h':Heap} {m':Str→Option Value} (I:Inv X pins σ H s) (hn:h'.Ns X.env.locals m') (hs:Heap.SameBut X.env.locals s.heap h') (hl:σ'.length=X.N.length)
  (hm:∀ m,s.heap.Ns X.env.locals m→(∀ (i:Nat) (x:Str) (v:V),X.N[i]?=some x→σ[i]?=some (some v)→Vis X.env.scope x→∃ u,bD v u∧zK X.env s.heap m x u)→∀ (i:Nat) (x:Str) (v:V),X.N[i]?=some x→σ'[i]?=some (some v)→Vis X.env.scope x→∃ u,bD v u∧((X.env.kindOf x=some .local∧m' x=some u)∨((X.env.kindOf x=some .cell∨X.env.kindOf x=some .free)∧∃ c,X.env.cells.lookup x=some c∧s.heap.IsCell c (some u)))):Inv X pins σ' H { s with heap:=h' }:=by
 obtain ⟨m,hn0,hl0⟩:=id I.loc
 obtain ⟨oL,_,_,hoL,_⟩:=id hn0
 have cne:=I.cne
 refine ⟨I.ok,I.os,I.bare,⟨fun b o e n hb hx=>?_,fun b o e n hb hx=>?_,I.base.free,fun b o e hx=>?_,I.base.tups,I.base.frzs,I.base.tbls⟩,⟨_,hn,fun j y v' e1 e2 e3=>?_⟩,fun y c e=>?_,I.free,I.freeC,fun p hp=>?_,fun b ob e=>?_,hl⟩
 ·exact (hs.2 b (Nat.ne_of_lt (Nat.lt_of_lt_of_le (Heap.lt_size e) I.ok.above))).trans (I.base.keep b o e n hb hx)
 ·obtain ⟨sl,e1⟩:=I.base.slot b o e n hb hx
  exact ⟨sl,(hs.2 b (Nat.ne_of_lt (Nat.lt_of_lt_of_le (Heap.lt_size e) I.ok.above))).trans e1⟩
 ·obtain ⟨o',e1⟩:=I.base.there b o e hx
  exact ⟨o',(hs.2 b (Nat.ne_of_lt (Nat.lt_of_lt_of_le (Heap.lt_size e) I.ok.above))).trans e1⟩
 ·obtain ⟨u,r,q⟩:=hm m hn0 hl0 j y v' e1 e2 e3
  refine ⟨u,r,?_⟩
  rcases q with q | ⟨k,c,e,z⟩
  ·exact .inl q
  ·exact .inr ⟨k,c,e,z.sameBut hs (cne y c e)⟩
 ·obtain ⟨w',z⟩:=I.cell y c e
  exact ⟨w',z.sameBut hs (cne y c e)⟩
 ·obtain ⟨e,n,ne,nf,d⟩:=I.pin p hp
  exact ⟨(hs.2 p.1 ne).trans e,n,ne,nf,d⟩
 ·refine (I.hok b ob e).stay (fun c w' hc q=>(hs.2 c ?_).trans q) (fun _ q=>q) fun _ _ q=>q
  rintro rfl
  rcases hc with hc | hc
  ·rw [← hc,I.free] at e; cases e
  ·rw [I.free] at hc; cases hc
end
end L2
namespace L2
open PySem PySem.Spec PyProof.Rows
def Cx.marked (X:Cx) (ev:Value) (E:Value→Shared→Prop):Cx:={ X with A:=X.A.mark (some ev),calm:=false,xe:=E }
section
variable {X:Cx} {pins:List (Addr × Obj)} {σ:St} {H:Hp} {s:Shared} {ev:Value} {E':Value→Shared→Prop}
theorem Inv.mark (I:Inv X pins σ H s):Inv (X.marked ev E') pins σ H s :=
 ⟨⟨I.ok.mod,I.ok.kind,I.ok.glob,I.ok.blt,I.ok.above,I.ok.inj,I.ok.has,I.ok.cab,(fun z=>by cases z),I.ok.frames,I.ok.stk,I.ok.exf,I.ok.bs,I.ok.bsz,I.ok.noex,I.ok.exfs,I.ok.funs,I.ok.frf⟩,I.os,I.bare,I.base,I.loc,I.cell,I.free,I.freeC,I.pin,I.hok,I.len⟩
theorem Inv.unmark (ok:X.Ok) (I:Inv (X.marked ev E') pins σ H s):Inv X pins σ H s:=⟨ok,I.os,I.bare,I.base,I.loc,I.cell,I.free,I.freeC,I.pin,I.hok,I.len⟩
theorem SP.unmark (ok:X.Ok) {D:nk} {f:Flow} (h:SP (X.marked ev E') pins D f s):SP X pins D f s:=by
 cases f with
 | next=>obtain ⟨a,b,I,q⟩:=h; exact ⟨a,b,I.unmark ok,q⟩
 | brk=>obtain ⟨a,b,I,q⟩:=h; exact ⟨a,b,I.unmark ok,q⟩
 | cont=>obtain ⟨a,b,I,q⟩:=h; exact ⟨a,b,I.unmark ok,q⟩
 | ret v=>obtain ⟨a,b,c,I,q⟩:=h; exact ⟨a,b,c,I.unmark ok,q⟩
theorem pD {M:Model} {h:Heap} {a:Addr} {o:Obj} (ho:h.get? a=some o):PySem.W.Looks M h (typeOf (.ref a)) o.cls:=by
 intro A Q E s k q
 unfold typeOf
 exact wpAny_bind (wpAny_load (k a o ho) (wpAny_pure q))
theorem og {M:Model} {A:Around} {E:Value→Shared→Prop} {a C T:Addr} {Q:Unit→Shared→Prop} {dx:Option Addr} (x:XAt s.heap a (.ref C) dx (some T)) (h:∀ h':Heap,(∀ b,h'.get? b=s.heap.get? b)→Q () { s with heap:=h' }):wpAny M A (setFlight (.ref a) none) Q E s:=by
 obtain ⟨oe,vs,ho,hc,_,hd,h1,hv,hT⟩:=x
 obtain ⟨nTe,oT,ts,hoT,hdT,h3,hn⟩:=hT T rfl
 unfold setFlight
 refine wpAny_bind (wpAny_field ho hd hv ?_)
 rw [if_pos (by rfl)]
 refine wpAny_setField hoT hdT h3 (h _ fun b=>?_)
 by_cases z:T=b
 ·subst z
  obtain ⟨oc,od,odt,osl⟩:=oT
  obtain rfl:odt=.fields ts:=hdT
  rw [Heap.get?_update_self _ hoT rfl,hoT]
  show some (Obj.mk oc od (.fields (ts.setIfInBounds 3 .none)) osl)=_
  have:ts.setIfInBounds 3 .none=ts:=by
   apply Array.ext
   ·simp
   ·intro i h1 h2
    rw [Array.getElem_setIfInBounds]
    split
    ·rename_i e
     subst e
     rw [Array.getElem?_eq_getElem h3] at hn
     exact (Option.some.inj hn).symm
    ·rfl
  rw [this]
 ·exact Heap.get?_update_other _ _ z
end
def PEX (X:Cx) (e:Expr) (t:St→Hp→VK→(Hp→Prop)→XK→Prop):Prop:=∀ (pins:List (Addr × Obj)) (s:Shared) (σ:St) (H:Hp) (Q:VK) (J:Hp→Prop) (E:XK),Inv X pins σ H s→t σ H Q J E→wpAny (model X.prog X.w) X.A (eval e X.env) (EP X pins σ Q) (XIn X pins σ J E) s
def PSX (X:Cx) (st:Stmt) (t:nk→St→Hp→(Hp→Prop)→XK→Prop):Prop:=∀ (pins:List (Addr × Obj)) (s:Shared) (σ:St) (H:Hp) (D:nk) (J:Hp→Prop) (E:XK),Inv X pins σ H s→t D σ H J E→wpAny (model X.prog X.w) X.A (exec st X.env) (SP X pins D) (XIn X pins σ J E) s
section
variable {X:Cx} {k:Nat} {f C:Addr} {fd:FuncData} {ps:List Str} {sp:Sp} {dvs:List V} {ds:List Value} {x m:Str} {p pos apos:Pos} {e o:Expr} {es:List Expr} {t:TA}
theorem sV (F:iw X.prog X.w X.K X.mg X.base (CX1 X.prog X.w) k f fd ps sp) (hr:dG k X.A) (hg:Gl X x) (hm:X.mg x=some (.ref f)) (hk:PySem.W.keepIn X.K (.ref f)=true) (hb:aJ X.K fd ps ds) (hd:bi dvs ds)
  (ha:PA (X.xeTo fun _ _=>False) (e :: es) t) (hdb:(x == ("__debug__":Str))=false:=by decide) (he:starEach (e :: es) X.env=(false,eval e X.env) :: starEach es X.env:=by rfl) (hpl:(backTo pos (starEach es X.env)).any (·.1)=false:=by rfl) :
  PEX X (.Call (.Name x p) (e :: es) [] pos) (fun σ H Q J E=>t σ H fun vs H1=>J H1∧sp (vs ++ dvs) H1 Q E):=by
 intro pins s σ H Q J E I h
 refine wpAny_Call_Name_kw (ij I hg hm ?_ hdb)
 refine PySem.W.callWith_K (h₀:=X.base) I.ok.mod.kin hk (wpAny_mono (ha pos pins s σ H _ I.xeTo h) (fun us s1 ⟨vs,H1,I1,r,jH,q⟩=>⟨I1.kIn,?_⟩) fun _ _ z=>z.elim) he hpl
 have I1:=I1.xeOf
 have r2:bi (vs ++ dvs) (us ++ ds):=r.append hd
 have hl:(us ++ ds).length=ps.length:=by rw [← r2.length]; exact F.len _ _ _ _ q
 refine wpAny_call (codeAny_mono (F.run X.A X.stack s1 H1 ⟨us,[]⟩ (us ++ ds) (vs ++ dvs) Q E hr I1.env0 (hb s1 us I1.kIn hl) r2 q) fun r s' hq=>?_)
 cases r with
 | error e=>exact ⟨H1,s1,jH,I1,hq⟩
 | ok fl =>
  cases fl with
  | ret u=>exact I1.after hq
  | next=>exact False.elim hq
  | brk=>exact False.elim hq
  | cont=>exact False.elim hq
end
theorem wE {X:Cx} {st b₀:Stmt} {suite:List Stmt} {cn:Str} {cnp hpos pos:Pos} {Cc L:Addr} {outer:List Env} {t:nk→St→Hp→(Hp→Prop)→XK→Prop} {th:TS} (hb:PSX X st t) (hst:X.stack=X.env :: outer) (hL:X.env.frame=some L) (hg:Gl X cn) (hm:X.mg cn=some (.ref Cc)) (hs:∀ ev E',PSs (X.marked ev E') (b₀ :: suite) th)
  (hdb:(cn == ("__debug__":Str))=false:=by decide) :
  PS X (.Try [st] [.ExceptHandler (some (.Name cn cnp)) none (b₀ :: suite) hpos] [] [] pos) (fun D σ H=>∃ (J:Hp→Prop) (E:XK),t D σ H J E∧∀ C dx H1 H',J H1→TKept H1 H'→E (.ref C) dx H'→PySem.W.exmOne X.K (.ref C) (.ref Cc)=some true∧th D σ H'):=by
 intro pins s σ H D I ⟨J,E,h,hh⟩
 refine wpAny_Try_except (wpAny_mono (Q:=fun f s'=>SP X pins D f s') (wpAny_execs_cons (thn (hb pins s σ H D J E I h) fun f s1 q=>?_)) (fun f s1 q=>?_) fun ev s1 x=>?_)
 ·cases f with
  | next=>exact wpAny_execs_nil q
  | brk=>exact q
  | cont=>exact q
  | ret v=>exact q
 ·cases f with
  | next=>exact wpAny_execs_nil q
  | brk=>exact q
  | cont=>exact q
  | ret v=>exact q
 ·refine wpAny_mono (yH x hst hL) (fun _ s2 y=>thn y fun _ s3 z=>?_) fun _ _ z=>z
  obtain ⟨a,C,dx,H',tb,H1,s1,rfl,q,I3,x3,na,nt,jH,tk,I1,n1⟩:=z
  obtain ⟨hm1,h1⟩:=hh C dx H1 H' jH tk q
  refine wpAny_handleBy_cons (codeAny_handlers_test (ij (X:=X.marked (.ref a) fun _ _=>False) I3.mark hg hm ?_ hdb)) (by intro z; cases z)
  obtain ⟨oe,vs,ho,hc,_⟩:=id x3
  refine PySem.W.exm_one I3.kIn (pD ho) (by rw [hc]; exact hm1) _ _ _ _ (fun _ _ z=>z) ?_
  refine codeAny_handlers_suite (og x3 fun h' hh'=>?_)
  have I4:Inv X pins σ H' { s3 with heap:=h' }:=I3.kept (t':=s3.toks) fun b u z=>by rw [hh' b]; exact z
  refine wpAny_mono (hs (.ref a) _ pins _ σ H' D I4.mark h1) (fun f s5 q5=>SP.unmark I.ok q5) fun _ _ z=>z
end L2
namespace L2
open PySem PySem.Spec PyProof.Rows
structure Bq (K:PySem.W.Frag) (C:Addr):Prop where
 hd:(PySem.W.clsIn K C).isSome=true
 ga:PySem.W.findIn K (.ref C) "__getattribute__"=some (some (.builtin "BaseException.__getattribute__"))
 gt:PySem.W.findIn K (.ref C) "__getattr__"=some none
 ha:PySem.W.findIn K (.ref C) "__class__"=some (some (.builtin "object.__class__"))
 hn:PySem.W.specialIn K (.builtin "object.__class__") "__get__"=some (some (.builtin "getset_descriptor.__get__"))
 htk:PySem.W.takesIn K (.builtin "object.__class__")=some true
 hm:PySem.W.mroIn K C (.type "object")=some true
 hb:PySem.W.mroIn K C (.type "BaseException")=some true
section
variable {prog:Program} {w:World} {A:Around} {E:Value→Shared→Prop} {s:Shared} {K:PySem.W.Frag} {x C:Addr} {ox:Obj}
end
end L2
namespace L3
open PySem PySem.Spec PyProof.Rows L2
theorem _root_.L2.TKept.ext {K:PySem.W.Frag} {H H':Hp} (h:TKept H H'):bH K H H':=⟨fun a xs q=>by
 rcases q with (q | ⟨u,q⟩) | q
 ·exact .inl (.inl (h.1 a xs q))
 ·exact .inl (.inr ⟨u,h.2 a u _ q⟩)
 ·exact .inr q,fun a o xs q=>h.2 a o _ q⟩
abbrev T3X:=DSt→Mp→DK→(Addr→Mp→Prop)→Prop
def loX (K:PySem.W.Frag) (t:T3X):St→Hp→VK→(Hp→Prop)→XK→Prop:=fun σ H Q' J E=>∃ δ M Q R,St3 K H σ δ∧HM K H M∧t δ M Q R∧(∀ v H' d M',Has K H' d v→HM K H' M'→bH K H H'→Q d M'→Q' v H')∧(∀ H1,bH K H H1→J H1)∧RTo K R E
def E3X (X:Cx) (e:Expr) (t:T3X):Prop:=PEX X e (loX X.K t)
theorem PEX.mono {X:Cx} {e:Expr} {t t':St→Hp→VK→(Hp→Prop)→XK→Prop} (h:PEX X e t) (m:∀ σ H Q J E,t' σ H Q J E→t σ H Q J E):PEX X e t':=fun pins s σ H Q J E I q=>h pins s σ H Q J E I (m σ H Q J E q)
section
variable {X:Cx} {x:Str} {p pos np cpos:Pos} {e:Expr} {es:List Expr} {t:T3A} {k:Nat} {f C:Addr} {fd:FuncData} {ps:List Str} {sp:rn}
theorem tN (F:zh X.prog X.w X.K X.mg X.base k f fd ps sp) (hr:dG k X.A) (hg:Gl X x) (hm:X.mg x=some (.ref f)) (hk:PySem.W.keepIn X.K (.ref f)=true) (hb:aJ X.K fd ps []) (ha:A3 (X.xeTo fun _ _=>False) (e :: es) t)
  (hdb:(x == ("__debug__":Str))=false:=by decide) (he:starEach (e :: es) X.env=(false,eval e X.env) :: starEach es X.env:=by rfl) (hpl:(backTo pos (starEach es X.env)).any (·.1)=false:=by rfl) :
  E3X X (.Call (.Name x p) (e :: es) [] pos) (fun δ M Q R=>t δ M fun ds M1=>sp ds M1 Q R):=PEX.mono (sV F hr hg hm hk hb .nil ha hdb he hpl) fun σ H Q' J E ⟨δ,M,Q,R,hs,hm,ht,k,kJ,kR⟩ =>
 ⟨δ,M,_,hs,hm,ht,fun vs H1 ds M1 hd hm1 e1 q1=>⟨kJ H1 e1,ds,M1,Q,R,by rw [List.append_nil]; exact hd,hm1,q1,gh e1 k,kR⟩⟩
end
section
variable {X:Cx} {b₀:Stmt} {suite:List Stmt} {cn n x:Str} {e:Expr} {cnp hpos pos apos xpos:Pos} {Cc L:Addr} {outer:List Env} {i ix:Nat} {te:T3X} {th:T3S}
end
end L3
namespace L2
open PySem PySem.Spec PyProof.Rows
def ig (es:Array DictEntry):Bool:=es.toList.all fun e=>match e.key with | .str _ _=>true | _=>false
theorem lx {es:Array DictEntry} (h:ig es=true):StrKeys es:=fun e he=>by
 have:=List.all_eq_true.mp h e (Array.mem_toList_iff.mpr he)
 cases z:e.key with
 | str n t=>exact ⟨n,t,rfl⟩
 | _=>rw [z] at this; cases this
abbrev bmV:List Value:=[.type "ValueError",.type "Exception",.type "BaseException",.type "object"]
theorem wg {K:PySem.W.Frag} {t:Value} {C:Addr} {cd:ClassData} {b:Bool} (q0:PySem.W.subIn K (.ref C) (.type "BaseException")=some true) (q1:PySem.W.clsIn K C=some cd) (q2:PySem.W.typeIn K (.ref C)=some (.type "type")) (s:PySem.W.subIn K t (.ref C)=some b):PySem.W.exmOne K t (.ref C)=some b:=by
 unfold PySem.W.exmOne
 rw [q0,if_pos (by rfl)]
 unfold PySem.W.kitCls
 simp only
 rw [q1,q2,if_pos (by rfl)]
 exact s
end L2
namespace L3
open PySem PySem.Spec PyProof.Rows L2
end L3
namespace L2
open PySem PySem.Spec PyProof.Rows
theorem lF (self:Value):∀ own:List Addr,refuseLoop self "__setattr__" (own.map Value.ref ++ bmV)=pure ()
 | []=>PySem.F.store_ValueError.passes self
 | c :: r=>by
  show refuseLoop self "__setattr__" (.ref c :: (r.map Value.ref ++ bmV))=pure ()
  rw [refuseLoop_ref]
  exact lF self r
section
variable {prog:Program} {w:World} {A:Around} {E:Value→Shared→Prop} {s:Shared} {K:PySem.W.Frag} {x C:Addr} {ox:Obj} {cd:ClassData} {own:List Addr} {name:Str} {v:Value}
theorem vL {Q:Unit→Shared→Prop} (X:K.In s.heap) (I:PySem.W.InstAt s.heap x ox C none) (hs:PySem.W.findIn K (.ref C) "__setattr__"=some (some (.builtin "object.__setattr__"))) (hc:PySem.W.clsIn K C=some cd) (hm:cd.mro=own.map Value.ref ++ bmV) (ht:PySem.W.takerIn K C name=some none) (hd:cd.hasDict=true)
  (h:∀ h' d t,(∀ b o,b ≠ x→s.heap.get? b=some o→h'.get? b=some o)→h'.get? x=some { ox with dict:=some d }→Q () { s with heap:=h',toks:=t }):wpAny (model prog w) A (setAttr (.ref x) name v) Q E s:=by
 refine PySem.W.set_plain X I hs ?_
 have SF:=PySem.F.store_ValueError
 have ne:cd.mro.isEmpty=false:=by
  rw [hm]
  cases own <;> rfl
 have has:cd.mro.contains (.type "object")=true:=by
  rw [hm,List.contains_eq_any_beq,List.any_append]
  have:bmV.any (Value.type "object" == ·)=true:=by decide +kernel
  rw [this,Bool.or_true]
 have sub:PySem.W.Looks (model prog w) s.heap (isInstance (.ref x) (.type "object")) true:=I.type.andThen (PySem.W.looks_mroIn X (by unfold PySem.W.mroIn; rw [hc,Option.bind_some,if_neg (by rw [ne]; decide),has]))
 refine codeAny_call_builtin SF.slot.plain SF.entry (@PySem.W.check_slot (model prog w) _ _ { s with toks:=s.toks + 1 } "object.__setattr__" "object" "__setattr__" (.ref x) [.str name s.toks,v] [] _ SF.kind SF.split sub (SF.args (.ref x) (.str name s.toks) v) ?_)
 obtain ⟨attr,ha,hr⟩:=Option.bind_eq_some_iff.mp ht
 have hmro:PySem.W.Looks (model prog w) s.heap (mroOf (.ref C)) cd.mro:=(PySem.W.looks_clsIn X hc).andThen .now
 have L3':PySem.W.Looks (model prog w) s.heap (Builtin.ObjectAttr.storeTaker? attr) none:=by
  cases attr with
  | none=>exact .now
  | some a =>
   obtain ⟨b,hb,hr⟩:=Option.map_eq_some_iff.mp hr
   refine (PySem.W.looks_takesIn X hb).andThen ?_
   cases b
   ·exact .now
   ·cases hr
 rw [PySem.W.osa_eq,refuse_eq]
 refine wpAny_bind (wpAny_bind (I.type.here (s:={ s with toks:=s.toks + 1 }) (wpAny_bind (hmro.here (s:={ s with toks:=s.toks + 1 }) ?_))))
 rw [hm,lF]
 refine wpAny_pure (wpAny_bind (I.type.here (s:={ s with toks:=s.toks + 1 }) (wpAny_bind ((PySem.W.looks_findIn X ha).here (s:={ s with toks:=s.toks + 1 }) (wpAny_bind (L3'.here (s:={ s with toks:=s.toks + 1 }) ?_))))))
 obtain ⟨hx,hcl,hn,hdx⟩:=I
 obtain ⟨oc,odi,oda,osl⟩:=ox
 dsimp only at hcl hdx
 subst hcl
 cases odi with
 | some _=>exact hdx.elim
 | none =>
  refine wpAny_bind (wpAny_pure (wpAny_bind (wpAny_bind (wpAny_loadPart hx (wpAny_bind (PySem.W.Looks.here (s:={ s with toks:=s.toks + 1 }) (PySem.W.looks_clsIn X hc) ?_))))))
  rw [hd]
  rw [if_neg (by decide)]
  obtain ⟨hh,g,dr,tk,os⟩:=s
  dsimp only at hx h ⊢
  rw [if_neg (by simp [typeHasDict])]
  split
  ·cases hn
  ·have y1:(hh.push PySem.W.emptyDict).get? x=some ⟨.ref C,none,oda,osl⟩:=Heap.get?_push_of_some _ hx
   have nx:x ≠ hh.objs.size:=fun z=>Nat.lt_irrefl _ (z ▸ Heap.lt_size hx)
   refine wpAny_bind (wpAny_alloc' (wpAny_bind (wpAny_update' y1 (wpAny_pure ?_))))
   have e0:((hh.push PySem.W.emptyDict).update x fun o=>{ o with dict:=some hh.objs.size }).Ns hh.objs.size (fun _=>none):=⟨PySem.W.emptyDict,#[],_,(Heap.get?_update_ne _ _ _ _ nx.symm).trans (Heap.get?_push_size hh rfl),rfl,fun e he=>absurd he (by simp),fun _=>rfl⟩
   refine wpAny_bind (wpAny_pure (wpAny_bind (wpAny_nsSet1 (Heap.Ns1.of_empty e0) fun h' n1 sb=>?_)))
   obtain ⟨oD,esD,epD,g1,g2,g3⟩:=n1.count (Within.cons name v Within.nil)
   refine wpAny_bind (wpAny_lookBehind g1 (g2 ▸ pastItsLine_dict (Nat.le_trans g3 (by rw [sizeLine_eq,List.length_singleton]; decide))) (wpAny_pure (h h' hh.objs.size _ (fun b o hb z=>?_) ?_)))
   ·exact (sb.2 b fun y=>Nat.lt_irrefl _ (y ▸ Heap.lt_size z)).trans ((Heap.get?_update_ne _ _ _ _ hb).trans (Heap.get?_push_of_some _ z))
   ·refine (sb.2 x nx).trans (Heap.get?_update_self _ y1 ?_)
    have fr:=(Heap.get?_some_iff.mp hx).2
    cases oda with
    | _=>first | rfl | exact fr
end
end L2
namespace L2
open PySem PySem.Spec PyProof.Rows
section
variable {prog:Program} {w:World} {A:Around} {E:Value→Shared→Prop} {h:Heap} {g:Array GenState} {d:Drawn} {t:Nat} {os:OsState}
variable {nm q:Str} {C N:Addr} {bs bm bmB:List Value} {hdct:Bool} {sn:List Str} {sub:List Value} {ab:Bool} {col:Option Bool} {dd:Option Addr} {k0 k1 k2 k3 k5:Option Value} {B Bn newId nid initId inN:String} {bmN:List Value}
abbrev vD (C t:Addr):Obj:={ cls:=.ref C,data:=.fields #[.ref t,.none,.none,.none,.bool false,.none] }
theorem jZ (Fn:ExcBaseFacts Bn newId inN bmN) (hBn:bmB.contains (.type Bn)=true) (F:ExcBaseFacts B nid initId bmB) (T:OwnTail h bmB bm) {mN:Str→Option Value} {us:List Value} {fI:Addr} {oI:Obj} {Q:PySem.Fin→Shared→Prop}
  (hC:h.get? C=some (excClassObj nm q C N bs bm hdct sn sub ab col dd k0 k1 k2 k3 k5 newId)) (hn:h.Ns N mN) (hi:mN "__init__"=some (.ref fI)) (hf:h.get? fI=some oI) (hfc:oI.cls=.type "function") (hlen:us.length≤sizeLine)
  (hq:∀ h' e,Heap.MadeExcOf h h' e (.ref C) us→wpAny (model prog w) A (call (.ref fI) (.ref e :: us)) (fun r s'=>r=.none∧Q (.done (.ret (.ref e))) s') E ⟨h',g,d,t,os⟩) :
  wpAny (model prog w) A (Builtin.«type.__call__» ⟨.ref C :: us,[]⟩) Q E ⟨h,g,d,t,os⟩:=by
 repeat (first | with_reducible refine wpAny_loadPart_at hC ?_ | with_reducible refine wpAny_madeBy_exc hC ?_ | wp_step)
 refine codeAny_call_builtin_code (Code.quiet_builtin _ Fn.quiet) (wpAny_check_new_subU Fn hBn T hC (codeAny_exc_new_subU Fn hBn F T hC ?_ hlen))
 have kp:∀ b o,h.get? b=some o→((h.push { cls:=.type "tuple",data:=.seq us.toArray }).push (vD C h.objs.size)).get? b=some o:=fun b o z=>Heap.get?_push_of_some _ (Heap.get?_push_of_some _ z)
 have gE:((h.push { cls:=.type "tuple",data:=.seq us.toArray }).push (vD C h.objs.size)).get? (h.objs.size + 1)=some (vD C h.objs.size):=by heap_get
 have hC2:=kp _ _ hC
 have hn2:((h.push { cls:=.type "tuple",data:=.seq us.toArray }).push (vD C h.objs.size)).Ns N mN:=let ⟨o,es,ep,e,r⟩:=hn; ⟨o,es,ep,kp _ _ e,r⟩
 have cC:(Value.ref C :: bm).contains (.ref C)=true:=by rw [List.contains_cons,beq_self_eq_true,Bool.true_or]
 have T2:=T.keeps kp
 show wpAny _ _ _ _ _ _
 unfold isInstance
 repeat (first | with_reducible refine wpAny_loadPart_at gE ?_ | (with_reducible refine wpAny_isSubtype_exc hC2 ?_; rw [cC]) | wp_step)
 show wpAny _ _ (typeLookup (.ref C) _) _ _ _
 refine wpAny_typeLookup_tail hC2 hn2 T2 F.mroIs F.init.lookup ?_
 rw [hi]
 refine wpAny_holding (wpAny_bind ?_)
 unfold bindSpecial
 refine wpAny_bind (wpAny_typeOf (T:="function") ⟨_,kp _ _ hf,hfc⟩ ?_)
 rw [if_pos (by decide)]
 refine wpAny_pure (wpAny_bind (wpAny_mono (hq _ (h.objs.size + 1) ⟨kp,Heap.get?_none_of_le (Nat.le_succ _),h.objs.size,gE,Heap.get?_none_of_le (Nat.le_refl _),Heap.get?_push_of_some _ (Heap.get?_push_at rfl rfl)⟩) (fun r s' hr=>?_) fun _ _ z=>z))
 obtain ⟨rfl,hQ⟩:=hr
 wp_walk
 exact hQ
theorem pM (Fn:ExcBaseFacts Bn newId inN bmN) (hBn:bmB.contains (.type Bn)=true) (F:ExcBaseFacts B nid initId bmB) (T:OwnTail h bmB bm) {mN:Str→Option Value} {us:List Value} {fI:Addr} {oI:Obj} {Q:Value→Shared→Prop}
  (hC:h.get? C=some (excClassObj nm q C N bs bm hdct sn sub ab col dd k0 k1 k2 k3 k5 newId)) (hn:h.Ns N mN) (hi:mN "__init__"=some (.ref fI)) (hf:h.get? fI=some oI) (hfc:oI.cls=.type "function") (hlen:us.length≤sizeLine)
  (hq:∀ h' e,Heap.MadeExcOf h h' e (.ref C) us→wpAny (model prog w) (A.under (.builtin "type.__call__" ⟨.ref C :: us,[]⟩)) (call (.ref fI) (.ref e :: us)) (fun r s'=>r=.none∧Q (.ref e) s') E ⟨h',g,d,t,os⟩) :
  wpAny (model prog w) A (call (.ref C) us) Q E ⟨h,g,d,t,os⟩:=by
 have f1:=tc_lookup
 have f2:=tc_bind (.ref C)
 have hT:(⟨h,g,d,t,os⟩:Shared).TypeIs (.ref C) "type":=⟨_,hC,rfl⟩
 refine wpAny_call (codeAny_of_tree ?_)
 show wpAny _ _ (callAny (.ref C) _) _ _ _
 repeat (any_goals (first | assumption | with_reducible refine wpAny_loadPart_at hC ?_ | wp_step))
 exact ⟨rfl,codeAny_call_builtin_at (Code.quiet_builtin _ (by decide +kernel)) entry_typeCall (wpAny_check_type_call_sub hC (jZ Fn hBn F T hC hn hi hf hfc hlen hq))⟩
end
end L2
namespace L2
open PySem PySem.Spec PyProof.Rows
section
variable {prog:Program} {w:World} {M:Model} {A:Around} {E:Value→Shared→Prop} {s:Shared} {env:Env}
variable {nm q:Str} {C N:Addr} {bs bm bmB:List Value} {hdct:Bool} {sn:List Str} {sub:List Value} {ab:Bool} {col:Option Bool} {dd:Option Addr} {k0 k1 k2 k3 k5:Option Value} {B Bn newId nid initId inN:String} {bmN:List Value}
def qD (h:Heap) (e C:Addr) (dx:Option Addr):Prop:=∃ t sl,h.get? e=some ⟨.ref C,dx,.fields #[.ref t,.none,.none,.none,.bool false,.none],sl⟩
theorem nW {x:Sem Value} {Q:Flow→Shared→Prop} (hbase:bm.contains (.type "BaseException")=true) (hh:A.handled=none)
  (h:wpAny M A x (fun v s₁=>∃ e dx,v=.ref e∧s₁.heap.get? C=some (excClassObj nm q C N bs bm hdct sn sub ab col dd k0 k1 k2 k3 k5 newId)∧qD s₁.heap e C dx∧E (.ref e) s₁) E s) :
  wpAny M A (raiseStmt env (some x) none) Q E s:=by
 have cB:(Value.ref C :: bm).contains (.type "BaseException")=true:=by rw [List.contains_cons,hbase,Bool.or_true]
 unfold raiseStmt
 refine wpAny_bind (wpAny_mono h (fun v s₁ ⟨e,dx,ev,hC,⟨t,sl,he⟩,hE⟩=>?_) fun _ _ z=>z)
 subst ev
 obtain ⟨hp,g,d,tk,os⟩:=s₁
 repeat (first | with_reducible refine wpAny_loadPart_at he ?_ | with_reducible refine wpAny_loadPart_at hC ?_ | (with_reducible refine wpAny_isSubtype_exc hC ?_; rw [cB]) | wp_step)
 exact wpAny_raiseNew_none hh hE
theorem oP (Fn:ExcBaseFacts Bn newId inN bmN) (hBn:bmB.contains (.type Bn)=true) (F:ExcBaseFacts B nid initId bmB) {mN:Str→Option Value} {fI:Addr} {x:Str} {np cpos pos:Pos} {args:List Expr} {Q:Flow→Shared→Prop}
  (hbase:bm.contains (.type "BaseException")=true) (hh:A.handled=none) (hplain:(backTo cpos (starEach args env)).any (·.1)=false) (hi:mN "__init__"=some (.ref fI))
  (h:wpAny (model prog w) A (eval (.Name x np) env) (fun f s₁=>f=.ref C∧wpAny (model prog w) A (evalArgs (.ref C) true (backTo cpos (starEach args env)) [])
   (fun a s₂=>a.kw=[]∧a.pos.length≤sizeLine∧s₂.heap.get? C=some (excClassObj nm q C N bs bm hdct sn sub ab col dd k0 k1 k2 k3 k5 newId)∧s₂.heap.Ns N mN∧OwnTail s₂.heap bmB bm∧(∃ oI,s₂.heap.get? fI=some oI∧oI.cls=.type "function") ∧
    ∀ h' e,Heap.MadeExcOf s₂.heap h' e (.ref C) a.pos→wpAny (model prog w) (A.under (.builtin "type.__call__" ⟨.ref C :: a.pos,[]⟩)) (call (.ref fI) (.ref e :: a.pos))
     (fun r s'=>r=.none∧∃ dx,s'.heap.get? C=some (excClassObj nm q C N bs bm hdct sn sub ab col dd k0 k1 k2 k3 k5 newId)∧qD s'.heap e C dx∧E (.ref e) s') E { s₂ with heap:=h' }) E s₁) E s) :
  wpAny (model prog w) A (exec (.Raise (some (.Call (.Name x np) args [] cpos)) none pos) env) Q E s:=by
 rw [arm_exec_Raise]
 refine wpAny_bind (wpAny_standAt (nW (C:=C) (nm:=nm) (q:=q) (N:=N) (bs:=bs) (bm:=bm) (hdct:=hdct) (sn:=sn) (sub:=sub) (ab:=ab) (col:=col) (dd:=dd) (k0:=k0) (k1:=k1) (k2:=k2) (k3:=k3) (k5:=k5) (newId:=newId) hbase hh ?_))
 refine wpAny_bind (wpAny_mono (wpAny_Call_ofName (wpAny_mono h (fun f s₁ ⟨ef,h₁⟩=>?_) fun _ _ z=>z)) (fun v s₃ h₃=>wpAny_bind (wpAny_standAt (wpAny_pure h₃))) fun _ _ z=>z)
 subst ef
 unfold callWith
 refine wpAny_bind (wpAny_holding (wpAny_mono h₁ (fun a s₂ h₂=>wpAny_bind (wpAny_standAt ?_)) fun _ _ z=>z))
 obtain ⟨apos,akw⟩:=a
 obtain ⟨hkw,hlen,hC,hn,T,⟨oI,hf,hfc⟩,h₂⟩:=h₂
 obtain rfl:akw=[]:=hkw
 obtain ⟨hp,g,d,tk,os⟩:=s₂
 simp only [hplain]
 refine wpAny_bind (wpAny_keeperOf_exc hC (wpAny_bind (pM Fn hBn F T hC hn hi hf hfc hlen fun h' e hm=>wpAny_mono (h₂ h' e hm) (fun r s' ⟨z,dx,c1,c2,c3⟩=>⟨z,wpAny_bind (wpAny_holding (wpAny_point (wpAny_pure ⟨e,dx,rfl,c1,c2,c3⟩)))⟩) fun _ _ z=>z)))
end
end L2
namespace L2
open PySem PySem.Spec PyProof.Rows
def x0 (a C:Addr) (h:Heap):Prop:=qD h a C none
def x1 (a C:Addr) (h:Heap):Prop:=∃ d,qD h a C (some d)
structure iT (K:PySem.W.Frag) (C:Addr) (f:Str):Prop where
 sa:PySem.W.findIn K (.ref C) "__setattr__"=some (some (.builtin "object.__setattr__"))
 cd:∃ cd own,PySem.W.clsIn K C=some cd∧cd.mro=List.map Value.ref own ++ bmV∧cd.hasDict=true
 tk:PySem.W.takerIn K C f=some none
section
variable {X:Cx} {pins:List (Addr × Obj)} {σ σ':St} {H H1:Hp} {s s1:Shared} {a C:Addr} {f:Str}
theorem n9 {A:Around} {E:Value→Shared→Prop} {u:Value} {Q:Unit→Shared→Prop} (I:Inv X pins σ H s) (e:H a=some (.ext (x0 a C))) (st:iT X.K C f) (h:∀ s',Inv X pins σ (upd H a (.ext (x1 a C))) s'→Q () s'):wpAny (model X.prog X.w) A (setAttr (.ref a) f u) Q E s:=by
 obtain ⟨⟨t,sl,ho⟩,_,_⟩:=I.hok a _ e
 obtain ⟨cd,own,c1,c2,c3⟩:=st.cd
 refine vL I.kIn ⟨ho,rfl,rfl,trivial⟩ st.sa c1 c2 st.tk c3 fun h' d tk k1 k2=>h _ ?_
 exact I.write (x:=a) (e:=a) (by rw [e]; exact True.intro) (.inl rfl) k1 ⟨_,k2⟩ ⟨⟨d,t,sl,k2⟩,⟨_,k2⟩,fun h1 h2 ⟨d',t',sl',z⟩ kk=>⟨d',t',sl',kk _ z⟩⟩
theorem Inv.drop {φ:Heap→Prop} (I:Inv X pins σ (upd H1 a (.ext φ)) s) (I1:Inv X pins σ' H1 s1) (hn:H1 a=none):Inv X pins σ H1 s:=by
 refine ⟨I.ok,I.os,I.bare,⟨I.base.keep,I.base.slot,I1.base.free,I.base.there,I1.base.tups,I1.base.frzs,I1.base.tbls⟩,I.loc,I.cell,I1.free,I1.freeC,fun p hp=>⟨(I.pin p hp).1,(I1.pin p hp).2.1,(I.pin p hp).2.2⟩,fun b ob e=>?_,I.len⟩
 have nb:b ≠ a:=fun z=>by rw [z,hn] at e; cases e
 refine (I.hok b ob (by rw [aN nb]; exact e)).stay (fun _ _ _ q=>q) (fun b' q=>?_) fun b' xs q=>?_
 ·by_cases z:b'=a
  ·rw [z,aU] at q; cases q
  ·rwa [aN z] at q
 ·by_cases z:b'=a
  ·rw [z,aU] at q; cases q
  ·rwa [aN z] at q
end
def xt (K:PySem.W.Frag) (ta tv:TE) (f:Str):TS:=fun D σ H=>tv σ H fun _ H1=>ta σ H1 fun x H2=>∃ a C,x=.ref a∧H2 a=some (.ext (x0 a C))∧iT K C f∧D.nx σ (upd H2 a (.ext (x1 a C)))
theorem wo {X:Cx} {o value:Expr} {f:Str} {pos pos':Pos} {ta tv:TE} (ha:PE X o ta) (hv:PE X value tv) (hs:swapsWith value (some (.Attribute o f pos')) pos.line X.env=pure false:=by rfl):PS X (.Assign [.Attribute o f pos'] value pos) (xt X.K ta tv f):=by
 intro pins s σ H D I h
 refine plainObj_wpAny_Assign_Attribute (thn (hv pins s σ H _ I h) fun u s1 ⟨y,H1,I1,ry,q⟩=>thn (ha pins s1 σ H1 _ I1 q) fun ov s2 ⟨x,H2,I2,rx,a,C,ex,ea,st,q2⟩=>?_) hs
 subst ex
 obtain rfl:ov=Value.ref a:=rx
 exact n9 I2 ea st fun s3 I3=>⟨σ,_,I3,q2⟩
def ic (K:PySem.W.Frag) (f:Str):Sp:=fun vs H Q _=>∃ e C y,vs=[.ref e,y]∧H e=some (.ext (x0 e C))∧iT K C f∧Q .non (upd H e (.ext (x1 e C)))
section
variable {P:Program} {w:World} {K:PySem.W.Frag} {mg:Str→Option Value} {base:Heap}
theorem uO {x qual y1 y2 fl:Str} {st:Stmt} {f:Addr} {fd:FuncData} (F:Fun K x qual st f fd) (S:ax [y1,y2] [y1,y2] (ah st))
  (hb:∀ (cdv:Value) (A:Around) (outer:List Env) (s:Shared) (H:Hp) (E:XK),PSs (gI (CX1 P w) P w K mg base [y1,y2] qual (ah st) f cdv A outer s H E) (al st) (xt K (tV 0) (tV 1) fl)):iw P w K mg base (CX1 P w) 1 f fd [y1,y2] (ic K fl):=by
 obtain ⟨oc,od,kV,doc,pm,an,cdv,ct,osl,rfl,lk,hcd⟩:=F.ex
 refine um lk hcd S (fun vs H Q E h=>?_) fun A outer s H vs Q' E hr h=>⟨_,hb cdv A outer s H E,?_⟩
 ·obtain ⟨e,C,y,rfl,_⟩:=h
  rfl
 ·obtain ⟨e,C,y,rfl,h1,h2,q⟩:=h
  exact ⟨y,rfl,.ref e,rfl,e,C,rfl,h1,h2,q⟩
def qJ (K:PySem.W.Frag) (C fI:Addr):Prop :=
 ∃ nm q N bs bm bmB hdct sn sub ab col dd k0 k1 k2 k3 k5,∃ B Bn newId nid initId inN:String,∃ bmN,∃ mN:Str→Option Value,ExcBaseFacts Bn newId inN bmN∧bmB.contains (Value.type Bn)=true∧ExcBaseFacts B nid initId bmB∧bm.contains (Value.type "BaseException")=true∧mN "__init__"=some (.ref fI) ∧
  ∀ h:Heap,K.In h→h.get? C=some (excClassObj nm q C N bs bm hdct sn sub ab col dd k0 k1 k2 k3 k5 newId)∧h.Ns N mN∧OwnTail h bmB bm∧∃ oI,h.get? fI=some oI∧oI.cls=.type "function"
variable {N:List Str} {qual:Str} {scope:Scope} {f:Addr} {cd:Value} {A:Around} {outer:List Env} {s0:Shared} {H0:Hp} {E:XK}
theorem rG {X:Cx} (hX:X=gI (CX1 P w) P w K mg base N qual scope f cd A outer s0 H0 E) {C fI:Addr} {fdI:FuncData} {ps:List Str} {fl:Str} {k:Nat} {x:Str} {np cpos pos:Pos} {e:Expr} {ta:TA} (hC:qJ X.K C fI) (F:iw X.prog X.w X.K X.mg X.base (CX1 X.prog X.w) k fI fdI ps (ic X.K fl)) (hr:dG (k + 1) X.A) (hb:aJ X.K fdI ps []) (st:iT X.K C fl)
  (hg:Gl X x) (hm:X.mg x=some (.ref C)) (ha:PA X [e] ta) (hs:starEach [e] X.env=[(false,eval e X.env)]:=by rfl) (hdb:(x == ("__debug__":Str))=false:=by decide) :
  PS X (.Raise (some (.Call (.Name x np) [e] [] cpos)) none pos) (fun _ σ H=>ta σ H fun vs H1=>(∃ y,vs=[y])∧∀ d,E (.ref C) (some d) H1):=by
 intro pins s σ H D I h
 obtain ⟨nm,q,N',bs,bm,bmB,hdct,sn,sub,ab,col,dd,k0,k1,k2,k3,k5,B,Bn,newId,nid,initId,inN,bmN,mN,f1,f2,f3,f4,f5,hin⟩:=hC
 have hcalm:X.A.handled=none:=I.ok.hd (by rw [hX]; rfl)
 refine oP (nm:=nm) (q:=q) (N:=N') (bs:=bs) (hdct:=hdct) (sn:=sn) (sub:=sub) (ab:=ab) (col:=col) (dd:=dd) (k0:=k0) (k1:=k1) (k2:=k2) (k3:=k3) (k5:=k5) f1 f2 f3 f4 hcalm (by rw [hs]; rfl) f5 (ij I hg hm ⟨rfl,?_⟩ hdb)
 rw [hs]
 refine evalArgs_kwB rfl ?_
 have ha':=ha cpos pins s σ H _ I h
 rw [hs] at ha'
 refine thn ha' fun us s1 ⟨vs,H1,I1,r1,⟨y,ey⟩,q1⟩=>?_
 subst ey
 obtain ⟨u,rfl,ru⟩:=iJ r1
 refine wpAny_evalAll_nil ?_
 obtain ⟨c1,c2,c3,c4⟩:=hin s1.heap I1.kIn
 refine ⟨rfl,by show 1≤sizeLine; rw [sizeLine_eq]; decide,c1,c2,c3,c4,fun h' e' md=>?_⟩
 obtain ⟨mk,mn,t,mt,_⟩:=md
 have hn:H1 e'=none:=pi I1.hok mn
 have I2:Inv X pins σ H1 { s1 with heap:=h' }:=I1.kept (t':=s1.toks) mk
 have I3:Inv X pins σ (upd H1 e' (.ext (x0 e' C))) { s1 with heap:=h' }:=I2.adopt I1 mn hn ⟨⟨t,_,mt⟩,⟨_,mt⟩,fun h1 h2 ⟨t',sl',z⟩ kk=>⟨t',sl',kk _ z⟩⟩
 have r2:bi [V.ref e',y] [Value.ref e',u]:=.cons rfl (.cons ru .nil)
 have hsp:ic X.K fl [V.ref e',y] (upd H1 e' (.ext (x0 e' C))) (fun v H2=>v=.non∧H2=upd H1 e' (.ext (x1 e' C))) (fun _ _ _=>False):=⟨e',C,y,rfl,aU,st,rfl,wK⟩
 have hl:([Value.ref e',u]:List Value).length=ps.length:=by rw [← r2.length]; exact F.len _ _ _ _ hsp
 refine wpAny_call (codeAny_mono (F.run _ X.stack _ _ ⟨[Value.ref e',u],[]⟩ [Value.ref e',u] _ _ _ (hr.make C [u] []) (I3.env0.make C [u] []) (hb _ [Value.ref e',u] I3.kIn hl) r2 hsp) fun r s' hq'=>?_)
 cases r with
 | error ev=>obtain ⟨_,_,_,_,_,_,z,_⟩:=hq'; exact z.elim
 | ok fw =>
  cases fw with
  | ret uv =>
   obtain ⟨v,H',I4,rv,ev,eH⟩:=I3.after hq'
   subst ev eH
   obtain ⟨⟨d,t',sl',md⟩,_,_⟩:=I4.hok e' _ aU
   have I5:=I4.drop I1 hn
   refine ⟨rv,some d,(hin s'.heap I4.kIn).1,⟨t',sl',md⟩,?_⟩
   subst hX
   have base1:Un (frs outer) [] H0 H1 s0.heap s1.heap:=I1.base
   exact Ag I5 (tb:=none) ⟨_,_,md,rfl,rfl,rfl,(by show 1 < 6; decide),rfl,fun T z=>by cases z⟩ (o0 base1 rfl mn) (fun T z=>by cases z) hn (q1 d)
  | next=>exact False.elim hq'
  | brk=>exact False.elim hq'
  | cont=>exact False.elim hq'
end
end L2
namespace L3
open PySem PySem.Spec PyProof.Rows L2
section
variable {P:Program} {w:World} {K:PySem.W.Frag} {mg:Str→Option Value} {base:Heap} {N:List Str} {qual:Str} {scope:Scope} {f:Addr} {cd:Value} {A:Around} {outer:List Env} {s0:Shared} {H0:Hp} {E:XK} {x:Str} {np cpos pos:Pos} {e:Expr} {C fI:Addr} {fdI:FuncData} {ps:List Str} {fl:Str} {k:Nat} {R:Addr→Mp→Prop} {ta:T3A}
def wY (C:Addr) (R:Addr→Mp→Prop) (ta:T3A):T3S:=fun _ δ M=>ta δ M fun ds M1=>ds.length=1∧R C M1
theorem rJ (hC:qJ K C fI) (F:iw P w K mg base (CX1 P w) k fI fdI ps (ic K fl)) (hr:dG (k + 1) (gI (CX1 P w) P w K mg base N qual scope f cd A outer s0 H0 E).A) (hb:aJ K fdI ps []) (st:iT K C fl) (hi:PySem.W.findIn K (.ref C) "__init__"=some (some (.ref fI))) (hg:Gl (gI (CX1 P w) P w K mg base N qual scope f cd A outer s0 H0 E) x) (hm:mg x=some (.ref C)) (hR:RTo K R E) (ha:A3 (gI (CX1 P w) P w K mg base N qual scope f cd A outer s0 H0 E) [e] ta)
  (hs:starEach [e] (gI (CX1 P w) P w K mg base N qual scope f cd A outer s0 H0 E).env=[(false,eval e (gI (CX1 P w) P w K mg base N qual scope f cd A outer s0 H0 E).env)]:=by rfl) (hdb:(x == ("__debug__":Str))=false:=by decide) :
  S3 (gI (CX1 P w) P w K mg base N qual scope f cd A outer s0 H0 E) (.Raise (some (.Call (.Name x np) [e] [] cpos)) none pos) (wY C R ta) :=
 PS.mono (rG rfl hC F hr hb st hg hm ha hs hdb) fun D' σ H ⟨δ,M,D,hs,hm,ht,_⟩=>⟨δ,M,_,hs,hm,ht,fun vs H1 ds M1 hd hm1 e1 q1=>⟨by
  obtain ⟨d,rfl⟩:∃ d,ds=[d]:=match ds,q1.1 with | [d],_=>⟨d,rfl⟩
  obtain ⟨v,rfl,_⟩:=cQ hd
  exact ⟨v,rfl⟩,fun d=>hR C (some d) H1 M1 hm1 (fun _ _=>⟨fI,hi⟩) q1.2⟩⟩
end
section
variable {X:Cx} {b₀:Stmt} {suite:List Stmt} {cn:Str} {e:Expr} {cnp hpos pos epos:Pos} {Cc L:Addr} {outer:List Env} {te:T3X} {th:T3S}
theorem uG {t:St→Hp→VK→(Hp→Prop)→XK→Prop} (he:PEX X e t) (hs:swapsWith e none epos.line X.env=pure false:=by rfl):PSX X (.Expr e epos) (fun D σ H J E=>t σ H (fun _ H'=>D.nx σ H') J E):=by
 intro pins s σ H D J E I h
 exact wpAny_Expr_any (thn (he pins s σ H _ J E I h) fun v s1 ⟨y,H1,I1,r1,q1⟩=>⟨σ,H1,I1,q1⟩) I.quiet hs
def zI (K:PySem.W.Frag) (Cc:Addr) (te:T3X) (th:T3S):T3S:=fun D δ M=>∃ R,te δ M (fun _ M1=>D.nx δ M1) R∧∀ C M',R C M'→PySem.W.exmOne K (.ref C) (.ref Cc)=some true∧th D δ M'
theorem we (he:E3X X e te) (hst:X.stack=X.env :: outer) (hL:X.env.frame=some L) (hg:Gl X cn) (hm:X.mg cn=some (.ref Cc))
  (hs:∀ ev E',Ss3 (X.marked ev E') (b₀ :: suite) th) (hdb:(cn == ("__debug__":Str))=false:=by decide) (hsw:swapsWith e none epos.line X.env=pure false:=by rfl) :
  S3 X (.Try [.Expr e epos] [.ExceptHandler (some (.Name cn cnp)) none (b₀ :: suite) hpos] [] [] pos) (zI X.K Cc te th) :=
 PS.monoL (wE (th:=loS X.K th) (uG he hsw) hst hL hg hm hs hdb) fun D' σ H hl ⟨δ,M,D,hs,hm,⟨R,ht,hh⟩,k1,k2,k3,k4⟩=>by
  refine ⟨fun H1=>bH X.K H H1,fun cv d H'=>∃ C M',cv=.ref C∧HM X.K H' M'∧zT X.K C d∧R C M',⟨δ,M,_,R,hs,hm,ht,fun v H1 d M1 hd hm1 e1 q1=>?_,fun _ z=>z,fun C dx H' M' h1 h0 h2=>⟨C,M',rfl,h1,h0,h2⟩⟩,fun C dx H1 H' jH tk ⟨C',M',ec,hm',hdx,r⟩=>?_⟩
  ·exact k1 _ H1 _ M1 (hs.mono e1) hm1 e1 rfl q1
  ·cases ec
   obtain ⟨r1,r2⟩:=hh C M' r
   have e1:bH X.K H H':=jH.trans (L2.TKept.ext tk)
   refine ⟨r1,δ,M',D,hs.mono e1,hm',r2,fun σ2 H2 δ2 M2 y1 y2 y3 y4 y5=>?_,fun v H2 d M2 y1 y2 y3 y5=>?_,fun σ2 H2 δ2 M2 y1 y2 y3 y4 y5=>?_,fun σ2 H2 δ2 M2 y1 y2 y3 y4 y5=>?_⟩
   ·exact k1 _ H2 _ M2 y1 y2 (e1.trans y3) y4 y5
   ·exact k2 _ H2 _ M2 y1 y2 (e1.trans y3) y5
   ·exact k3 _ H2 _ M2 y1 y2 (e1.trans y3) y4 y5
   ·exact k4 _ H2 _ M2 y1 y2 (e1.trans y3) y4 y5
def Bf:T3:=fun _ _ _=>False
theorem uf {e:Expr}:E3 X e Bf:=fun _ _ _ _ _ _ ⟨_,_,_,_,_,z,_⟩=>z.elim
end
end L3
namespace L2
open PySem PySem.Spec PyProof.Rows
theorem sU {K:PySem.W.Frag} {C C2 N fI:Addr} {nm q:Str} {bs sub:List Value} {hdct ab:Bool} {sn:List Str} {col:Option Bool} {dd od1 od2 dd2:Option Addr} {k0 k1 k2 k3 k5:Option Value} {oc1 oc2 c0:Value} {es1 es2:Array DictEntry} {ep1 ep2:Nat} {sl1 sl2 sl3:Array (Option Value)} {cd2:ClassData} {oI:Obj}
  (l1:K.lookup C=some (excClassObj nm q C N bs (.ref C2 :: bmV) hdct sn sub ab col dd k0 k1 k2 k3 k5 "ValueError.__new__")) (n1:K.lookup N=some ⟨oc1,od1,.dict es1 ep1,sl1⟩) (s1:ig es1=true) (i1:nsFind es1 "__init__"=some (.ref fI))
  (l2:K.lookup C2=some ⟨c0,dd2,.cls cd2,sl3⟩) (n2:K.lookup cd2.ns=some ⟨oc2,od2,.dict es2 ep2,sl2⟩) (s2:ig es2=true) (i2:nsFind es2 "__init__"=none) (l3:K.lookup fI=some oI) (hf:PySem.W.isFn K (.ref fI)=true):qJ K C fI:=by
 have hc:oI.cls=.type "function":=by
  have hf:=beq_iff_eq.mp hf
  unfold PySem.W.typeIn at hf
  simp only at hf
  rw [l3] at hf
  exact Option.some.inj hf
 refine ⟨nm,q,N,bs,.ref C2 :: bmV,bmV,hdct,sn,sub,ab,col,dd,k0,k1,k2,k3,k5,"ValueError","ValueError","ValueError.__new__","ValueError.__new__","ValueError.__init__","ValueError.__init__",bmV,fun n=>nsFind es1 n,F.excBase_ValueError,by decide +kernel,F.excBase_ValueError,?_,i1,fun h X=>⟨X C _ l1,⟨_,es1,ep1,X N _ n1,rfl,lx s1,fun _=>rfl⟩,.own (X C2 _ l2) ⟨_,es2,ep2,X _ _ n2,rfl,lx s2,fun _=>rfl⟩ i2 .base,oI,X fI _ l3,hc⟩⟩
 rw [List.contains_cons]
 have:bmV.contains (.type "BaseException")=true:=by decide +kernel
 rw [this,Bool.or_true]
theorem rO {K:PySem.W.Frag} {C C2 N:Addr} {nm q f:Str} {bs sub:List Value} {ab:Bool} {sn:List Str} {col:Option Bool} {dd:Option Addr} {k0 k1 k2 k3 k5:Option Value} (l1:K.lookup C=some (excClassObj nm q C N bs (.ref C2 :: bmV) true sn sub ab col dd k0 k1 k2 k3 k5 "ValueError.__new__")) (sa:PySem.W.findIn K (.ref C) "__setattr__"=some (some (.builtin "object.__setattr__"))) (tk:PySem.W.findIn K (.ref C) f=some none):iT K C f:=by
 refine ⟨sa,⟨_,[C,C2],by unfold PySem.W.clsIn; rw [l1],rfl,rfl⟩,?_⟩
 unfold PySem.W.takerIn
 rw [tk]
 rfl
end L2
namespace L3
open PySem PySem.Spec PyProof.Rows L2
def xI (items:Array Value) (x:Value) (i:Nat) (_:Option PySem.Fin × Unit):Sem (ForInStep (Option PySem.Fin × Unit)):=match items[i]? with
 | some y=>do
  let b ← eqBool y x
  if b=true then do
   let v ← retInt ↑i
   pure (ForInStep.done (some v,()))
  else pure (ForInStep.yield (none,()))
 | _=>pure (ForInStep.yield (none,()))
theorem lW (l:Addr) (items:Array Value) (n:Nat) (dd:Option Addr) (sl:Array (Option Value)) (x:Value) (e:Value→Bool) (j:Nat) (hj:j < items.size) (hit:e items[j]=true) (hno:∀ m (hm:m < items.size),m < j→e items[m]=false) :
  Meets (Builtin.«tuple.index» ⟨[.ref l,x],[]⟩)
   (fun A R s=>s.heap.get? l=some { cls:=.type "tuple",dict:=dd,data:=.seq items n,slots:=sl }∧(∀ y,y∈items→SeqAt.EqAt A.in1 s y x (e y))∧R (.ok (.ret (.int j s.toks))) { s with toks:=s.toks + 1 }) :=
 .of_wp fun prog w A R s h=>by
  obtain ⟨hp,g,d,tk,os⟩:=s; obtain ⟨hl,he,h⟩:=h
  wp_walk using wpAny_loadPart' hl
  change wpAny _ _ (forIn ([:min items.size items.size]:Std.Legacy.Range) ((none,()):Option PySem.Fin × Unit) (xI items x)) _ _ _
  rw [Std.Legacy.Range.forIn_eq_forIn_range']
  have hr:List.range' ([:min items.size items.size]:Std.Legacy.Range).start ([:min items.size items.size]:Std.Legacy.Range).size ([:min items.size items.size]:Std.Legacy.Range).step=List.range' 0 items.size 1:=by
   simp [Std.Legacy.Range.size]
  rw [hr]
  refine wpAny_mono (wpAny_forIn_list (xI items x) (fun rest b s'=>b.1=none∧s'=⟨hp,g,d,tk,os⟩∧∃ i,i≤j∧rest=List.range' i (items.size - i) 1) (fun b s'=>b.1=some (.done (.ret (.int j tk)))∧s'=⟨hp,g,d,tk + 1,os⟩) ?_ ?_ _ _ ⟨rfl,rfl,0,Nat.zero_le _,rfl⟩) (fun b s' hb=>?_) fun _ _ z=>z
  ·rintro k rest b s' ⟨hb,rfl,i,hi,er⟩
   have hsz:items.size - i=(items.size - i - 1) + 1:=by omega
   rw [hsz,List.range'_succ] at er
   obtain ⟨rfl,rfl⟩:=List.cons.inj er
   have hk:k < items.size:=by omega
   unfold xI
   rw [Array.getElem?_eq_getElem hk]
   refine wpAny_bind (he items[k] (Array.getElem_mem hk) prog w _ _ ?_)
   by_cases hkj:k < j
   ·rw [hno k hk hkj]
    exact wpAny_pure ⟨rfl,rfl,k + 1,hkj,by rw [Nat.sub_sub]⟩
   ·have:k=j:=by omega
    subst this
    rw [hit]
    refine wpAny_bind ?_
    wp_walk
    exact ⟨rfl,rfl⟩
  ·rintro b s' ⟨_,_,i,hi,er⟩
   have:items.size - i ≠ 0:=by omega
   have:=congrArg List.length er
   rw [List.length_range'] at this
   simp at this
   omega
  ·obtain ⟨h1,rfl⟩:=hb
   obtain ⟨b1,b2⟩:=b
   simp only at h1
   subst h1
   exact wpAny_pure ⟨_,rfl,h⟩
section
variable {X:Cx} {pos apos:Pos} {o e:Expr} {es:List Expr} {ta:T3} {t:T3A}
def uK (x:D) (ds:List D) (M:Mp) (Q:DK):Prop:=match x,ds with
 | .tup es,[y]=>eZ y=true∧es.all eZ=true∧(iP y es).elim False fun j=>Q (.int (j:Nat)) M
 | _,_=>False
theorem rh:M3 X "tuple.index" uK:=by
 intro pins s σ H vx vs v us Q' I rx rv h
 obtain ⟨x,ds,M,Q,hx,hd,hm,q,k⟩:=h
 unfold uK at q
 split at q
 ·rename_i es y
  obtain ⟨f1,f2,q⟩:=q
  obtain ⟨j,e1,q⟩:=bY q
  obtain ⟨a,xs,rfl,h1,h2⟩:=hx.tup_inv
  cases rx
  obtain ⟨w,rfl,hw⟩:=cQ hd
  obtain ⟨u,rfl,ru⟩:=iJ rv
  obtain ⟨its,r,⟨ob,g1,g2,n,g3⟩,hz⟩:=I.tuple h1
  obtain ⟨hl,p1,p2⟩:=mM hw f1 h2 r f2 e1
  obtain ⟨oc,od,odt,osl⟩:=ob
  cases g2
  cases g3
  refine call_meets F.slot_tuple_index ⟨_,g1,rfl⟩ F.entry_tuple_index (F.args_tuple_index_2 _ _) (lW a its.toArray n od osl u (eqU w) j (by simpa using hl) (by simpa using p1) fun m hm hlt=>by simpa using p2 m (by simpa using hm) hlt) ⟨g1,?_,?_⟩
  ·intro z hz'
   exact fT ru (gU hw f1) r (kj h2 f2) z (by simpa using hz')
  ·exact ⟨.int (j:Nat),H,I.tok _,⟨_,rfl⟩,k _ _ _ _ .int hm .refl q⟩
 ·exact q.elim
theorem xE {id:String} {name:Str} {r:V→List V→Hp→VK→Prop} {to:TE} {ta:TA} (slot:Slot "tuple" name id) (hty:typeOf (.builtin id)=pure (.type "method_descriptor")) (hm:MtR X id r) (ho:PE X o to) (ha:PA X (e :: es) ta)
  (hbase:attributeBase o name X.env (eval o X.env)=eval o X.env)
  (hfew:((backTo pos (starEach (e :: es) X.env)).all (fun x=>!x.1) && (backToKw pos (keywordEach [] X.env)).all (fun x=>x.1.isSome) && decide ((e :: es).length + ([]:List Keyword).length + (if ([]:List Keyword).isEmpty then 0 else 1) < 30))=true)
  (hline:(apos.endLine == pos.line)=true) (hs:starEach (e :: es) X.env=(false,eval e X.env) :: starEach es X.env) (hplain:(backTo pos (starEach es X.env)).any (·.1)=false) :
  PE X (.Call (.Attribute o name apos) (e :: es) [] pos) (fun σ H Q=>to σ H fun x H1=>(∃ p xs,x=.ref p∧SqT X.K H1 p xs)∧ta σ H1 fun xs H2=>r x xs H2 Q):=by
 intro pins s σ H Q I h
 refine wpAny_Call_method_late hbase hfew hline rfl (thn (ho pins s σ H _ I h) fun v s1 ⟨x,H1,I1,r1,⟨p,xs,ex,hq⟩,q1⟩=>?_)
 subst ex
 cases r1
 obtain ⟨its,_,⟨ob,g1,g2,_,g4⟩,_⟩:=I1.tupleN hq
 refine ⟨"tuple",id,PySem.F.plainAttrs_tuple,slot,hty,⟨ob,g1,g2⟩,fun b z=>by cases z; exact ⟨ob,g1,g4⟩,?_⟩
 have hA:=ha pos pins s1 σ H1 _ I1 q1
 rw [hs] at hA ⊢
 refine Calls.callWith_builtin (by show (false || (backTo pos (starEach es X.env)).any (·.1))=false; rw [hplain] <;> rfl) (Calls.evalArgs_plain ?_)
 exact thn hA fun us s2 ⟨vs,H2,I2,r2,q2⟩=>hm pins s2 σ H2 (.ref p) vs (.ref p) us Q I2 rfl r2 q2
def tm3 (r:D→List D→Mp→DK→Prop) (to:T3) (t:T3A):T3:=fun δ M Q=>to δ M fun x M1=>match x with | .tup z=>t δ M1 fun ds M2=>r (.tup z) ds M2 Q | _=>False
theorem mV (ho:E3 X o ta) (ha:A3 X (e :: es) t) (hbase:attributeBase o "index" X.env (eval o X.env)=eval o X.env:=by rfl)
  (hfew:((backTo pos (starEach (e :: es) X.env)).all (fun x=>!x.1) && (backToKw pos (keywordEach [] X.env)).all (fun x=>x.1.isSome) && decide ((e :: es).length + ([]:List Keyword).length + (if ([]:List Keyword).isEmpty then 0 else 1) < 30))=true:=by rfl)
  (hline:(apos.endLine == pos.line)=true:=by rfl) (hs:starEach (e :: es) X.env=(false,eval e X.env) :: starEach es X.env:=by rfl) (hplain:(backTo pos (starEach es X.env)).any (·.1)=false:=by rfl) :
  E3 X (.Call (.Attribute o "index" apos) (e :: es) [] pos) (tm3 uK ta t):=PE.mono (xE PySem.F.slot_tuple_index PySem.F.type_tuple_index rh ho ha hbase hfew hline hs hplain) fun σ H Q' ⟨δ,M,Q,hs,hm,ht,k⟩ =>
 ⟨δ,M,_,hs,hm,ht,fun v H1 x M1 hx hm1 e1 q1=>by
  cases x with
  | tup z =>
   obtain ⟨a,xs,ev,h1,h2⟩:=id hx.tup_inv
   exact ⟨⟨a,xs,ev,h1⟩,δ,M1,_,hs.mono e1,hm1,q1,fun vs H2 ds M2 hds hm2 e2 q2=>⟨.tup z,ds,M2,Q,hx.mono e2,hds,hm2,q2,gh (e1.trans e2) k⟩⟩
  | _=>exact q1.elim⟩
end
end L3
namespace Z
open PySem PySem.Spec PyProof.Rows L2 L3
def top (i:Nat):Stmt:=PySem.Challenge.pw_callboard_k33_groups_in_turns.main.body.getD i (.Pass ⟨0,0,0,0⟩)
abbrev du:Stmt:=top 1
abbrev bO:Stmt:=top 2
abbrev aX:Stmt:=top 3
abbrev ft:Stmt:=top 5
abbrev bv:Stmt:=top 7
abbrev cX:Stmt:=top 9
abbrev cj:Stmt:=top 10
abbrev bQ:Stmt:=top 11
abbrev bh:Stmt:=top 18
abbrev bu:Stmt:=top 19
abbrev fq:Stmt:=top 20
abbrev aV:Stmt:=top 21
abbrev dn:Stmt:=top 23
abbrev cg:Stmt:=top 24
abbrev bw:Stmt:=top 25
abbrev bS:Stmt:=top 27
abbrev fu:Stmt:=top 28
abbrev cF:Stmt:=top 29
abbrev dv:Stmt:=top 30
abbrev cw:Stmt:=top 31
abbrev bB:Stmt:=top 33
abbrev cU:Stmt:=top 34
abbrev iC:Stmt:=top 35
abbrev lN:Stmt:=top 36
abbrev gj:Stmt:=top 64
abbrev dt:Stmt:=top 65
abbrev ck:Stmt:=top 66
abbrev cA:Stmt:=top 67
abbrev bJ:Stmt:=top 68
abbrev bK:Stmt:=top 69
abbrev bF:Stmt:=top 72
abbrev bZ:Stmt:=top 73
abbrev dZ:Stmt:=top 76
abbrev cR:Stmt:=top 77
abbrev cS:Stmt:=top 78
abbrev cW:Stmt:=top 79
abbrev cq:Stmt:=top 80
abbrev cV:Stmt:=top 81
abbrev dY:Stmt:=top 82
abbrev cT:Stmt:=top 83
abbrev dw:Stmt:=top 84
abbrev cE:Stmt:=top 85
abbrev iD:Stmt:=top 86
abbrev bP:Stmt:=bX (top 16) 0
abbrev ce:Stmt:=bX (top 12) 0
abbrev cG:Stmt:=bX (top 74) 0
abbrev aW:Stmt:=bX (top 74) 2
abbrev bU:Stmt:=bX (top 12) 12
abbrev bp:Stmt:=bX (top 12) 7
abbrev bT:Stmt:=bX (top 74) 6
abbrev bq:Stmt:=bX (top 74) 5
abbrev cb:Stmt:=bX (top 74) 1
abbrev bz:Stmt:=bX (top 12) 2
abbrev cD:Stmt:=bX (top 8) 0
abbrev be:Stmt:=bX (top 8) 5
abbrev aY:Stmt:=bX (top 8) 4
abbrev bx:Stmt:=bX (top 12) 10
abbrev bg:Stmt:=bX (top 12) 9
abbrev bR:Stmt:=bX (top 12) 4
abbrev bA:Stmt:=bX (top 12) 5
abbrev cc:Stmt:=bX (top 12) 1
abbrev cf:Stmt:=bX (top 74) 3
abbrev aO:Stmt:=bX (top 8) 7
abbrev b9:Stmt:=bX (top 8) 3
abbrev cY:Stmt:=bX (top 8) 1
abbrev bf:Stmt:=bX (top 8) 2
theorem kU:ax ["board","caller","target","wishes"] ["board","caller","target"] (ah du):=⟨rfl,rfl,rfl,by decide +kernel,rfl,by decide +kernel,by decide +kernel⟩
theorem dH:ax ["board","caller","target","free","members","place","in_turn"] ["board","caller","target"] (ah bO):=⟨rfl,rfl,rfl,by decide +kernel,rfl,by decide +kernel,by decide +kernel⟩
theorem fF:ax ["board","caller","target","phones"] ["board","caller","target"] (ah aX):=⟨rfl,rfl,rfl,by decide +kernel,rfl,by decide +kernel,by decide +kernel⟩
theorem hG:ax ["board","caller","target","way","come_to","steps","fits","wanted"] ["board","caller","target","way"] (ah ft):=⟨rfl,rfl,rfl,by decide +kernel,rfl,by decide +kernel,by decide +kernel⟩
theorem jF:ax ["answers"] ["answers"] (ah bv):=⟨rfl,rfl,rfl,by decide +kernel,rfl,by decide +kernel,by decide +kernel⟩
theorem oq:ax ["call","word"] ["call","word"] (ah cX):=⟨rfl,rfl,rfl,by decide +kernel,rfl,by decide +kernel,by decide +kernel⟩
theorem lU:ax ["call","phone"] ["call","phone"] (ah cj):=⟨rfl,rfl,rfl,by decide +kernel,rfl,by decide +kernel,by decide +kernel⟩
theorem gY:ax ["call","event","word"] ["call","event"] (ah bQ):=⟨rfl,rfl,rfl,by decide +kernel,rfl,by decide +kernel,by decide +kernel⟩
theorem iS:ax ["board","phone"] ["board","phone"] (ah bh):=⟨rfl,rfl,rfl,by decide +kernel,rfl,by decide +kernel,by decide +kernel⟩
theorem gx:ax ["board","phone","target","word"] ["board","phone","target"] (ah bu):=⟨rfl,rfl,rfl,by decide +kernel,rfl,by decide +kernel,by decide +kernel⟩
theorem ur:ax ["word","phone","calls"] ["word","phone","calls"] (ah fq):=⟨rfl,rfl,rfl,by decide +kernel,rfl,by decide +kernel,by decide +kernel⟩
theorem dW:ax ["board","word","phone","numbers","calls","due"] ["board","word","phone","numbers"] (ah aV):=⟨rfl,rfl,rfl,by decide +kernel,rfl,by decide +kernel,by decide +kernel⟩
theorem kW:ax ["board","deed","word"] ["board","deed"] (ah dn):=⟨rfl,rfl,rfl,by decide +kernel,rfl,by decide +kernel,by decide +kernel⟩
theorem dX:ax ["board","number","steps","last","target","fits"] ["board","number","steps"] (ah cg):=⟨rfl,rfl,rfl,by decide +kernel,rfl,by decide +kernel,by decide +kernel⟩
theorem fg:ax ["board","number","target","phones","members","place"] ["board","number","target","phones"] (ah bw):=⟨rfl,rfl,rfl,by decide +kernel,rfl,by decide +kernel,by decide +kernel⟩
theorem g9:ax ["board","number","end","word"] ["board","number","end"] (ah bS):=⟨rfl,rfl,rfl,by decide +kernel,rfl,by decide +kernel,by decide +kernel⟩
theorem gy:ax ["board","number","call","told","end","steps","last"] ["board","number"] (ah fu):=⟨rfl,rfl,rfl,by decide +kernel,rfl,by decide +kernel,by decide +kernel⟩
theorem je:ax ["board","phone","target","number"] ["board","phone","target"] (ah cF):=⟨rfl,rfl,rfl,by decide +kernel,rfl,by decide +kernel,by decide +kernel⟩
theorem kF:ax ["board","phone","number","call"] ["board","phone","number"] (ah dv):=⟨rfl,rfl,rfl,by decide +kernel,rfl,by decide +kernel,by decide +kernel⟩
theorem iE:ax ["board","call","wishes"] ["board","call"] (ah cw):=⟨rfl,rfl,rfl,by decide +kernel,rfl,by decide +kernel,by decide +kernel⟩
theorem dO:ax ["board","number","call","fits"] ["board"] (ah bB):=⟨rfl,rfl,rfl,by decide +kernel,rfl,by decide +kernel,by decide +kernel⟩
theorem eG:ax ["board","deed","word","phone","number","call","kept","others"] ["board","deed"] (ah cU):=⟨rfl,rfl,rfl,by decide +kernel,rfl,by decide +kernel,by decide +kernel⟩
theorem uC:ax ["board","deed","word"] ["board","deed"] (ah iC):=⟨rfl,rfl,rfl,by decide +kernel,rfl,by decide +kernel,by decide +kernel⟩
theorem sS:ax ["board","deed","word","begun"] ["board","deed"] (ah lN):=⟨rfl,rfl,rfl,by decide +kernel,rfl,by decide +kernel,by decide +kernel⟩
theorem vi:ax ["holds","words"] ["holds","words"] (ah gj):=⟨rfl,rfl,rfl,by decide +kernel,rfl,by decide +kernel,by decide +kernel⟩
theorem qh:ax ["text"] ["text"] (ah dt):=⟨rfl,rfl,rfl,by decide +kernel,rfl,by decide +kernel,by decide +kernel⟩
theorem lZ:ax ["things"] ["things"] (ah ck):=⟨rfl,rfl,rfl,by decide +kernel,rfl,by decide +kernel,by decide +kernel⟩
theorem mT:ax ["chosen","known","most"] ["chosen","known","most"] (ah cA):=⟨rfl,rfl,rfl,by decide +kernel,rfl,by decide +kernel,by decide +kernel⟩
theorem d9:ax ["phones","name","lines","rank"] ["phones"] (ah bJ):=⟨rfl,rfl,rfl,by decide +kernel,rfl,by decide +kernel,by decide +kernel⟩
theorem eA:ax ["groups","phone_names","name","manner","members"] ["groups","phone_names"] (ah bK):=⟨rfl,rfl,rfl,by decide +kernel,rfl,by decide +kernel,by decide +kernel⟩
theorem fD:ax ["wishes","phone_names","names","on","wish"] ["wishes","phone_names","names"] (ah bF):=⟨rfl,rfl,rfl,by decide +kernel,rfl,by decide +kernel,by decide +kernel⟩
theorem gi:ax ["phones","groups","wishes","phone_names","names"] ["phones","groups","wishes"] (ah bZ):=⟨rfl,rfl,rfl,by decide +kernel,rfl,by decide +kernel,by decide +kernel⟩
theorem sf:ax ["_law_script","_law_k"] ["_law_script","_law_k"] (ah dZ):=⟨rfl,rfl,rfl,by decide +kernel,rfl,by decide +kernel,by decide +kernel⟩
theorem nV:ax ["_law_cell","_law_factor","_law_many"] ["_law_cell","_law_factor","_law_many"] (ah cR):=⟨rfl,rfl,rfl,by decide +kernel,rfl,by decide +kernel,by decide +kernel⟩
theorem eK:ax ["_law_seed","_law_which","_law_letters","_law_size","_law_place","_law_rest","_law_sign"] ["_law_seed","_law_which"] (ah cS):=⟨rfl,rfl,rfl,by decide +kernel,rfl,by decide +kernel,by decide +kernel⟩
theorem gX:ax ["_law_row","_law_cell","_law_most","_law_first","_law_size"] ["_law_row","_law_cell","_law_most"] (ah cW):=⟨rfl,rfl,rfl,by decide +kernel,rfl,by decide +kernel,by decide +kernel⟩
theorem fA:ax ["_law_seed","_law_most","_law_phones_here","_law_k","_law_lines"] ["_law_seed","_law_most"] (ah cq):=⟨rfl,rfl,rfl,by decide +kernel,rfl,by decide +kernel,by decide +kernel⟩
theorem ib:ax ["_law_board","_law_deed","_law_fine"] ["_law_board","_law_deed"] (ah cV):=⟨rfl,rfl,rfl,by decide +kernel,rfl,by decide +kernel,by decide +kernel⟩
theorem rC:ax ["_law_call","_law_phone"] ["_law_call","_law_phone"] (ah dY):=⟨rfl,rfl,rfl,by decide +kernel,rfl,by decide +kernel,by decide +kernel⟩
theorem jR:ax ["_law_board","_law_phones_here","_law_name","_law_lines"] ["_law_board","_law_phones_here","_law_name"] (ah cT):=⟨rfl,rfl,rfl,by decide +kernel,rfl,by decide +kernel,by decide +kernel⟩
theorem eC:ax ["_law_board","_law_phones_here","_law_group","_law_places","_law_caller","_law_name","_law_manner","_law_members","_law_row","_law_free_here"] ["_law_board","_law_phones_here","_law_group","_law_places","_law_caller"] (ah dw):=⟨rfl,rfl,rfl,by decide +kernel,rfl,by decide +kernel,by decide +kernel⟩
theorem fH:ax ["_law_board","_law_cell","_law_own","_law_k","_law_a"] ["_law_board","_law_cell","_law_own"] (ah cE):=⟨rfl,rfl,rfl,by decide +kernel,rfl,by decide +kernel,by decide +kernel⟩
theorem fi:ax ["_law_script","_law_seed","_law_phones_here","_law_own","_law_groups","_law_board","_law_places","_law_k","_law_cell","_law_caller","_law_group","_law_due_here"] ["_law_script"] (ah iD):=⟨rfl,rfl,rfl,by decide +kernel,rfl,by decide +kernel,by decide +kernel⟩
theorem lD:ax ["self","word"] ["self","word"] (ah bP):=⟨rfl,rfl,rfl,by decide +kernel,rfl,by decide +kernel,by decide +kernel⟩
theorem lM:ax ["self","plan","hour"] ["self","plan","hour"] (ah ce):=⟨rfl,rfl,rfl,by decide +kernel,rfl,by decide +kernel,by decide +kernel⟩
theorem mZ:ax ["self","phones","groups","wishes"] ["self","phones","groups","wishes"] (ah cG):=⟨rfl,rfl,rfl,by decide +kernel,rfl,by decide +kernel,by decide +kernel⟩
theorem iA:ax ["self"] ["self"] (ah aW):=⟨rfl,rfl,rfl,by decide +kernel,rfl,by decide +kernel,by decide +kernel⟩
theorem ii:ax ["self","event","word"] ["self","event"] (ah bU):=⟨rfl,rfl,rfl,by decide +kernel,rfl,by decide +kernel,by decide +kernel⟩
theorem jr:ax ["self","caller","target"] ["self","caller","target"] (ah bp):=⟨rfl,rfl,rfl,by decide +kernel,rfl,by decide +kernel,by decide +kernel⟩
theorem kS:ax ["self","name"] ["self","name"] (ah bT):=⟨rfl,rfl,rfl,by decide +kernel,rfl,by decide +kernel,by decide +kernel⟩
theorem jf:ax ["self","name"] ["self","name"] (ah bq):=⟨rfl,rfl,rfl,by decide +kernel,rfl,by decide +kernel,by decide +kernel⟩
theorem lG:ax ["self"] ["self"] (ah cb):=⟨rfl,rfl,rfl,by decide +kernel,rfl,by decide +kernel,by decide +kernel⟩
theorem jK:ax ["self","phone"] ["self","phone"] (ah bz):=⟨rfl,rfl,rfl,by decide +kernel,rfl,by decide +kernel,by decide +kernel⟩
theorem ng:ax ["self","caller"] ["self","caller"] (ah cD):=⟨rfl,rfl,rfl,by decide +kernel,rfl,by decide +kernel,by decide +kernel⟩
theorem iX:ax ["self","phone"] ["self","phone"] (ah be):=⟨rfl,rfl,rfl,by decide +kernel,rfl,by decide +kernel,by decide +kernel⟩
theorem iB:ax ["self","phone"] ["self","phone"] (ah aY):=⟨rfl,rfl,rfl,by decide +kernel,rfl,by decide +kernel,by decide +kernel⟩
theorem jA:ax ["self","leg"] ["self","leg"] (ah bx):=⟨rfl,rfl,rfl,by decide +kernel,rfl,by decide +kernel,by decide +kernel⟩
theorem fP:ax ["self","call"] ["self"] (ah bg):=⟨rfl,rfl,rfl,by decide +kernel,rfl,by decide +kernel,by decide +kernel⟩
theorem kO:ax ["self","phone"] ["self","phone"] (ah bR):=⟨rfl,rfl,rfl,by decide +kernel,rfl,by decide +kernel,by decide +kernel⟩
theorem jL:ax ["self","phone"] ["self","phone"] (ah bA):=⟨rfl,rfl,rfl,by decide +kernel,rfl,by decide +kernel,by decide +kernel⟩
theorem lL:ax ["self","phone"] ["self","phone"] (ah cc):=⟨rfl,rfl,rfl,by decide +kernel,rfl,by decide +kernel,by decide +kernel⟩
theorem lX:ax ["self","phone"] ["self","phone"] (ah cf):=⟨rfl,rfl,rfl,by decide +kernel,rfl,by decide +kernel,by decide +kernel⟩
theorem gD:ax ["self","phone"] ["self","phone"] (ah aO):=⟨rfl,rfl,rfl,by decide +kernel,rfl,by decide +kernel,by decide +kernel⟩
theorem lH:ax ["self","phone"] ["self","phone"] (ah b9):=⟨rfl,rfl,rfl,by decide +kernel,rfl,by decide +kernel,by decide +kernel⟩
theorem ot:ax ["self","phone"] ["self","phone"] (ah cY):=⟨rfl,rfl,rfl,by decide +kernel,rfl,by decide +kernel,by decide +kernel⟩
theorem iM:ax ["self","phone"] ["self","phone"] (ah bf):=⟨rfl,rfl,rfl,by decide +kernel,rfl,by decide +kernel,by decide +kernel⟩
structure Ad where
 f_fitting:Addr
 fd_fitting:FuncData
 f_rung_phones:Addr
 fd_rung_phones:FuncData
 f_end_without_wish:Addr
 fd_end_without_wish:FuncData
 f_route:Addr
 fd_route:FuncData
 f_place_of_true:Addr
 fd_place_of_true:FuncData
 f_end_call:Addr
 fd_end_call:FuncData
 f_drop_phone:Addr
 fd_drop_phone:FuncData
 f_change_call:Addr
 fd_change_call:FuncData
 f_word_for_idling:Addr
 fd_word_for_idling:FuncData
 f_word_for_call:Addr
 fd_word_for_call:FuncData
 f_suits:Addr
 fd_suits:FuncData
 f_word_for_numbers:Addr
 fd_word_for_numbers:FuncData
 f_refusal:Addr
 fd_refusal:FuncData
 f_take_steps:Addr
 fd_take_steps:FuncData
 f_start_ringing:Addr
 fd_start_ringing:FuncData
 f_come_to_end:Addr
 fd_come_to_end:FuncData
 f_go_on:Addr
 fd_go_on:FuncData
 f_make_call:Addr
 fd_make_call:FuncData
 f_hang_up:Addr
 fd_hang_up:FuncData
 f_due_wishes:Addr
 fd_due_wishes:FuncData
 f_let_turn_pass:Addr
 fd_let_turn_pass:FuncData
 f_event_of:Addr
 fd_event_of:FuncData
 f_act:Addr
 fd_act:FuncData
 f_do:Addr
 fd_do:FuncData
 f_need:Addr
 fd_need:FuncData
 f_is_name:Addr
 fd_is_name:FuncData
 f_all_unlike:Addr
 fd_all_unlike:FuncData
 f_is_choice:Addr
 fd_is_choice:FuncData
 f_check_phones:Addr
 fd_check_phones:FuncData
 f_check_groups:Addr
 fd_check_groups:FuncData
 f_check_wishes:Addr
 fd_check_wishes:FuncData
 f_check_plan:Addr
 fd_check_plan:FuncData
 f_law_at:Addr
 fd_law_at:FuncData
 f_law_draw:Addr
 fd_law_draw:FuncData
 f_law_word:Addr
 fd_law_word:FuncData
 f_law_some:Addr
 fd_law_some:FuncData
 f_law_phones:Addr
 fd_law_phones:FuncData
 f_law_done:Addr
 fd_law_done:FuncData
 f_law_in:Addr
 fd_law_in:FuncData
 f_law_free:Addr
 fd_law_free:FuncData
 f_law_due:Addr
 fd_law_due:FuncData
 f_law_other:Addr
 fd_law_other:FuncData
 f_law:Addr
 fd_law:FuncData
 f_NoDeed_init:Addr
 fd_NoDeed_init:FuncData
 f_Board_init:Addr
 fd_Board_init:FuncData
 f_Plan_init:Addr
 fd_Plan_init:FuncData
 f_Plan_phone_names:Addr
 fd_Plan_phone_names:FuncData
 f_Board_apply:Addr
 fd_Board_apply:FuncData
 f_Board_ringable:Addr
 fd_Board_ringable:FuncData
 f_Plan_manner:Addr
 fd_Plan_manner:FuncData
 f_Plan_phones_of:Addr
 fd_Plan_phones_of:FuncData
 f_Plan_names:Addr
 fd_Plan_names:FuncData
 f_Board_is_free:Addr
 fd_Board_is_free:FuncData
 f_Call_init:Addr
 fd_Call_init:FuncData
 f_Call_waits_with:Addr
 fd_Call_waits_with:FuncData
 f_Call_is_tried_by:Addr
 fd_Call_is_tried_by:FuncData
 f_Board_add_leg:Addr
 fd_Board_add_leg:FuncData
 f_Board_pass_turn:Addr
 fd_Board_pass_turn:FuncData
 f_Board_bound:Addr
 fd_Board_bound:FuncData
 f_Board_calling:Addr
 fd_Board_calling:FuncData
 f_Board_used:Addr
 fd_Board_used:FuncData
 f_Plan_lines:Addr
 fd_Plan_lines:FuncData
 f_Call_can_be_left_by:Addr
 fd_Call_can_be_left_by:FuncData
 f_Call_binds:Addr
 fd_Call_binds:FuncData
 f_Call_has:Addr
 fd_Call_has:FuncData
 f_Call_talks_with:Addr
 fd_Call_talks_with:FuncData
 c_Call:Addr
 c_Board:Addr
 c_Plan:Addr
 c_CallError:Addr
 c_NoDeed:Addr
structure Gl (K:PySem.W.Frag) (mg:Str→Option Value) (a:Ad):Prop where
 mg_fitting:mg "fitting"=some (.ref a.f_fitting)
 kp_fitting:PySem.W.keepIn K (.ref a.f_fitting)=true
 fn_fitting:Fun K "fitting" "fitting" du a.f_fitting a.fd_fitting
 b_fitting:aJ K a.fd_fitting ["board","caller","target"] []
 mg_rung_phones:mg "rung_phones"=some (.ref a.f_rung_phones)
 kp_rung_phones:PySem.W.keepIn K (.ref a.f_rung_phones)=true
 fn_rung_phones:Fun K "rung_phones" "rung_phones" bO a.f_rung_phones a.fd_rung_phones
 b_rung_phones:aJ K a.fd_rung_phones ["board","caller","target"] []
 mg_end_without_wish:mg "end_without_wish"=some (.ref a.f_end_without_wish)
 kp_end_without_wish:PySem.W.keepIn K (.ref a.f_end_without_wish)=true
 fn_end_without_wish:Fun K "end_without_wish" "end_without_wish" aX a.f_end_without_wish a.fd_end_without_wish
 b_end_without_wish:aJ K a.fd_end_without_wish ["board","caller","target"] []
 mg_route:mg "route"=some (.ref a.f_route)
 kp_route:PySem.W.keepIn K (.ref a.f_route)=true
 fn_route:Fun K "route" "route" ft a.f_route a.fd_route
 b_route:aJ K a.fd_route ["board","caller","target","way"] []
 mg_place_of_true:mg "place_of_true"=some (.ref a.f_place_of_true)
 kp_place_of_true:PySem.W.keepIn K (.ref a.f_place_of_true)=true
 fn_place_of_true:Fun K "place_of_true" "place_of_true" bv a.f_place_of_true a.fd_place_of_true
 b_place_of_true:aJ K a.fd_place_of_true ["answers"] []
 mg_end_call:mg "end_call"=some (.ref a.f_end_call)
 kp_end_call:PySem.W.keepIn K (.ref a.f_end_call)=true
 fn_end_call:Fun K "end_call" "end_call" cX a.f_end_call a.fd_end_call
 b_end_call:aJ K a.fd_end_call ["call","word"] []
 mg_drop_phone:mg "drop_phone"=some (.ref a.f_drop_phone)
 kp_drop_phone:PySem.W.keepIn K (.ref a.f_drop_phone)=true
 fn_drop_phone:Fun K "drop_phone" "drop_phone" cj a.f_drop_phone a.fd_drop_phone
 b_drop_phone:aJ K a.fd_drop_phone ["call","phone"] []
 mg_change_call:mg "change_call"=some (.ref a.f_change_call)
 kp_change_call:PySem.W.keepIn K (.ref a.f_change_call)=true
 fn_change_call:Fun K "change_call" "change_call" bQ a.f_change_call a.fd_change_call
 b_change_call:aJ K a.fd_change_call ["call","event"] []
 mg_word_for_idling:mg "word_for_idling"=some (.ref a.f_word_for_idling)
 kp_word_for_idling:PySem.W.keepIn K (.ref a.f_word_for_idling)=true
 fn_word_for_idling:Fun K "word_for_idling" "word_for_idling" bh a.f_word_for_idling a.fd_word_for_idling
 b_word_for_idling:aJ K a.fd_word_for_idling ["board","phone"] []
 mg_word_for_call:mg "word_for_call"=some (.ref a.f_word_for_call)
 kp_word_for_call:PySem.W.keepIn K (.ref a.f_word_for_call)=true
 fn_word_for_call:Fun K "word_for_call" "word_for_call" bu a.f_word_for_call a.fd_word_for_call
 b_word_for_call:aJ K a.fd_word_for_call ["board","phone","target"] []
 mg_suits:mg "suits"=some (.ref a.f_suits)
 kp_suits:PySem.W.keepIn K (.ref a.f_suits)=true
 fn_suits:Fun K "suits" "suits" fq a.f_suits a.fd_suits
 b_suits:aJ K a.fd_suits ["word","phone","calls"] []
 mg_word_for_numbers:mg "word_for_numbers"=some (.ref a.f_word_for_numbers)
 kp_word_for_numbers:PySem.W.keepIn K (.ref a.f_word_for_numbers)=true
 fn_word_for_numbers:Fun K "word_for_numbers" "word_for_numbers" aV a.f_word_for_numbers a.fd_word_for_numbers
 b_word_for_numbers:aJ K a.fd_word_for_numbers ["board","word","phone","numbers"] []
 mg_refusal:mg "refusal"=some (.ref a.f_refusal)
 kp_refusal:PySem.W.keepIn K (.ref a.f_refusal)=true
 fn_refusal:Fun K "refusal" "refusal" dn a.f_refusal a.fd_refusal
 b_refusal:aJ K a.fd_refusal ["board","deed"] []
 mg_take_steps:mg "take_steps"=some (.ref a.f_take_steps)
 kp_take_steps:PySem.W.keepIn K (.ref a.f_take_steps)=true
 fn_take_steps:Fun K "take_steps" "take_steps" cg a.f_take_steps a.fd_take_steps
 b_take_steps:aJ K a.fd_take_steps ["board","number","steps"] []
 mg_start_ringing:mg "start_ringing"=some (.ref a.f_start_ringing)
 kp_start_ringing:PySem.W.keepIn K (.ref a.f_start_ringing)=true
 fn_start_ringing:Fun K "start_ringing" "start_ringing" bw a.f_start_ringing a.fd_start_ringing
 b_start_ringing:aJ K a.fd_start_ringing ["board","number","target","phones"] []
 mg_come_to_end:mg "come_to_end"=some (.ref a.f_come_to_end)
 kp_come_to_end:PySem.W.keepIn K (.ref a.f_come_to_end)=true
 fn_come_to_end:Fun K "come_to_end" "come_to_end" bS a.f_come_to_end a.fd_come_to_end
 b_come_to_end:aJ K a.fd_come_to_end ["board","number","end"] []
 mg_go_on:mg "go_on"=some (.ref a.f_go_on)
 kp_go_on:PySem.W.keepIn K (.ref a.f_go_on)=true
 fn_go_on:Fun K "go_on" "go_on" fu a.f_go_on a.fd_go_on
 b_go_on:aJ K a.fd_go_on ["board","number"] []
 mg_make_call:mg "make_call"=some (.ref a.f_make_call)
 kp_make_call:PySem.W.keepIn K (.ref a.f_make_call)=true
 fn_make_call:Fun K "make_call" "make_call" cF a.f_make_call a.fd_make_call
 b_make_call:aJ K a.fd_make_call ["board","phone","target"] []
 mg_hang_up:mg "hang_up"=some (.ref a.f_hang_up)
 kp_hang_up:PySem.W.keepIn K (.ref a.f_hang_up)=true
 fn_hang_up:Fun K "hang_up" "hang_up" dv a.f_hang_up a.fd_hang_up
 b_hang_up:aJ K a.fd_hang_up ["board","phone","number"] []
 mg_due_wishes:mg "due_wishes"=some (.ref a.f_due_wishes)
 kp_due_wishes:PySem.W.keepIn K (.ref a.f_due_wishes)=true
 fn_due_wishes:Fun K "due_wishes" "due_wishes" cw a.f_due_wishes a.fd_due_wishes
 b_due_wishes:aJ K a.fd_due_wishes ["board","call"] []
 mg_let_turn_pass:mg "let_turn_pass"=some (.ref a.f_let_turn_pass)
 kp_let_turn_pass:PySem.W.keepIn K (.ref a.f_let_turn_pass)=true
 fn_let_turn_pass:Fun K "let_turn_pass" "let_turn_pass" bB a.f_let_turn_pass a.fd_let_turn_pass
 b_let_turn_pass:aJ K a.fd_let_turn_pass ["board"] []
 mg_event_of:mg "event_of"=some (.ref a.f_event_of)
 kp_event_of:PySem.W.keepIn K (.ref a.f_event_of)=true
 fn_event_of:Fun K "event_of" "event_of" cU a.f_event_of a.fd_event_of
 b_event_of:aJ K a.fd_event_of ["board","deed"] []
 mg_act:mg "act"=some (.ref a.f_act)
 kp_act:PySem.W.keepIn K (.ref a.f_act)=true
 fn_act:Fun K "act" "act" iC a.f_act a.fd_act
 b_act:aJ K a.fd_act ["board","deed"] []
 mg_do:mg "do"=some (.ref a.f_do)
 kp_do:PySem.W.keepIn K (.ref a.f_do)=true
 fn_do:Fun K "do" "do" lN a.f_do a.fd_do
 b_do:aJ K a.fd_do ["board","deed"] []
 mg_need:mg "need"=some (.ref a.f_need)
 kp_need:PySem.W.keepIn K (.ref a.f_need)=true
 fn_need:Fun K "need" "need" gj a.f_need a.fd_need
 b_need:aJ K a.fd_need ["holds","words"] []
 mg_is_name:mg "is_name"=some (.ref a.f_is_name)
 kp_is_name:PySem.W.keepIn K (.ref a.f_is_name)=true
 fn_is_name:Fun K "is_name" "is_name" dt a.f_is_name a.fd_is_name
 b_is_name:aJ K a.fd_is_name ["text"] []
 mg_all_unlike:mg "all_unlike"=some (.ref a.f_all_unlike)
 kp_all_unlike:PySem.W.keepIn K (.ref a.f_all_unlike)=true
 fn_all_unlike:Fun K "all_unlike" "all_unlike" ck a.f_all_unlike a.fd_all_unlike
 b_all_unlike:aJ K a.fd_all_unlike ["things"] []
 mg_is_choice:mg "is_choice"=some (.ref a.f_is_choice)
 kp_is_choice:PySem.W.keepIn K (.ref a.f_is_choice)=true
 fn_is_choice:Fun K "is_choice" "is_choice" cA a.f_is_choice a.fd_is_choice
 b_is_choice:aJ K a.fd_is_choice ["chosen","known","most"] []
 mg_check_phones:mg "check_phones"=some (.ref a.f_check_phones)
 kp_check_phones:PySem.W.keepIn K (.ref a.f_check_phones)=true
 fn_check_phones:Fun K "check_phones" "check_phones" bJ a.f_check_phones a.fd_check_phones
 b_check_phones:aJ K a.fd_check_phones ["phones"] []
 mg_check_groups:mg "check_groups"=some (.ref a.f_check_groups)
 kp_check_groups:PySem.W.keepIn K (.ref a.f_check_groups)=true
 fn_check_groups:Fun K "check_groups" "check_groups" bK a.f_check_groups a.fd_check_groups
 b_check_groups:aJ K a.fd_check_groups ["groups","phone_names"] []
 mg_check_wishes:mg "check_wishes"=some (.ref a.f_check_wishes)
 kp_check_wishes:PySem.W.keepIn K (.ref a.f_check_wishes)=true
 fn_check_wishes:Fun K "check_wishes" "check_wishes" bF a.f_check_wishes a.fd_check_wishes
 b_check_wishes:aJ K a.fd_check_wishes ["wishes","phone_names","names"] []
 mg_check_plan:mg "check_plan"=some (.ref a.f_check_plan)
 kp_check_plan:PySem.W.keepIn K (.ref a.f_check_plan)=true
 fn_check_plan:Fun K "check_plan" "check_plan" bZ a.f_check_plan a.fd_check_plan
 b_check_plan:aJ K a.fd_check_plan ["phones","groups","wishes"] []
 mg_law_at:mg "_law_at"=some (.ref a.f_law_at)
 kp_law_at:PySem.W.keepIn K (.ref a.f_law_at)=true
 fn_law_at:Fun K "_law_at" "_law_at" dZ a.f_law_at a.fd_law_at
 b_law_at:aJ K a.fd_law_at ["_law_script","_law_k"] []
 mg_law_draw:mg "_law_draw"=some (.ref a.f_law_draw)
 kp_law_draw:PySem.W.keepIn K (.ref a.f_law_draw)=true
 fn_law_draw:Fun K "_law_draw" "_law_draw" cR a.f_law_draw a.fd_law_draw
 b_law_draw:aJ K a.fd_law_draw ["_law_cell","_law_factor","_law_many"] []
 mg_law_word:mg "_law_word"=some (.ref a.f_law_word)
 kp_law_word:PySem.W.keepIn K (.ref a.f_law_word)=true
 fn_law_word:Fun K "_law_word" "_law_word" cS a.f_law_word a.fd_law_word
 b_law_word:aJ K a.fd_law_word ["_law_seed","_law_which"] []
 mg_law_some:mg "_law_some"=some (.ref a.f_law_some)
 kp_law_some:PySem.W.keepIn K (.ref a.f_law_some)=true
 fn_law_some:Fun K "_law_some" "_law_some" cW a.f_law_some a.fd_law_some
 b_law_some:aJ K a.fd_law_some ["_law_row","_law_cell","_law_most"] []
 mg_law_phones:mg "_law_phones"=some (.ref a.f_law_phones)
 kp_law_phones:PySem.W.keepIn K (.ref a.f_law_phones)=true
 fn_law_phones:Fun K "_law_phones" "_law_phones" cq a.f_law_phones a.fd_law_phones
 b_law_phones:aJ K a.fd_law_phones ["_law_seed","_law_most"] []
 mg_law_done:mg "_law_done"=some (.ref a.f_law_done)
 kp_law_done:PySem.W.keepIn K (.ref a.f_law_done)=true
 fn_law_done:Fun K "_law_done" "_law_done" cV a.f_law_done a.fd_law_done
 b_law_done:aJ K a.fd_law_done ["_law_board","_law_deed"] []
 mg_law_in:mg "_law_in"=some (.ref a.f_law_in)
 kp_law_in:PySem.W.keepIn K (.ref a.f_law_in)=true
 fn_law_in:Fun K "_law_in" "_law_in" dY a.f_law_in a.fd_law_in
 b_law_in:aJ K a.fd_law_in ["_law_call","_law_phone"] []
 mg_law_free:mg "_law_free"=some (.ref a.f_law_free)
 kp_law_free:PySem.W.keepIn K (.ref a.f_law_free)=true
 fn_law_free:Fun K "_law_free" "_law_free" cT a.f_law_free a.fd_law_free
 b_law_free:aJ K a.fd_law_free ["_law_board","_law_phones_here","_law_name"] []
 mg_law_due:mg "_law_due"=some (.ref a.f_law_due)
 kp_law_due:PySem.W.keepIn K (.ref a.f_law_due)=true
 fn_law_due:Fun K "_law_due" "_law_due" dw a.f_law_due a.fd_law_due
 b_law_due:aJ K a.fd_law_due ["_law_board","_law_phones_here","_law_group","_law_places","_law_caller"] []
 mg_law_other:mg "_law_other"=some (.ref a.f_law_other)
 kp_law_other:PySem.W.keepIn K (.ref a.f_law_other)=true
 fn_law_other:Fun K "_law_other" "_law_other" cE a.f_law_other a.fd_law_other
 b_law_other:aJ K a.fd_law_other ["_law_board","_law_cell","_law_own"] []
 mg_law:mg "law"=some (.ref a.f_law)
 kp_law:PySem.W.keepIn K (.ref a.f_law)=true
 fn_law:Fun K "law" "law" iD a.f_law a.fd_law
 b_law:aJ K a.fd_law ["_law_script"] []
 kp_NoDeed_init:PySem.W.keepIn K (.ref a.f_NoDeed_init)=true
 fn_NoDeed_init:Fun K "__init__" "NoDeed.__init__" bP a.f_NoDeed_init a.fd_NoDeed_init
 b_NoDeed_init:aJ K a.fd_NoDeed_init ["self","word"] []
 kp_Board_init:PySem.W.keepIn K (.ref a.f_Board_init)=true
 fn_Board_init:Fun K "__init__" "Board.__init__" ce a.f_Board_init a.fd_Board_init
 b_Board_init:aJ K a.fd_Board_init ["self","plan","hour"] []
 kp_Plan_init:PySem.W.keepIn K (.ref a.f_Plan_init)=true
 fn_Plan_init:Fun K "__init__" "Plan.__init__" cG a.f_Plan_init a.fd_Plan_init
 b_Plan_init:aJ K a.fd_Plan_init ["self","phones","groups","wishes"] []
 kp_Plan_phone_names:PySem.W.keepIn K (.ref a.f_Plan_phone_names)=true
 fn_Plan_phone_names:Fun K "phone_names" "Plan.phone_names" aW a.f_Plan_phone_names a.fd_Plan_phone_names
 b_Plan_phone_names:aJ K a.fd_Plan_phone_names ["self"] []
 kp_Board_apply:PySem.W.keepIn K (.ref a.f_Board_apply)=true
 fn_Board_apply:Fun K "apply" "Board.apply" bU a.f_Board_apply a.fd_Board_apply
 b_Board_apply:aJ K a.fd_Board_apply ["self","event"] []
 kp_Board_ringable:PySem.W.keepIn K (.ref a.f_Board_ringable)=true
 fn_Board_ringable:Fun K "ringable" "Board.ringable" bp a.f_Board_ringable a.fd_Board_ringable
 b_Board_ringable:aJ K a.fd_Board_ringable ["self","caller","target"] []
 kp_Plan_manner:PySem.W.keepIn K (.ref a.f_Plan_manner)=true
 fn_Plan_manner:Fun K "manner" "Plan.manner" bT a.f_Plan_manner a.fd_Plan_manner
 b_Plan_manner:aJ K a.fd_Plan_manner ["self","name"] []
 kp_Plan_phones_of:PySem.W.keepIn K (.ref a.f_Plan_phones_of)=true
 fn_Plan_phones_of:Fun K "phones_of" "Plan.phones_of" bq a.f_Plan_phones_of a.fd_Plan_phones_of
 b_Plan_phones_of:aJ K a.fd_Plan_phones_of ["self","name"] []
 kp_Plan_names:PySem.W.keepIn K (.ref a.f_Plan_names)=true
 fn_Plan_names:Fun K "names" "Plan.names" cb a.f_Plan_names a.fd_Plan_names
 b_Plan_names:aJ K a.fd_Plan_names ["self"] []
 kp_Board_is_free:PySem.W.keepIn K (.ref a.f_Board_is_free)=true
 fn_Board_is_free:Fun K "is_free" "Board.is_free" bz a.f_Board_is_free a.fd_Board_is_free
 b_Board_is_free:aJ K a.fd_Board_is_free ["self","phone"] []
 kp_Call_init:PySem.W.keepIn K (.ref a.f_Call_init)=true
 fn_Call_init:Fun K "__init__" "Call.__init__" cD a.f_Call_init a.fd_Call_init
 b_Call_init:aJ K a.fd_Call_init ["self","caller"] []
 kp_Call_waits_with:PySem.W.keepIn K (.ref a.f_Call_waits_with)=true
 fn_Call_waits_with:Fun K "waits_with" "Call.waits_with" be a.f_Call_waits_with a.fd_Call_waits_with
 b_Call_waits_with:aJ K a.fd_Call_waits_with ["self","phone"] []
 kp_Call_is_tried_by:PySem.W.keepIn K (.ref a.f_Call_is_tried_by)=true
 fn_Call_is_tried_by:Fun K "is_tried_by" "Call.is_tried_by" aY a.f_Call_is_tried_by a.fd_Call_is_tried_by
 b_Call_is_tried_by:aJ K a.fd_Call_is_tried_by ["self","phone"] []
 kp_Board_add_leg:PySem.W.keepIn K (.ref a.f_Board_add_leg)=true
 fn_Board_add_leg:Fun K "add_leg" "Board.add_leg" bx a.f_Board_add_leg a.fd_Board_add_leg
 b_Board_add_leg:aJ K a.fd_Board_add_leg ["self","leg"] []
 kp_Board_pass_turn:PySem.W.keepIn K (.ref a.f_Board_pass_turn)=true
 fn_Board_pass_turn:Fun K "pass_turn" "Board.pass_turn" bg a.f_Board_pass_turn a.fd_Board_pass_turn
 b_Board_pass_turn:aJ K a.fd_Board_pass_turn ["self"] []
 kp_Board_bound:PySem.W.keepIn K (.ref a.f_Board_bound)=true
 fn_Board_bound:Fun K "bound" "Board.bound" bR a.f_Board_bound a.fd_Board_bound
 b_Board_bound:aJ K a.fd_Board_bound ["self","phone"] []
 kp_Board_calling:PySem.W.keepIn K (.ref a.f_Board_calling)=true
 fn_Board_calling:Fun K "calling" "Board.calling" bA a.f_Board_calling a.fd_Board_calling
 b_Board_calling:aJ K a.fd_Board_calling ["self","phone"] []
 kp_Board_used:PySem.W.keepIn K (.ref a.f_Board_used)=true
 fn_Board_used:Fun K "used" "Board.used" cc a.f_Board_used a.fd_Board_used
 b_Board_used:aJ K a.fd_Board_used ["self","phone"] []
 kp_Plan_lines:PySem.W.keepIn K (.ref a.f_Plan_lines)=true
 fn_Plan_lines:Fun K "lines" "Plan.lines" cf a.f_Plan_lines a.fd_Plan_lines
 b_Plan_lines:aJ K a.fd_Plan_lines ["self","phone"] []
 kp_Call_can_be_left_by:PySem.W.keepIn K (.ref a.f_Call_can_be_left_by)=true
 fn_Call_can_be_left_by:Fun K "can_be_left_by" "Call.can_be_left_by" aO a.f_Call_can_be_left_by a.fd_Call_can_be_left_by
 b_Call_can_be_left_by:aJ K a.fd_Call_can_be_left_by ["self","phone"] []
 kp_Call_binds:PySem.W.keepIn K (.ref a.f_Call_binds)=true
 fn_Call_binds:Fun K "binds" "Call.binds" b9 a.f_Call_binds a.fd_Call_binds
 b_Call_binds:aJ K a.fd_Call_binds ["self","phone"] []
 kp_Call_has:PySem.W.keepIn K (.ref a.f_Call_has)=true
 fn_Call_has:Fun K "has" "Call.has" cY a.f_Call_has a.fd_Call_has
 b_Call_has:aJ K a.fd_Call_has ["self","phone"] []
 kp_Call_talks_with:PySem.W.keepIn K (.ref a.f_Call_talks_with)=true
 fn_Call_talks_with:Fun K "talks_with" "Call.talks_with" bf a.f_Call_talks_with a.fd_Call_talks_with
 b_Call_talks_with:aJ K a.fd_Call_talks_with ["self","phone"] []
 mg_Call:mg "Call"=some (.ref a.c_Call)
 cl_Call:Cls K a.c_Call
 mg_Board:mg "Board"=some (.ref a.c_Board)
 cl_Board:Cls K a.c_Board
 mg_Plan:mg "Plan"=some (.ref a.c_Plan)
 cl_Plan:Cls K a.c_Plan
 mg_CallError:mg "CallError"=some (.ref a.c_CallError)
 mg_NoDeed:mg "NoDeed"=some (.ref a.c_NoDeed)
 xn_NoDeed:qJ K a.c_NoDeed a.f_NoDeed_init
 xs_NoDeed:iT K a.c_NoDeed "word"
 xf_NoDeed:PySem.W.findIn K (.ref a.c_NoDeed) "__init__"=some (some (.ref a.f_NoDeed_init))
 ex_NoDeed_NoDeed:PySem.W.exmOne K (.ref a.c_NoDeed) (.ref a.c_NoDeed)=some true
 mk_Board:Mk K a.c_Board a.f_Board_init
 mk_Plan:Mk K a.c_Plan a.f_Plan_init
 mk_Call:Mk K a.c_Call a.f_Call_init
 mt_Plan_phone_names:gu K a.c_Plan "phone_names" a.f_Plan_phone_names
 mt_Board_apply:gu K a.c_Board "apply" a.f_Board_apply
 mt_Board_ringable:gu K a.c_Board "ringable" a.f_Board_ringable
 mt_Plan_manner:gu K a.c_Plan "manner" a.f_Plan_manner
 mt_Plan_phones_of:gu K a.c_Plan "phones_of" a.f_Plan_phones_of
 mt_Plan_names:gu K a.c_Plan "names" a.f_Plan_names
 mt_Board_is_free:gu K a.c_Board "is_free" a.f_Board_is_free
 mt_Call_waits_with:gu K a.c_Call "waits_with" a.f_Call_waits_with
 mt_Call_is_tried_by:gu K a.c_Call "is_tried_by" a.f_Call_is_tried_by
 mt_Board_add_leg:gu K a.c_Board "add_leg" a.f_Board_add_leg
 mt_Board_pass_turn:gu K a.c_Board "pass_turn" a.f_Board_pass_turn
 mt_Board_bound:gu K a.c_Board "bound" a.f_Board_bound
 mt_Board_calling:gu K a.c_Board "calling" a.f_Board_calling
 mt_Board_used:gu K a.c_Board "used" a.f_Board_used
 mt_Plan_lines:gu K a.c_Plan "lines" a.f_Plan_lines
 mt_Call_can_be_left_by:gu K a.c_Call "can_be_left_by" a.f_Call_can_be_left_by
 mt_Call_binds:gu K a.c_Call "binds" a.f_Call_binds
 mt_Call_has:gu K a.c_Call "has" a.f_Call_has
 mt_Call_talks_with:gu K a.c_Call "talks_with" a.f_Call_talks_with
 na_Board_plan:bG K a.c_Board "plan"
 na_Board_hour:bG K a.c_Board "hour"
 na_Board_turn:bG K a.c_Board "turn"
 na_Board_calls:bG K a.c_Board "calls"
 na_Board_legs:bG K a.c_Board "legs"
 na_Board_nexts:bG K a.c_Board "nexts"
 na_Board_on:bG K a.c_Board "on"
 na_Board_log:bG K a.c_Board "log"
 na_Plan_phones:bG K a.c_Plan "phones"
 na_Plan_groups:bG K a.c_Plan "groups"
 na_Plan_wishes:bG K a.c_Plan "wishes"
 na_Plan_on:bG K a.c_Plan "on"
 na_Plan_phone_rows:bG K a.c_Plan "phone_rows"
 na_Plan_group_rows:bG K a.c_Plan "group_rows"
 na_Call_state:bG K a.c_Call "state"
 na_Call_caller:bG K a.c_Call "caller"
 na_Call_way:bG K a.c_Call "way"
 na_Call_at:bG K a.c_Call "at"
 na_Call_members:bG K a.c_Call "members"
 na_Call_holder:bG K a.c_Call "holder"
 na_Call_since:bG K a.c_Call "since"
 na_Call_word:bG K a.c_Call "word"
 no_tuple:mg "tuple"=none
 no_dict:mg "dict"=none
 no_enumerate:mg "enumerate"=none
 no_len:mg "len"=none
 no_list:mg "list"=none
 no_range:mg "range"=none
 no_min:mg "min"=none
 no_set:mg "set"=none
 no_all:mg "all"=none
 k_MOST_PHONES:KD K mg "MOST_PHONES" (.int 8)
 k_MOST_LINES:KD K mg "MOST_LINES" (.int 3)
 k_MOST_RANK:KD K mg "MOST_RANK" (.int 9)
 k_MOST_GROUPS:KD K mg "MOST_GROUPS" (.int 3)
 k_MANNERS:KD K mg "MANNERS" (.tup ((["all","turns"]:List Str).map D.str))
 k_MOST_MEMBERS:KD K mg "MOST_MEMBERS" (.int 4)
 k_MOST_WISHES:KD K mg "MOST_WISHES" (.int 16)
 k_MOST_SIGNS:KD K mg "MOST_SIGNS" (.int 6)
 k_LETTERS:KD K mg "LETTERS" (.str "abcdefghijklmnopqrstuvwxyz")
end Z
namespace Z
open PySem PySem.Spec PyProof.Rows L2 L3
def fj (c f m:Int):Int:=(c % 2147483647 + 5) * f % 2147483629 / 89 % m
theorem dD {c f m:Int} (h:0 < m):0≤fj c f m:=Int.emod_nonneg _ (by omega)
theorem dC {c f m:Int} (h:0 < m):fj c f m < m:=Int.emod_lt_of_pos _ h
def wO:Sp3:=fun ds M Q=>∃ c f m,ds=[.int c,.int f,.int m]∧0 < m∧Q (.int (fj c f m)) M
def eV:Str:="abcdefghijklmnopqrstuvwxyz"
def eD (i:Int):Str:=⟨#[97 + i.toNat]⟩
def size (s:Int):Int:=1 + s % 6
def eP (s:Int):Int:=s / 6 % size s
def fV (s v:Int):Str:=iU (eD (s / 36 % 26)) (eP s) ++ eD ((s / 936 + v) % 26) ++ iU (eD (s / 36 % 26)) (size s - 1 - eP s)
def wM:Sp3:=fun ds M Q=>∃ s v,ds=[.int s,.int v]∧Q (.str (fV s v)) M
def cell (ns:List Int) (i:Int):Int:=if 0≤i∧i < ns.length then ns.getD i.toNat 0 else 0
def zA:Sp3:=fun ds M Q=>∃ ns i,ds=[.rl (ns.map D.int),.int i]∧Q (.int (cell ns i)) M
theorem nR (c:Int):0 < size c:=by
 unfold size
 have:=Int.emod_nonneg c (show (6:Int) ≠ 0 by decide)
 omega
theorem qu (c:Int):size c≤6:=by
 unfold size
 have:=Int.emod_lt_of_pos c (show (0:Int) < 6 by decide)
 omega
theorem oC (i n:Int):(iU (eD i) n).length=n.toNat:=by
 show ((List.replicate n.toNat (eD i).cps).foldl (· ++ ·) #[]:Array Nat).size=n.toNat
 rw [qv]
 show n.toNat * 1=n.toNat
 omega
theorem jP:eV.length≤sizeLine:=by decide +kernel
section
variable {P:Program} {w:World} {K:PySem.W.Frag} {mg:Str→Option Value} {base:Heap} {a:Ad}
theorem kq (G:Gl K mg a):Fn3 P w K mg base 1 a.f_law_draw a.fd_law_draw ["_law_cell","_law_factor","_law_many"] wO:=by
 refine aR G.fn_law_draw nV (fun ds M Q h=>?_) (fun cdv A outer s H E hr=>⟨_,(ak (aB (bt (bt (bt (bt (bt (bt (aa 0 (pv 0)) ao) ao) (aa 1 (pv 1))) ao) ao) (aa 2 (pv 2))))),?_⟩)
 ·obtain ⟨c,f,m,rfl,_⟩:=h
  rfl
 ·rintro ds M Q ⟨c,f,m,rfl,hm,q⟩
  refine ⟨by decide,.inl ?_,by decide,⟨by decide,by decide⟩,hm,M,.refl,q⟩
  have h1:0≤c % 2147483647:=Int.emod_nonneg _ (by decide)
  have h2:c % 2147483647 < 2147483647:=Int.emod_lt_of_pos _ (by decide)
  exact ⟨by omega,by omega⟩
theorem mw {i:Int} (h0:0≤i) (h1:i < 26):atI eV.cps.toList i=some (97 + i.toNat):=by
 obtain ⟨n,rfl⟩:=Int.eq_ofNat_of_zero_le h0
 have hn:n < 26:=by omega
 have key:∀ n:_root_.Fin 26,atI eV.cps.toList ((n.val:Nat):Int)=some (97 + n.val):=by decide +kernel
 exact key ⟨n,hn⟩
theorem qM (G:Gl K mg a):Fn3 P w K mg base 1 a.f_law_word a.fd_law_word ["_law_seed","_law_which"] wM:=by
 refine aR G.fn_law_word eK (fun ds M Q h=>?_) (fun cdv A outer s H E hr=>⟨_,(aj (aG (i:=2) eK.nd rfl (Or.inl rfl) ar)
 (aj (aG (i:=3) eK.nd rfl (Or.inl rfl) (bt ao (bt (aa 0 (pv 0)) ao)))
 (aj (aG (i:=4) eK.nd rfl (Or.inl rfl) (bt (bt (aa 0 (pv 0)) ao) (aa 3 (pv 3))))
 (aj (aG (i:=5) eK.nd rfl (Or.inl rfl) (aC (aa 2 (pv 2)) (bt (bt (aa 0 (pv 0)) ao) ao)))
 (aj (aG (i:=6) eK.nd rfl (Or.inl rfl) (aC (aa 2 (pv 2)) (bt (bt (bt (aa 0 (pv 0)) ao) (aa 1 (pv 1))) ao)))
 (ak (aB (bt (bt (bt (aa 5 (pv 5)) (aa 4 (pv 4))) (aa 6 (pv 6))) (bt (aa 5 (pv 5)) (bt (bt (aa 3 (pv 3)) ao) (aa 4 (pv 4)))))))))))),?_⟩)
 ·obtain ⟨c,v,rfl,_⟩:=h
  rfl
 ·rintro ds M Q ⟨c,v,rfl,q⟩
  have hs:=nR c
  have hs6:=qu c
  have hp0:0≤eP c:=Int.emod_nonneg _ (by omega)
  have hp1:eP c < size c:=Int.emod_lt_of_pos _ hs
  have l1:=oC (c / 36 % 26) (eP c)
  have l2:=oC (c / 36 % 26) (size c - 1 - eP c)
  have hz:sizeLine=16777216:=sizeLine_eq
  refine ⟨by decide,⟨by decide,by decide⟩,hs,⟨by decide,by decide⟩,by decide,jP,af (mw (Int.emod_nonneg _ (by decide)) (Int.emod_lt_of_pos _ (by decide))) ?_⟩
  refine ⟨⟨by decide,by decide⟩,by decide,jP,af (mw (Int.emod_nonneg _ (by decide)) (Int.emod_lt_of_pos _ (by decide))) ?_⟩
  refine ⟨⟨?_,?_,?_⟩,?_,⟨?_,?_,?_⟩,?_,M,.refl,q⟩
  ·show eP c < 4096
   omega
  ·show -4096 < eP c
   omega
  ·show (1:Nat) < 4096
   decide
  ·show (iU (eD (c / 36 % 26)) (eP c)).length + 1≤sizeLine
   omega
  ·show size c - 1 - eP c < 4096
   omega
  ·show -4096 < size c - 1 - eP c
   omega
  ·show (1:Nat) < 4096
   decide
  ·show (iU (eD (c / 36 % 26)) (eP c) ++ eD ((c / 936 + v) % 26)).length + (iU (eD (c / 36 % 26)) (size c - 1 - eP c)).length≤sizeLine
   rw [PySem.size_cat]
   have:(eD ((c / 936 + v) % 26)).length=1:=rfl
   omega
theorem Az (G:Gl K mg a):Fn3 P w K mg base 1 a.f_law_at a.fd_law_at ["_law_script","_law_k"] zA:=by
 refine aR G.fn_law_at sf (fun ds M Q h=>?_) (fun cdv A outer s H E hr=>⟨_,(aj (aL (tF (hu9 hr) ao (aa 1 (pv 1)) (aP bW rfl G.no_len bL (ae (aa 0 (pv 0)) ai)))
 (ak (aB (aC (aa 0 (pv 0)) (aa 1 (pv 1)))))
 aD)
 (ak (aB ao))),?_⟩)
 ·obtain ⟨ns,i,rfl,_⟩:=h
  rfl
 ·rintro ds M Q ⟨ns,i,rfl,q⟩
  refine dc (fun h0=>?_) (fun h0=>?_)
  ·have h0:0≤i:=of_decide_eq_true h0
   refine dc (fun h1=>?_) (fun h1=>?_)
   ·have h1:i < ((ns.map D.int).length:Int):=of_decide_eq_true h1
    rw [List.length_map] at h1
    have hi:i.toNat < ns.length:=by omega
    have e:atI (ns.map D.int) i=some (D.int (ns.getD i.toNat 0)):=by
     obtain ⟨n,rfl⟩:=Int.eq_ofNat_of_zero_le h0
     have hn:n < ns.length:=by omega
     refine io ?_
     rw [List.getElem?_map,List.getElem?_eq_getElem hn]
     simp [hn]
    refine af e ⟨M,.refl,?_⟩
    have:cell ns i=ns.getD i.toNat 0:=by unfold cell; rw [if_pos ⟨h0,h1⟩]
    rw [← this]
    exact q
   ·have h1:¬ i < ((ns.map D.int).length:Int):=fun z=>h1 (decide_eq_true z)
    rw [List.length_map] at h1
    refine ⟨M,.refl,?_⟩
    have:cell ns i=0:=by unfold cell; rw [if_neg (fun z=>h1 z.2)]
    rw [← this]
    exact q
  ·have h0:¬ 0≤i:=fun z=>h0 (decide_eq_true z)
   refine ⟨M,.refl,?_⟩
   have:cell ns i=0:=by unfold cell; rw [if_neg (fun z=>h0 z.1)]
   rw [← this]
   exact q
end
abbrev names (ns:List Str):D:=.tup (ns.map D.str)
abbrev at0 (ns:List Str) (i:Int):Str:=ns.getD i.toNat Str.empty
def gg (row:List Str) (c m:Int):Nat:=(1 + fj c 40692 (if (row.length:Int) < m then (row.length:Int) else m)).toNat
def Ac (row:List Str) (c:Int) (j:Nat):Str:=at0 row ((fj c 69621 row.length + (0 + (j:Nat))) % row.length)
def eI (row:List Str) (c m:Int):List Str:=(List.range (gg row c m)).map (Ac row c)
def wB:Sp3:=fun ds M Q=>∃ r c m row,ds=[.ref r,.int c,.int m]∧lstM M r=some (row.map D.str)∧row ≠ []∧0 < m∧row.length≤64∧Q (names (eI row c m)) M
theorem v1 {row:List Str} (h:row ≠ []) (x:Int):atI (row.map D.str) (x % row.length)=some (D.str (at0 row (x % row.length))):=by
 have hl:0 < row.length:=List.length_pos_iff.mpr h
 have h0:0≤x % row.length:=Int.emod_nonneg _ (by omega)
 have h1:x % row.length < row.length:=Int.emod_lt_of_pos _ (by omega)
 obtain ⟨n,hn⟩:=Int.eq_ofNat_of_zero_le h0
 rw [hn] at h1 ⊢
 have hn':n < row.length:=by omega
 refine io ?_
 rw [List.getElem?_map,List.getElem?_eq_getElem hn']
 simp [at0,hn']
section
variable {P:Program} {w:World} {K:PySem.W.Frag} {mg:Str→Option Value} {base:Heap} {a:Ad}
theorem ko (G:Gl K mg a):Fn3 P w K mg base 2 a.f_law_some a.fd_law_some ["_law_row","_law_cell","_law_most"] wB:=by
 have C_law_draw:=kq (P:=P) (w:=w) (base:=base) G
 refine aR G.fn_law_some gX (fun ds M Q h=>?_) (fun cdv A outer s H E hr=>⟨_,(aj (aG (i:=3) gX.nd rfl (Or.inr rfl) (ay C_law_draw (hr.mono (by first | decide | omega)) rfl G.mg_law_draw G.kp_law_draw G.b_law_draw (ae (aa 1 (pv 1)) (ae ao (ae (aP bW rfl G.no_len bL (ae (aa 0 (pv 0)) ai)) ai)))))
 (aj (aG (i:=4) gX.nd rfl (Or.inl rfl) (bt ao (ay C_law_draw (hr.mono (by first | decide | omega)) rfl G.mg_law_draw G.kp_law_draw G.b_law_draw (ae (aa 1 (pv 1)) (ae ao (ae (aP (yN rfl) rfl G.no_min zw (ae (aa 2 (pv 2)) (ae (aP bW rfl G.no_len bL (ae (aa 0 (pv 0)) ai)) ai))) ai))))))
 (ak (aB (ba eS rfl G.no_tuple eL (ae (bV rfl (c9 (ix:=[none,some 0,some 3]) (N':=["_law_j","_law_row","_law_first"]) (by kernel_rfl)) (mF rfl G.no_range (ae (aa 4 (pv 4)) ai)) (fun C s0 H0 ex=>(aF (i:=0) (show List.Nodup (["_law_j","_law_row","_law_first"]:List Str) by decide +kernel) rfl (Or.inl rfl))) (fun C s0 H0 ex=>dI) (fun C s0 H0 ex=>(aC (aa 1 (pv 1)) (bt (bt (aa 2 (pv 2)) (aa 0 (pv 0))) (aP bW rfl G.no_len bL (ae (aa 1 (pv 1)) ai)))))) ai)))))),?_⟩)
 ·obtain ⟨r,c,m,row,rfl,_⟩:=h
  rfl
 ·rintro ds M Q ⟨r,c,m,row,rfl,hl,hne,hm,h64,q⟩
  have hlen:0 < row.length:=List.length_pos_iff.mpr hne
  have hz:sizeLine=16777216:=sizeLine_eq
  have el:((row.map D.str).length:Int)=row.length:=by rw [List.length_map]
  refine af hl ⟨c,69621,_,rfl,by rw [el]; omega,?_⟩
  refine af hl ⟨c,40692,_,rfl,by rw [el]; split <;> omega,?_⟩
  rw [el]
  have d0:=dD (c:=c) (f:=40692) (m:=if (row.length:Int) < m then (row.length:Int) else m) (by split <;> omega)
  have d1:=dC (c:=c) (f:=40692) (m:=if (row.length:Int) < m then (row.length:Int) else m) (by split <;> omega)
  have d2:fj c 40692 (if (row.length:Int) < m then (row.length:Int) else m) < row.length + 1:=by
   refine Int.lt_of_lt_of_le d1 ?_
   split <;> omega
  refine ⟨rfl,⟨?_,?_⟩,cH (f:=fun d=>match d with | .int j=>D.str (at0 row ((fj c 69621 row.length + j) % row.length)) | _=>.non) trivial _ [] _ ?_ (fun d hd k hk=>?_) fun p hp=>?_⟩
  ·show -(2 ^ 62)≤1 + fj c 40692 (if (row.length:Int) < m then (row.length:Int) else m)
   omega
  ·show 1 + fj c 40692 (if (row.length:Int) < m then (row.length:Int) else m) < 2 ^ 62
   omega
  ·rw [List.length_map,List.length_range]
   show 0 + gg row c m≤sizeLine
   unfold gg
   omega
  ·obtain ⟨j,_,rfl⟩:=List.mem_map.mp hd
   refine af hl ⟨by rw [el]; omega,af hl ?_⟩
   rw [el]
   exact af (v1 hne _) hk
  ·refine af (x:=(eI row c m).map D.str) ?_ ⟨M,.new hp,q⟩
   unfold lstM
   rw [aZ]
   show some ([] ++ ((List.range (gg row c m)).map fun i=>D.int (0 + (i:Nat))).map _)=_
   rw [List.nil_append,List.map_map]
   unfold eI
   rw [List.map_map]
   rfl
theorem uk {row:List Str} {x:Int} (h0:0≤x) (h1:x < row.length):atI (row.map D.str) x=some (D.str (at0 row x)):=by
 obtain ⟨n,rfl⟩:=Int.eq_ofNat_of_zero_le h0
 have hn':n < row.length:=by omega
 refine io ?_
 rw [List.getElem?_map,List.getElem?_eq_getElem hn']
 simp [at0,hn']
end
end Z
namespace Z
open PySem PySem.Spec PyProof.Rows L2 L3
def eQ (x:Str):Bool:=decide ((1:Int)≤x.length) && (decide ((x.length:Int)≤6) && x.cps.toList.all fun c=>lK ⟨#[c]⟩ eV)
def qb:Sp3:=fun ds M Q=>∃ x:Str,ds=[.str x]∧x.length≤1000∧Q (.bl (eQ x)) M
def vj:Sp3:=fun ds M Q=>∃ w,ds=[.bl true,w]∧Q .non M
def jt (ss:List Str):Bool:=((dM ss).length:Int) == (ss.length:Int)
def zr (M:Mp) (x:D) (ss:List Str):Prop:=x=.tup (ss.map D.str)∨∃ a,x=.ref a∧lstM M a=some (ss.map D.str)
def rb:Sp3:=fun ds M Q=>∃ x ss,ds=[x]∧zr M x ss∧ss.length < 4000∧Q (.bl (jt ss)) M
theorem nS {α:Type} (f:α→Bool) (l:List α):(l.map f).all id=l.all f:=by rw [List.all_map]; rfl
theorem jn (x:Str) (ss:List Str):inD (.str x) (ss.map D.str)=ss.any (· == x):=by
 unfold inD
 rw [List.any_map]
 rfl
theorem cM:∀ ss:List Str,(ss.map D.str).all eZ=true
 | []=>rfl
 | _ :: r=>by
  rw [List.map_cons,List.all_cons,cM r]
  rfl
def d4 (cs ks:List Str) (m:Int):Bool:=decide ((1:Int)≤cs.length) && (decide ((cs.length:Int)≤m) && (jt cs && cs.all fun c=>ks.any (· == c)))
def rj:Sp3:=fun ds M Q=>∃ cs ks k m,ds=[.tup (cs.map D.str),.ref k,.int m]∧lstM M k=some (ks.map D.str)∧cs.length < 4000∧Q (.bl (d4 cs ks m)) M
section
variable {P:Program} {w:World} {K:PySem.W.Frag} {mg:Str→Option Value} {base:Heap} {a:Ad}
theorem kZ (G:Gl K mg a):Fn3 P w K mg base 1 a.f_is_name a.fd_is_name ["text"] qb:=by
 refine aR G.fn_is_name qh (fun ds M Q h=>?_) (fun cdv A outer s H E hr=>⟨_,(ak (aB (h9 (gv (hu9 hr) ao (aP bW rfl G.no_len bL (ae (aa 0 (pv 0)) ai)) (eU rfl G.k_MOST_SIGNS)) (gm (aP (pq rfl) rfl G.no_all pE (ae (bV rfl (c9 (ix:=[none]) (N':=["sign"]) (by kernel_rfl)) (bM (aa 0 (pv 0))) (fun C s0 H0 ex=>(aF (i:=0) (show List.Nodup (["sign"]:List Str) by decide +kernel) rfl (Or.inl rfl))) (fun C s0 H0 ex=>dI) (fun C s0 H0 ex=>(bN (hu9 hr) (aa 0 (pv 0)) (eU rfl G.k_LETTERS)))) ai)))))),?_⟩)
 ·obtain ⟨x,rfl,_⟩:=h
  rfl
 ·rintro ds M Q ⟨x,rfl,hl,q⟩
  have hz:sizeLine=16777216:=sizeLine_eq
  refine ⟨by omega,dc (fun h1=>?_) (fun h1=>?_)⟩
  ·refine dc (fun h2=>?_) (fun h2=>?_)
   ·refine cH (f:=fun d=>match d with | .str z=>D.bl (lK z eV) | _=>.non) trivial _ [] _ ?_ (fun d hd k hk=>?_) fun p hp=>?_
    ·rw [List.length_map]
     have:x.cps.toList.length=x.length:=by simp [Str.length]
     simp only [List.length_nil]
     omega
    ·obtain ⟨c,_,rfl⟩:=List.mem_map.mp hd
     exact hk
    ·refine af av ?_
     have e:([] ++ (x.cps.toList.map fun c=>D.str ⟨#[c]⟩).map fun d=>match d with | .str z=>D.bl (lK z eV) | _=>.non)=x.cps.toList.map fun c=>D.bl (lK ⟨#[c]⟩ eV):=by
      rw [List.nil_append,List.map_map]
      rfl
     rw [e]
     refine af (mS (fun c=>lK ⟨#[c]⟩ eV) x.cps.toList) ⟨M,.new hp,?_⟩
     rw [nS]
     have:eQ x=x.cps.toList.all fun c=>lK ⟨#[c]⟩ eV:=by
      unfold eQ
      rw [h1,h2]
      rfl
     rw [← this]
     exact q
   ·refine ⟨M,.refl,?_⟩
    have:eQ x=false:=by
     unfold eQ
     have h2:decide ((x.length:Int)≤6)=false:=by simpa using h2
     rw [h2]
     simp
    rw [← this]
    exact q
  ·refine ⟨M,.refl,?_⟩
   have:eQ x=false:=by
    unfold eQ
    have h1:decide ((1:Int)≤x.length)=false:=by simpa using h1
    rw [h1]
    rfl
   rw [← this]
   exact q
theorem kh (G:Gl K mg a):Fn3 P w K mg base 1 a.f_need a.fd_need ["holds","words"] vj:=by
 refine aR G.fn_need vi (fun ds M Q h=>?_) (fun cdv A outer s H E hr=>⟨_,(ak (aL (lC (gR (aa 0 (pv 0))))
 (ak dJ)
 aD)),?_⟩)
 ·obtain ⟨x,rfl,_⟩:=h
  rfl
 ·rintro ds M Q ⟨x,rfl,q⟩
  exact ⟨M,.refl,q⟩
theorem me (G:Gl K mg a):Fn3 P w K mg base 1 a.f_all_unlike a.fd_all_unlike ["things"] rb:=by
 refine aR G.fn_all_unlike lZ (fun ds M Q h=>?_) (fun cdv A outer s H E hr=>⟨_,(ak (aB (bN (hu9 hr) (rK rfl (aa 0 (pv 0)) rfl G.no_len rfl G.no_set bL xO) (aP bW rfl G.no_len bL (ae (aa 0 (pv 0)) ai))))),?_⟩)
 ·obtain ⟨x,ss,rfl,_⟩:=h
  rfl
 ·rintro ds M Q ⟨x,ss,rfl,hx,hl,q⟩
  have key:((ss.map D.str).length:Int)=ss.length:=by rw [List.length_map]
  rcases hx with rfl | ⟨b,rfl,hb⟩
  ·refine af (L3.kE ss) ⟨hl,M,.refl,?_⟩
   rw [key]
   exact q
  ·refine af hb (af (L3.kE ss) ⟨hl,af hb ⟨M,.refl,?_⟩⟩)
   rw [key]
   exact q
theorem rf (G:Gl K mg a):Fn3 P w K mg base 2 a.f_is_choice a.fd_is_choice ["chosen","known","most"] rj:=by
 have C_all_unlike:=me (P:=P) (w:=w) (base:=base) G
 refine aR G.fn_is_choice mT (fun ds M Q h=>?_) (fun cdv A outer s H E hr=>⟨_,(ak (aB (h9 (gv (hu9 hr) ao (aP bW rfl G.no_len bL (ae (aa 0 (pv 0)) ai)) (aa 2 (pv 2))) (h9 (ay C_all_unlike (hr.mono (by first | decide | omega)) rfl G.mg_all_unlike G.kp_all_unlike G.b_all_unlike (ae (aa 0 (pv 0)) ai)) (gm (aP (pq rfl) rfl G.no_all pE (ae (bV rfl (c9 (ix:=[none,some 1]) (N':=["name","known"]) (by kernel_rfl)) (bM (aa 0 (pv 0))) (fun C s0 H0 ex=>(aF (i:=0) (show List.Nodup (["name","known"]:List Str) by decide +kernel) rfl (Or.inl rfl))) (fun C s0 H0 ex=>dI) (fun C s0 H0 ex=>(bN (hu9 hr) (aa 0 (pv 0)) (aa 1 (pv 1))))) ai))))))),?_⟩)
 ·obtain ⟨cs,ks,k,m,rfl,_⟩:=h
  rfl
 ·rintro ds M Q ⟨cs,ks,k,m,rfl,hk,hl,q⟩
  have hz:sizeLine=16777216:=sizeLine_eq
  have key:((cs.map D.str).length:Int)=cs.length:=by rw [List.length_map]
  have end_:∀ b:Bool,d4 cs ks m=b→∃ M'',L3.Sub M'' M∧Q (.bl b) M'':=fun b e=>⟨M,.refl,e ▸ q⟩
  refine dc (fun h1=>?_) (fun h1=>?_)
  ·have h1:decide ((1:Int)≤cs.length)=true:=by rw [← key]; exact h1
   refine dc (fun h2=>?_) (fun h2=>?_)
   ·have h2:decide ((cs.length:Int)≤m)=true:=by rw [← key]; exact h2
    refine ⟨_,cs,rfl,.inl rfl,hl,dc (fun h3=>?_) (fun h3=>?_)⟩
    ·refine cH (f:=fun d=>match d with | .str z=>D.bl (ks.any (· == z)) | _=>.non) trivial _ [] _ ?_ (fun d hd k0 hk0=>?_) fun p hp=>?_
     ·rw [List.length_map]
      simp only [List.length_nil]
      omega
     ·obtain ⟨c,_,rfl⟩:=List.mem_map.mp hd
      refine af hk ⟨rfl,cM ks,?_⟩
      show k0 (.bl (inD (.str c) (ks.map D.str))) M
      rw [jn]
      exact hk0
     ·refine af av ?_
      have e:([] ++ (cs.map D.str).map fun d=>match d with | .str z=>D.bl (ks.any (· == z)) | _=>.non)=cs.map fun c=>D.bl (ks.any (· == c)):=by
       rw [List.nil_append,List.map_map]
       rfl
      rw [e]
      refine af (mS (fun c=>ks.any (· == c)) cs) ⟨M,.new hp,?_⟩
      rw [nS]
      have:d4 cs ks m=cs.all fun c=>ks.any (· == c):=by
       unfold d4
       rw [h1,h2,h3]
       rfl
      rw [← this]
      exact q
    ·refine end_ _ ?_
     unfold d4
     have h3:jt cs=false:=by simpa using h3
     rw [h3]
     simp
   ·refine end_ _ ?_
    unfold d4
    have h2:decide ((cs.length:Int)≤m)=false:=by
     rw [← key]
     simpa using h2
    rw [h2]
    simp
  ·refine end_ _ ?_
   unfold d4
   have h1:decide ((1:Int)≤cs.length)=false:=by
    rw [← key]
    simpa using h1
   rw [h1]
   rfl
end
end Z
namespace Z
open PySem PySem.Spec PyProof.Rows L2 L3
abbrev fh:=Str × Int × Int
abbrev dl:=Str × Str × List Str
def bI (p:fh):D:=.tup [.str p.1,.int p.2.1,.int p.2.2]
def br (g:dl):D:=.tup [.str g.1,.str g.2.1,.tup (g.2.2.map D.str)]
structure nz (p:fh):Prop where
 len:p.1.length≤1000
 nm:eQ p.1=true
 l1:1≤p.2.1
 l2:p.2.1≤3
 r1:0≤p.2.2
 r2:p.2.2≤9
structure km (pn:List Str) (g:dl):Prop where
 len:g.1.length≤1000
 nm:eQ g.1=true
 man:g.2.1="all"∨g.2.1="turns"
 few:g.2.2.length < 4000
 mem:d4 g.2.2 pn 4=true
def Bk (ss:List Str) (x:Str):Prop:=ss.any (· == x)=true
def j9:Sp3:=fun ds M Q=>∃ r,∃ ps:List fh,ds=[.ref r]∧lstM M r=some (ps.map bI)∧1≤ps.length∧ps.length≤8∧(∀ p∈ps,nz p)∧Q .non M
def kc:Sp3:=fun ds M Q=>∃ r,∃ gs:List dl,∃ pl,∃ pn:List Str,ds=[.ref r,.ref pl]∧lstM M r=some (gs.map br)∧lstM M pl=some (pn.map D.str)∧gs.length≤3∧(∀ g∈gs,km pn g)∧Q .non M
def j4:Sp3:=fun ds M Q=>∃ r x y,ds=[.ref r,x,y]∧lstM M r=some []∧Q .non M
section
variable {P:Program} {w:World} {K:PySem.W.Frag} {mg:Str→Option Value} {base:Heap} {a:Ad}
theorem j5 (G:Gl K mg a):Fn3 P w K mg base 2 a.f_check_phones a.fd_check_phones ["phones"] j9:=by
 have C_need:=kh (P:=P) (w:=w) (base:=base) G
 have C_is_name:=kZ (P:=P) (w:=w) (base:=base) G
 refine aR G.fn_check_phones d9 (fun ds M Q h=>?_) (fun cdv A outer s H E hr=>⟨_,(aj (aE (ay C_need (hr.mono (by first | decide | omega)) rfl G.mg_need G.kp_need G.b_need (ae (gv (hu9 hr) ao (aP bW rfl G.no_len bL (ae (aa 0 (pv 0)) ai)) (eU rfl G.k_MOST_PHONES)) (ae ar ai))))
 (ak (ie PassesOwn.never rfl (bM (aa 0 (pv 0))) (fQ (n:=3) rfl (bn (aF (i:=1) d9.nd rfl (Or.inl rfl)) (bn (aF (i:=2) d9.nd rfl (Or.inl rfl)) (bn (aF (i:=3) d9.nd rfl (Or.inl rfl)) eX))))
 (aj (aE (ay C_need (hr.mono (by first | decide | omega)) rfl G.mg_need G.kp_need G.b_need (ae (ay C_is_name (hr.mono (by first | decide | omega)) rfl G.mg_is_name G.kp_is_name G.b_is_name (ae (aa 1 (pv 1)) ai)) (ae ar ai))))
 (aj (aE (ay C_need (hr.mono (by first | decide | omega)) rfl G.mg_need G.kp_need G.b_need (ae (gv (hu9 hr) ao (aa 2 (pv 2)) (eU rfl G.k_MOST_LINES)) (ae ar ai))))
 (ak (aE (ay C_need (hr.mono (by first | decide | omega)) rfl G.mg_need G.kp_need G.b_need (ae (gv (hu9 hr) ao (aa 3 (pv 3)) (eU rfl G.k_MOST_RANK)) (ae ar ai)))))))))),?_⟩)
 ·obtain ⟨r,ps,rfl,_⟩:=h
  rfl
 ·rintro ds M Q ⟨r,ps,rfl,hr1,h1,h8,hok,q⟩
  have el:((ps.map bI).length:Int)=ps.length:=by rw [List.length_map]
  refine af hr1 (o1 (c:=decide ((1:Int)≤(ps.map bI).length)) (decide_eq_true (by omega)) ⟨_,by rw [decide_eq_true (show ((ps.map bI).length:Int)≤8 by omega)],af hr1 ?_⟩)
  refine nj (fun δ M'=>M=M'∧∃ x y z,δ=[some (.ref r),x,y,z]) (fun δ M' j=>by rw [← j.1]; exact hr1) _ _ _ ⟨rfl,none,none,none,rfl⟩ ?_ ?_
  ·rintro d hd δ M' ⟨rfl,x,y,z,rfl⟩ nx hnx
   obtain ⟨p,hp,rfl⟩:=List.mem_map.mp hd
   have o:=hok p hp
   refine ⟨rfl,⟨p.1,rfl,o.len,_,by rw [o.nm],?_⟩⟩
   refine o1 (c:=decide ((1:Int)≤p.2.1)) (decide_eq_true o.l1) ⟨_,by rw [decide_eq_true (show p.2.1≤3 from o.l2)],?_⟩
   refine o1 (c:=decide ((0:Int)≤p.2.2)) (decide_eq_true o.r1) ⟨_,by rw [decide_eq_true (show p.2.2≤9 from o.r2)],?_⟩
   exact hnx _ _ ⟨rfl,_,_,_,rfl⟩
  ·rintro δ M' ⟨rfl,x,y,z,rfl⟩
   exact ⟨M,.refl,q⟩
theorem j3 (G:Gl K mg a):Fn3 P w K mg base 3 a.f_check_groups a.fd_check_groups ["groups","phone_names"] kc:=by
 have C_need:=kh (P:=P) (w:=w) (base:=base) G
 have C_is_name:=kZ (P:=P) (w:=w) (base:=base) G
 have C_is_choice:=rf (P:=P) (w:=w) (base:=base) G
 refine aR G.fn_check_groups eA (fun ds M Q h=>?_) (fun cdv A outer s H E hr=>⟨_,(aj (aE (ay C_need (hr.mono (by first | decide | omega)) rfl G.mg_need G.kp_need G.b_need (ae (bN (hu9 hr) (aP bW rfl G.no_len bL (ae (aa 0 (pv 0)) ai)) (eU rfl G.k_MOST_GROUPS)) (ae ar ai))))
 (ak (ie PassesOwn.never rfl (bM (aa 0 (pv 0))) (fQ (n:=3) rfl (bn (aF (i:=2) eA.nd rfl (Or.inl rfl)) (bn (aF (i:=3) eA.nd rfl (Or.inl rfl)) (bn (aF (i:=4) eA.nd rfl (Or.inl rfl)) eX))))
 (aj (aE (ay C_need (hr.mono (by first | decide | omega)) rfl G.mg_need G.kp_need G.b_need (ae (ay C_is_name (hr.mono (by first | decide | omega)) rfl G.mg_is_name G.kp_is_name G.b_is_name (ae (aa 2 (pv 2)) ai)) (ae ar ai))))
 (aj (aE (ay C_need (hr.mono (by first | decide | omega)) rfl G.mg_need G.kp_need G.b_need (ae (bN (hu9 hr) (aa 3 (pv 3)) (eU rfl G.k_MANNERS)) (ae ar ai))))
 (ak (aE (ay C_need (hr.mono (by first | decide | omega)) rfl G.mg_need G.kp_need G.b_need (ae (ay C_is_choice (hr.mono (by first | decide | omega)) rfl G.mg_is_choice G.kp_is_choice G.b_is_choice (ae (aa 4 (pv 4)) (ae (aa 1 (pv 1)) (ae (eU rfl G.k_MOST_MEMBERS) ai)))) (ae ar ai)))))))))),?_⟩)
 ·obtain ⟨r,gs,pl,pn,rfl,_⟩:=h
  rfl
 ·rintro ds M Q ⟨r,gs,pl,pn,rfl,hr1,hp,h3,hok,q⟩
  have el:((gs.map br).length:Int)=gs.length:=by rw [List.length_map]
  refine af hr1 ⟨_,by rw [decide_eq_true (show ((gs.map br).length:Int)≤3 by omega)],af hr1 ?_⟩
  refine nj (fun δ M'=>M=M'∧∃ x y z,δ=[some (.ref r),some (.ref pl),x,y,z]) (fun δ M' j=>by rw [← j.1]; exact hr1) _ _ _ ⟨rfl,none,none,none,rfl⟩ ?_ ?_
  ·rintro d hd δ M' ⟨rfl,x,y,z,rfl⟩ nx hnx
   obtain ⟨g,hg,rfl⟩:=List.mem_map.mp hd
   have o:=hok g hg
   refine ⟨rfl,⟨g.1,rfl,o.len,_,by rw [o.nm],?_⟩⟩
   have hm:inD (.str g.2.1) [.str "all",.str "turns"]=true:=by
    rcases o.man with e | e <;> (rw [e]; rfl)
   refine ⟨rfl,rfl,.str "a group's manner is all or turns",congrArg (fun b=>[D.bl b,D.str "a group's manner is all or turns"]) hm,?_⟩
   refine ⟨g.2.2,pn,pl,4,rfl,hp,o.few,_,by rw [o.mem],?_⟩
   exact hnx _ _ ⟨rfl,_,_,_,rfl⟩
  ·rintro δ M' ⟨rfl,x,y,z,rfl⟩
   exact ⟨M,.refl,q⟩
theorem j7 (G:Gl K mg a):Fn3 P w K mg base 5 a.f_check_wishes a.fd_check_wishes ["wishes","phone_names","names"] j4:=by
 have C_need:=kh (P:=P) (w:=w) (base:=base) G
 refine aR G.fn_check_wishes fD (fun ds M Q h=>?_) (fun cdv A outer s H E hr=>⟨_,(aj (aE (ay C_need (hr.mono (by first | decide | omega)) rfl G.mg_need G.kp_need G.b_need (ae (bN (hu9 hr) (aP bW rfl G.no_len bL (ae (aa 0 (pv 0)) ai)) (eU rfl G.k_MOST_WISHES)) (ae ar ai))))
 (ak (ie PassesOwn.never rfl (bM (aa 0 (pv 0))) (fQ (n:=2) rfl (bn (aF (i:=3) fD.nd rfl (Or.inl rfl)) (bn (aF (i:=4) fD.nd rfl (Or.inl rfl)) eX)))
 (ak dJ)))),?_⟩)
 ·obtain ⟨r,x,y,rfl,_⟩:=h
  rfl
 ·rintro ds M Q ⟨r,x,y,rfl,hr1,q⟩
  exact af hr1 ⟨_,rfl,af hr1 ⟨M,.refl,q⟩⟩
end
end Z
namespace Z
open PySem PySem.Spec PyProof.Rows L2 L3
structure aM where
 phones:List fh
 groups:List dl
def aM.pn (l:aM):List Str:=l.phones.map (·.1)
def aM.gn (l:aM):List Str:=l.groups.map (·.1)
def aM.nm (l:aM):List Str:=l.pn ++ l.gn
structure nK (l:aM):Prop where
 p1:1≤l.phones.length
 p8:l.phones.length≤8
 po:∀ p∈l.phones,nz p
 g3:l.groups.length≤3
 go:∀ g∈l.groups,km l.pn g
 nd:l.nm.Nodup
theorem jv {ss:List Str} (h:ss.Nodup):jt ss=true:=by
 unfold jt
 rw [pJ ss h]
 simp
def lJ:Sp3:=fun ds M Q=>∃ r1 r2 r3,∃ l:aM,ds=[.ref r1,.ref r2,.ref r3]∧lstM M r1=some (l.phones.map bI)∧lstM M r2=some (l.groups.map br)∧lstM M r3=some []∧nK l∧Q .non M
def nG:D→D
 | .tup (x :: _)=>x
 | _=>.non
theorem iW (ps:List fh):(ps.map bI).map nG=(ps.map (·.1)).map D.str:=by
 rw [List.map_map,List.map_map]
 rfl
theorem lz (ps:List dl):(ps.map br).map nG=(ps.map (·.1)).map D.str:=by
 rw [List.map_map,List.map_map]
 rfl
section
variable {P:Program} {w:World} {K:PySem.W.Frag} {mg:Str→Option Value} {base:Heap} {a:Ad}
theorem lP (G:Gl K mg a):Fn3 P w K mg base 6 a.f_check_plan a.fd_check_plan ["phones","groups","wishes"] lJ:=by
 have C_need:=kh (P:=P) (w:=w) (base:=base) G
 have C_all_unlike:=me (P:=P) (w:=w) (base:=base) G
 have C_check_phones:=j5 (P:=P) (w:=w) (base:=base) G
 have C_check_groups:=j3 (P:=P) (w:=w) (base:=base) G
 have C_check_wishes:=j7 (P:=P) (w:=w) (base:=base) G
 refine aR G.fn_check_plan gi (fun ds M Q h=>?_) (fun cdv A outer s H E hr=>⟨_,(aj (aE (ay C_check_phones (hr.mono (by first | decide | omega)) rfl G.mg_check_phones G.kp_check_phones G.b_check_phones (ae (aa 0 (pv 0)) ai)))
 (aj (fN (i:=3) gi.nd rfl (Or.inl rfl) rfl (c9 (ix:=[none]) (N':=["phone"]) (by kernel_rfl)) (bM (aa 0 (pv 0))) (fun C s0 H0 ex=>(aF (i:=0) (show List.Nodup (["phone"]:List Str) by decide +kernel) rfl (Or.inl rfl))) (fun C s0 H0 ex=>dI) (fun C s0 H0 ex=>(aC (aa 0 (pv 0)) ao)))
 (aj (aE (ay C_check_groups (hr.mono (by first | decide | omega)) rfl G.mg_check_groups G.kp_check_groups G.b_check_groups (ae (aa 1 (pv 1)) (ae (aa 3 (pv 3)) ai))))
 (aj (aG (i:=4) gi.nd rfl (Or.inl rfl) (bt (aa 3 (pv 3)) (bV rfl (c9 (ix:=[none]) (N':=["group"]) (by kernel_rfl)) (bM (aa 1 (pv 1))) (fun C s0 H0 ex=>(aF (i:=0) (show List.Nodup (["group"]:List Str) by decide +kernel) rfl (Or.inl rfl))) (fun C s0 H0 ex=>dI) (fun C s0 H0 ex=>(aC (aa 0 (pv 0)) ao)))))
 (aj (aE (ay C_need (hr.mono (by first | decide | omega)) rfl G.mg_need G.kp_need G.b_need (ae (ay C_all_unlike (hr.mono (by first | decide | omega)) rfl G.mg_all_unlike G.kp_all_unlike G.b_all_unlike (ae (aa 4 (pv 4)) ai)) (ae ar ai))))
 (ak (aE (ay C_check_wishes (hr.mono (by first | decide | omega)) rfl G.mg_check_wishes G.kp_check_wishes G.b_check_wishes (ae (aa 2 (pv 2)) (ae (aa 3 (pv 3)) (ae (aa 4 (pv 4)) ai))))))))))),?_⟩)
 ·obtain ⟨r1,r2,r3,l,rfl,_⟩:=h
  rfl
 ·rintro ds M Q ⟨r1,r2,r3,l,rfl,h1,h2,h3,ok,q⟩
  have hz:sizeLine=16777216:=sizeLine_eq
  have l1:=ok.p8
  have l2:=ok.g3
  refine ⟨r1,l.phones,rfl,h1,ok.p1,ok.p8,ok.po,af h1 ?_⟩
  refine cH (f:=nG) h1 _ [] _ (by rw [List.length_map]; simp only [List.length_nil]; omega) (fun d hd k hk=>?_) fun p hp=>?_
  ·obtain ⟨x,_,rfl⟩:=List.mem_map.mp hd
   exact hk
  rw [List.nil_append,iW]
  have s1:=L3.Sub.new (c:=.lst ((l.phones.map (·.1)).map D.str)) hp
  have lp:lstM (au M p (.lst ((l.phones.map (·.1)).map D.str))) p=some (l.pn.map D.str):=av
  generalize au M p (.lst ((l.phones.map (·.1)).map D.str))=M1 at s1 lp ⊢
  refine ⟨r2,l.groups,p,l.pn,rfl,s1.lst h2,lp,ok.g3,ok.go,?_⟩
  refine af (s1.lst h2) (cH (f:=nG) (s1.lst h2) _ [] _ (by rw [List.length_map]; simp only [List.length_nil]; omega) (fun d hd k hk=>?_) fun p2 hp2=>?_)
  ·obtain ⟨x,_,rfl⟩:=List.mem_map.mp hd
   exact hk
  rw [List.nil_append,lz]
  have s2:=L3.Sub.new (c:=.lst ((l.groups.map (·.1)).map D.str)) hp2
  refine af (s2.lst lp) (af av ⟨?_,fun p3 hp3=>?_⟩)
  ·rw [List.length_map,List.length_map,List.length_map]
   show (l.phones.map (·.1)).length + _≤_
   rw [List.length_map]
   omega
  have en:l.pn.map D.str ++ (l.groups.map (·.1)).map D.str=l.nm.map D.str:=by
   unfold aM.nm
   rw [List.map_append]
   rfl
  rw [en]
  have s3:=s2.trans (L3.Sub.new (c:=.lst (l.nm.map D.str)) hp3)
  have l3:lstM (au (au M1 p2 (.lst ((l.groups.map (·.1)).map D.str))) p3 (.lst (l.nm.map D.str))) p3=some (l.nm.map D.str):=av
  generalize au (au M1 p2 (.lst ((l.groups.map (·.1)).map D.str))) p3 (.lst (l.nm.map D.str))=M3 at s3 l3 ⊢
  have ln:l.nm.length < 4000:=by
   unfold aM.nm aM.pn aM.gn
   rw [List.length_append,List.length_map,List.length_map]
   omega
  refine ⟨_,l.nm,rfl,.inr ⟨p3,rfl,l3⟩,ln,_,by rw [jv ok.nd],?_⟩
  exact ⟨r3,_,_,rfl,s3.lst (s1.lst h3),M,s1.trans s3,q⟩
end
end Z
namespace Z
open PySem PySem.Spec PyProof.Rows L2 L3
def xi (ph gr ws on pr gd:Addr):List (Str × D):=[("phones",.ref ph),("groups",.ref gr),("wishes",.ref ws),("on",.ref on),("phone_rows",.ref pr),("group_rows",.ref gd)]
def yM (l:aM):List (Key × D):=l.phones.map fun p=>(Sum.inr p.1,bI p)
def pk (l:aM):List (Key × D):=l.groups.map fun g=>(Sum.inr g.1,br g)
def dR (a:Ad) (M:Mp) (p:Addr) (l:aM):Prop:=∃ ph gr ws on pr gd,M p=some (.ins a.c_Plan (xi ph gr ws on pr gd))∧lstM M ph=some (l.phones.map bI)∧lstM M gr=some (l.groups.map br) ∧
 lstM M ws=some []∧lstM M on=some []∧dkM M pr=some (yM l)∧dkM M gd=some (pk l)
theorem dR.sub {a:Ad} {M M':Mp} {p:Addr} {l:aM} (h:dR a M p l) (s:L3.Sub M M'):dR a M' p l:=by
 obtain ⟨ph,gr,ws,on,pr,gd,h1,h2,h3,h4,h5,h6,h7⟩:=h
 exact ⟨ph,gr,ws,on,pr,gd,s _ _ h1,s.lst h2,s.lst h3,s.lst h4,s.lst h5,s.dk h6,s.dk h7⟩
def vv (a:Ad):Sp3:=fun ds M Q=>∃ p r1 r2 r3,∃ l:aM,ds=[.ref p,.ref r1,.ref r2,.ref r3]∧M p=some (.ins a.c_Plan [])∧lstM M r1=some (l.phones.map bI)∧lstM M r2=some (l.groups.map br)∧lstM M r3=some []∧nK l ∧
 ∀ M',dm p M M'→dR a M' p l→(∀ M'',(∀ b c,(b=p∨M b=none)→M' b=some c→M'' b=some c)→dR a M'' p l)→Q .non M'
theorem cI {M N:Mp} {p x:Addr} {c:gz} (k:dm p M N) (hp:N p=some c) (h:N x=none):M x=none:=by
 cases e:M x with
 | none=>rfl
 | some d =>
  have n:x ≠ p:=fun z=>by rw [z,hp] at h; cases h
  rw [k x d n e] at h
  cases h
theorem fK {M:Mp} {a:Addr} {es:List (Key × D)} (h:dkM M a=some es):M a=some (.dk es):=by
 unfold dkM at h
 split at h
 ·rename_i e; rw [e]; cases h; rfl
 ·cases h
theorem fM {α:Type} (f:α→Str) (g:α→D):∀ l:List α,gG (l.map fun x=>D.tup [.str (f x),g x])=some (l.map fun x=>(Sum.inr (f x),g x))
 | []=>rfl
 | x :: r=>by
  show (gG (r.map fun x=>D.tup [.str (f x),g x])).map ((Sum.inr (f x),g x) :: ·)=_
  rw [fM f g r]
  rfl
theorem rD {ss:List Str} (h:ss.Nodup):(ss.map fun x=>(Sum.inr x:Key)).Nodup:=by
 induction ss with
 | nil=>exact List.nodup_nil
 | cons x r ih =>
  obtain ⟨h1,h2⟩:=List.nodup_cons.mp h
  rw [List.map_cons]
  refine List.nodup_cons.mpr ⟨fun z=>h1 ?_,ih h2⟩
  obtain ⟨y,hy,e⟩:=List.mem_map.mp z
  cases e
  exact hy
theorem gH {α:Type} {f:α→Str} {g:α→D} {l:List α} (h:(l.map f).Nodup):((l.map fun x=>((Sum.inr (f x):Key),g x)).map (·.1)).Nodup:=by
 rw [List.map_map]
 have:=rD h
 rw [List.map_map] at this
 exact this
def kr (d:D):D:=.tup [nG d,d]
theorem oE (ps:List fh):(ps.map bI).map kr=ps.map fun p=>D.tup [.str p.1,bI p]:=by
 rw [List.map_map]
 rfl
theorem oY (ps:List dl):(ps.map br).map kr=ps.map fun p=>D.tup [.str p.1,br p]:=by
 rw [List.map_map]
 rfl
section
variable {P:Program} {w:World} {K:PySem.W.Frag} {mg:Str→Option Value} {base:Heap} {a:Ad}
theorem wD (G:Gl K mg a):Fn3 P w K mg base 7 a.f_Plan_init a.fd_Plan_init ["self","phones","groups","wishes"] (vv a):=by
 have C_check_plan:=lP (P:=P) (w:=w) (base:=base) G
 refine aR G.fn_Plan_init mZ (fun ds M Q h=>?_) (fun cdv A outer s H E hr=>⟨_,(aj (aE (ay C_check_plan (hr.mono (by first | decide | omega)) rfl G.mg_check_plan G.kp_check_plan G.b_check_plan (ae (aa 1 (pv 1)) (ae (aa 2 (pv 2)) (ae (aa 3 (pv 3)) ai)))))
 (aj (bc (aa 0 (pv 0)) (ba fk rfl G.no_list fm (ae (aa 1 (pv 1)) ai)))
 (aj (bc (aa 0 (pv 0)) (ba fk rfl G.no_list fm (ae (aa 2 (pv 2)) ai)))
 (aj (bc (aa 0 (pv 0)) (bV rfl (c9 (ix:=[none,none]) (N':=["on","wish"]) (by kernel_rfl)) (bM (aa 3 (pv 3))) (fun C s0 H0 ex=>(fQ (n:=2) rfl (bn (aF (i:=0) (show List.Nodup (["on","wish"]:List Str) by decide +kernel) rfl (Or.inl rfl)) (bn (aF (i:=1) (show List.Nodup (["on","wish"]:List Str) by decide +kernel) rfl (Or.inl rfl)) eX)))) (fun C s0 H0 ex=>dI) (fun C s0 H0 ex=>uf)))
 (aj (bc (aa 0 (pv 0)) (bV rfl (c9 (ix:=[none,none]) (N':=["on","wish"]) (by kernel_rfl)) (bM (aa 3 (pv 3))) (fun C s0 H0 ex=>(fQ (n:=2) rfl (bn (aF (i:=0) (show List.Nodup (["on","wish"]:List Str) by decide +kernel) rfl (Or.inl rfl)) (bn (aF (i:=1) (show List.Nodup (["on","wish"]:List Str) by decide +kernel) rfl (Or.inl rfl)) eX)))) (fun C s0 H0 ex=>dI) (fun C s0 H0 ex=>(aa 0 (pv 0)))))
 (aj (bc (aa 0 (pv 0)) (ba (kg rfl) rfl G.no_dict ki (ae (bV rfl (c9 (ix:=[none]) (N':=["phone"]) (by kernel_rfl)) (bM (aa 1 (pv 1))) (fun C s0 H0 ex=>(aF (i:=0) (show List.Nodup (["phone"]:List Str) by decide +kernel) rfl (Or.inl rfl))) (fun C s0 H0 ex=>dI) (fun C s0 H0 ex=>(aK (ae (aC (aa 0 (pv 0)) ao) (ae (aa 0 (pv 0)) ai))))) ai)))
 (ak (bc (aa 0 (pv 0)) (ba (kg rfl) rfl G.no_dict ki (ae (bV rfl (c9 (ix:=[none]) (N':=["group"]) (by kernel_rfl)) (bM (aa 2 (pv 2))) (fun C s0 H0 ex=>(aF (i:=0) (show List.Nodup (["group"]:List Str) by decide +kernel) rfl (Or.inl rfl))) (fun C s0 H0 ex=>dI) (fun C s0 H0 ex=>(aK (ae (aC (aa 0 (pv 0)) ao) (ae (aa 0 (pv 0)) ai))))) ai)))))))))),?_⟩)
 ·obtain ⟨p,r1,r2,r3,l,rfl,_⟩:=h
  rfl
 ·rintro ds M Q ⟨p,r1,r2,r3,l,rfl,hp,h1,h2,h3,ok,q⟩
  have hz:sizeLine=16777216:=sizeLine_eq
  have l1:=ok.p8
  have l2:=ok.g3
  refine ⟨r1,r2,r3,l,rfl,h1,h2,h3,ok,?_⟩
  refine af h1 fun ph hph=>?_
  obtain ⟨n1,e1,k1,c1,p1⟩:=dF (fs':=[("phones",.ref ph)]) (c:=.lst (l.phones.map bI)) hp hph
  refine ap e1 ⟨G.na_Plan_phones,by show 0 < 1000; decide,?_⟩
  show fE _ _ _ _ (au (au M ph (.lst (l.phones.map bI))) p (.ins a.c_Plan [("phones",.ref ph)]))
  generalize au (au M ph (.lst (l.phones.map bI))) p (.ins a.c_Plan [("phones",.ref ph)])=N1 at k1 c1 p1 ⊢
  have h1':=k1.lst (aI h1 hp) h1
  have h2':=k1.lst (aI h2 hp) h2
  have h3':=k1.lst (aI h3 hp) h3
  have f1:lstM N1 ph=some (l.phones.map bI):=dB c1
  refine af h2' fun gr hgr=>?_
  obtain ⟨n2,e2,k2,c2,p2⟩:=dF (fs':=[("phones",.ref ph),("groups",.ref gr)]) (c:=.lst (l.groups.map br)) p1 hgr
  refine ap e2 ⟨G.na_Plan_groups,by show 1 < 1000; decide,?_⟩
  show fE _ _ _ _ (au (au N1 gr (.lst (l.groups.map br))) p (.ins a.c_Plan [("phones",.ref ph),("groups",.ref gr)]))
  generalize au (au N1 gr (.lst (l.groups.map br))) p (.ins a.c_Plan [("phones",.ref ph),("groups",.ref gr)])=N2 at k2 c2 p2 ⊢
  have g1:=k2.lst (aI h1' p1) h1'
  have g2:=k2.lst (aI h2' p1) h2'
  have g3:=k2.lst (aI h3' p1) h3'
  have f2:=k2.lst (aI f1 p1) f1
  have f3:lstM N2 gr=some (l.groups.map br):=dB c2
  have kk2:=k1.trans k2
  have m2:M gr=none:=cI k1 p1 hgr
  clear h1' h2' h3' f1 c1 c2 k1 k2 e1 e2
  refine af g3 ⟨Nat.zero_le _,fun ws hws=>?_⟩
  obtain ⟨n3,e3,k3,c3,p3⟩:=dF (fs':=[("phones",.ref ph),("groups",.ref gr),("wishes",.ref ws)]) (c:=.lst []) p2 hws
  refine ap e3 ⟨G.na_Plan_wishes,by show 2 < 1000; decide,?_⟩
  show fE _ _ _ _ (au (au N2 ws (.lst [])) p (.ins a.c_Plan [("phones",.ref ph),("groups",.ref gr),("wishes",.ref ws)]))
  generalize au (au N2 ws (.lst [])) p (.ins a.c_Plan [("phones",.ref ph),("groups",.ref gr),("wishes",.ref ws)])=N3 at k3 c3 p3 ⊢
  have sx:L3.Sub N2 N2:=.refl
  have px:=sx _ _ p2
  have i1:=k3.lst (aI (sx.lst g1) px) (sx.lst g1)
  have i2:=k3.lst (aI (sx.lst g2) px) (sx.lst g2)
  have i3:=k3.lst (aI (sx.lst g3) px) (sx.lst g3)
  have f4:=k3.lst (aI (sx.lst f2) px) (sx.lst f2)
  have f5:=k3.lst (aI (sx.lst f3) px) (sx.lst f3)
  have f6:lstM N3 ws=some []:=dB c3
  have kk3:=(kk2.trans sx.keep).trans k3
  have m3:M ws=none:=cI (kk2.trans sx.keep) px hws
  clear g1 g2 g3 f2 f3 c3 k3 e3 px kk2
  refine af i3 ⟨Nat.zero_le _,fun on hon=>?_⟩
  obtain ⟨n4,e4,k4,c4,p4⟩:=dF (fs':=[("phones",.ref ph),("groups",.ref gr),("wishes",.ref ws),("on",.ref on)]) (c:=.lst []) p3 hon
  refine ap e4 ⟨G.na_Plan_on,by show 3 < 1000; decide,?_⟩
  show fE _ _ _ _ (au (au N3 on (.lst [])) p (.ins a.c_Plan [("phones",.ref ph),("groups",.ref gr),("wishes",.ref ws),("on",.ref on)]))
  generalize au (au N3 on (.lst [])) p (.ins a.c_Plan [("phones",.ref ph),("groups",.ref gr),("wishes",.ref ws),("on",.ref on)])=N4 at k4 c4 p4 ⊢
  have j1:=k4.lst (aI i1 p3) i1
  have j2:=k4.lst (aI i2 p3) i2
  have f7:=k4.lst (aI f4 p3) f4
  have f8:=k4.lst (aI f5 p3) f5
  have f9:=k4.lst (aI f6 p3) f6
  have fa:lstM N4 on=some []:=dB c4
  have kk4:=kk3.trans k4
  have m4:M on=none:=cI kk3 p3 hon
  clear i1 i2 i3 f4 f5 f6 c4 k4 e4 kk3
  refine af j1 (cH (f:=kr) j1 _ [] _ (by rw [List.length_map]; simp only [List.length_nil]; omega) (fun d hd k hk=>?_) fun q1 hq1=>?_)
  ·obtain ⟨v,_,rfl⟩:=List.mem_map.mp hd
   exact ⟨few rfl,hk⟩
  rw [List.nil_append,oE]
  have sq1:=L3.Sub.new (c:=.lst (l.phones.map fun p=>D.tup [.str p.1,bI p])) hq1
  refine af av (af (fM (fun p:fh=>p.1) bI l.phones) ⟨gH (List.Nodup.sublist (List.sublist_append_left _ _) ok.nd),fun pr hpr=>?_⟩)
  obtain ⟨n5,e5,k5,c5,p5⟩:=dF (fs':=[("phones",.ref ph),("groups",.ref gr),("wishes",.ref ws),("on",.ref on),("phone_rows",.ref pr)]) (c:=.dk (l.phones.map fun x=>(Sum.inr x.1,bI x))) (sq1 _ _ p4) hpr
  refine ap e5 ⟨G.na_Plan_phone_rows,by show 4 < 1000; decide,?_⟩
  have k5:=sq1.keep.trans k5
  have eput:putD "phone_rows" (.ref pr) [("phones",.ref ph),("groups",.ref gr),("wishes",.ref ws),("on",.ref on)]=([("phones",.ref ph),("groups",.ref gr),("wishes",.ref ws),("on",.ref on),("phone_rows",.ref pr)]:List (Str × D)):=rfl
  rw [eput]
  generalize au (au (au N4 q1 (.lst (l.phones.map fun p=>D.tup [.str p.1,bI p]))) pr (.dk (l.phones.map fun x=>(Sum.inr x.1,bI x)))) p (.ins a.c_Plan [("phones",.ref ph),("groups",.ref gr),("wishes",.ref ws),("on",.ref on),("phone_rows",.ref pr)])=N5 at k5 c5 p5 ⊢
  have mm:=k5.lst (aI j2 p4) j2
  have fb:=k5.lst (aI f7 p4) f7
  have fc:=k5.lst (aI f8 p4) f8
  have fd:=k5.lst (aI f9 p4) f9
  have fe:=k5.lst (aI fa p4) fa
  have ff:dkM N5 pr=some (yM l):=iF c5
  have kk5:=kk4.trans k5
  have m5:M pr=none:=cI (kk4.trans sq1.keep) (sq1 _ _ p4) hpr
  clear j1 j2 f7 f8 f9 fa c5 k5 e5 kk4
  refine af mm (cH (f:=kr) mm _ [] _ (by rw [List.length_map]; simp only [List.length_nil]; omega) (fun d hd k hk=>?_) fun q2 hq2=>?_)
  ·obtain ⟨v,_,rfl⟩:=List.mem_map.mp hd
   exact ⟨few rfl,hk⟩
  rw [List.nil_append,oY]
  have sq2:=L3.Sub.new (c:=.lst (l.groups.map fun g=>D.tup [.str g.1,br g])) hq2
  refine af av (af (fM (fun p:dl=>p.1) br l.groups) ⟨gH (List.Nodup.sublist (List.sublist_append_right _ _) ok.nd),fun gd hgd=>?_⟩)
  obtain ⟨n6,e6,k6,c6,p6⟩:=dF (fs':=xi ph gr ws on pr gd) (c:=.dk (pk l)) (sq2 _ _ p5) hgd
  have k6:=sq2.keep.trans k6
  refine ap e6 ⟨G.na_Plan_group_rows,by show 5 < 1000; decide,_,.refl,?_⟩
  have m6:M gd=none:=cI (kk5.trans sq2.keep) (sq2 _ _ p5) hgd
  have y1:=k6.lst (aI fb p5) fb
  have y2:=k6.lst (aI fc p5) fc
  have y3:=k6.lst (aI fd p5) fd
  have y4:=k6.lst (aI fe p5) fe
  have y5:=k6.dk (kY ff p5) ff
  refine q _ (kk5.trans k6) ⟨ph,gr,ws,on,pr,gd,p6,y1,y2,y3,y4,y5,iF c6⟩ fun M'' hs=>?_
  exact ⟨ph,gr,ws,on,pr,gd,hs _ _ (.inl rfl) p6,dB (hs _ _ (.inr hph) (bo y1)),dB (hs _ _ (.inr m2) (bo y2)),dB (hs _ _ (.inr m3) (bo y3)),dB (hs _ _ (.inr m4) (bo y4)),iF (hs _ _ (.inr m5) (fK y5)),iF (hs _ _ (.inr m6) c6)⟩
end
end Z
namespace Z
open PySem PySem.Spec PyProof.Rows L2 L3
theorem ir {α:Type} (f:α→Str) (g:α→D) (k:Str):∀ l:List α,eE (l.map fun x=>((Sum.inr (f x):Key),g x)) (Sum.inr k)=(l.find? fun x=>decide (f x=k)).map g
 | []=>rfl
 | x :: r=>by
  have ih:=ir f g k r
  unfold eE at ih ⊢
  rw [List.map_cons,List.find?_cons,List.find?_cons]
  by_cases h:f x=k
  ·have h':decide ((Sum.inr (f x):Key)=Sum.inr k)=true:=decide_eq_true (by rw [h])
   simp [h]
  ·have h':¬ (Sum.inr (f x):Key)=Sum.inr k:=fun z=>h (Sum.inr.inj z)
   simp only [h,h',decide_false]
   exact ih
def aM.phone (l:aM) (x:Str):Option fh:=l.phones.find? fun p=>decide (p.1=x)
def aM.group (l:aM) (x:Str):Option dl:=l.groups.find? fun g=>decide (g.1=x)
def aM.phonesOf (l:aM) (x:Str):List Str:=(l.group x).elim [x] fun g=>g.2.2
def aM.manner (l:aM) (x:Str):Str:=(l.group x).elim "one" fun g=>g.2.1
theorem sT (l:aM) (x:Str):eE (yM l) (Sum.inr x)=(l.phone x).map bI:=ir (fun p:fh=>p.1) bI x l.phones
theorem gA (l:aM) (x:Str):eE (pk l) (Sum.inr x)=(l.group x).map br:=ir (fun p:dl=>p.1) br x l.groups
def eF (a:Ad):Sp3:=fun ds M Q=>∃ p,∃ l:aM,ds=[.ref p]∧dR a M p l∧l.phones.length≤100∧∀ q,M q=none→Q (.ref q) (au M q (.lst (l.pn.map D.str)))
def jj (a:Ad):Sp3:=fun ds M Q=>∃ p,∃ l:aM,ds=[.ref p]∧dR a M p l∧l.phones.length≤100∧l.groups.length≤100∧∀ q,M q=none→Q (.ref q) (au M q (.lst (l.nm.map D.str)))
def iZ (a:Ad):Sp3:=fun ds M Q=>∃ p x v,∃ l:aM,ds=[.ref p,.str x]∧dR a M p l∧l.phone x=some v∧Q (.int v.2.1) M
def dL (a:Ad):Sp3:=fun ds M Q=>∃ p x,∃ l:aM,ds=[.ref p,.str x]∧dR a M p l∧∀ q,M q=none→Q (.ref q) (au M q (.lst ((l.phonesOf x).map D.str)))
def gq (a:Ad):Sp3:=fun ds M Q=>∃ p x,∃ l:aM,ds=[.ref p,.str x]∧dR a M p l∧Q (.str (l.manner x)) M
section
variable {P:Program} {w:World} {K:PySem.W.Frag} {mg:Str→Option Value} {base:Heap} {a:Ad}
theorem fG (G:Gl K mg a):Fn3 P w K mg base 1 a.f_Plan_phone_names a.fd_Plan_phone_names ["self"] (eF a):=by
 refine aR G.fn_Plan_phone_names iA (fun ds M Q h=>?_) (fun cdv A outer s H E hr=>⟨_,(ak (aB (bV rfl (c9 (ix:=[none]) (N':=["phone"]) (by kernel_rfl)) (bM (aw (aa 0 (pv 0)))) (fun C s0 H0 ex=>(aF (i:=0) (show List.Nodup (["phone"]:List Str) by decide +kernel) rfl (Or.inl rfl))) (fun C s0 H0 ex=>dI) (fun C s0 H0 ex=>(aC (aa 0 (pv 0)) ao))))),?_⟩)
 ·obtain ⟨p,l,rfl,_⟩:=h
  rfl
 ·rintro ds M Q ⟨p,l,rfl,hp,hl,q⟩
  have hz:sizeLine=16777216:=sizeLine_eq
  obtain ⟨ph,gr,ws,on,pr,gd,h1,h2,h3,h4,h5,h6,h7⟩:=hp
  refine ap h1 (af rfl (af h2 ?_))
  refine cH (f:=nG) h2 _ [] _ (by rw [List.length_map]; simp only [List.length_nil]; omega) (fun d hd k hk=>?_) fun q1 hq1=>?_
  ·obtain ⟨x,_,rfl⟩:=List.mem_map.mp hd
   exact hk
  rw [List.nil_append,iW]
  exact ⟨_,.refl,q q1 hq1⟩
theorem lY (G:Gl K mg a):Fn3 P w K mg base 2 a.f_Plan_names a.fd_Plan_names ["self"] (jj a):=by
 have C_Plan_phone_names:=fG (P:=P) (w:=w) (base:=base) G
 refine aR G.fn_Plan_names lG (fun ds M Q h=>?_) (fun cdv A outer s H E hr=>⟨_,(ak (aB (bt (jp (R:=fun C sp=>C=a.c_Plan∧sp=eF a) (aa 0 (pv 0)) (fun C sp ⟨e1,e2⟩=>by subst e1 e2; exact ⟨G.cl_Plan,_,_,_,G.mt_Plan_phone_names,C_Plan_phone_names,G.b_Plan_phone_names⟩) (hr.mono (by first | decide | omega))) (bV rfl (c9 (ix:=[none]) (N':=["group"]) (by kernel_rfl)) (bM (aw (aa 0 (pv 0)))) (fun C s0 H0 ex=>(aF (i:=0) (show List.Nodup (["group"]:List Str) by decide +kernel) rfl (Or.inl rfl))) (fun C s0 H0 ex=>dI) (fun C s0 H0 ex=>(aC (aa 0 (pv 0)) ao)))))),?_⟩)
 ·obtain ⟨p,l,rfl,_⟩:=h
  rfl
 ·rintro ds M Q ⟨p,l,rfl,hp,hl,hl2,q⟩
  have hz:sizeLine=16777216:=sizeLine_eq
  have hpl:=hp
  obtain ⟨ph,gr,ws,on,pr,gd,h1,h2,h3,h4,h5,h6,h7⟩:=hp
  refine ap h1 ⟨rfl,_,⟨rfl,rfl⟩,p,l,rfl,hpl,hl,fun q1 hq1=>?_⟩
  have s1:=L3.Sub.new (c:=.lst (l.pn.map D.str)) hq1
  have e1:lstM (au M q1 (.lst (l.pn.map D.str))) q1=some (l.pn.map D.str):=av
  generalize au M q1 (.lst (l.pn.map D.str))=M1 at s1 e1 ⊢
  have h3':=s1.lst h3
  refine ap (s1 _ _ h1) (af rfl (af h3' ?_))
  refine cH (f:=nG) h3' _ [] _ (by rw [List.length_map]; simp only [List.length_nil]; omega) (fun d hd k hk=>?_) fun q2 hq2=>?_
  ·obtain ⟨x,_,rfl⟩:=List.mem_map.mp hd
   exact hk
  rw [List.nil_append,lz]
  have s2:=L3.Sub.new (c:=.lst ((l.groups.map (·.1)).map D.str)) hq2
  refine af (s2.lst e1) (af av ⟨?_,fun q3 hq3=>?_⟩)
  ·rw [List.length_map,List.length_map,List.length_map]
   show (l.phones.map (·.1)).length + _≤_
   rw [List.length_map]
   omega
  have en:l.pn.map D.str ++ (l.groups.map (·.1)).map D.str=l.nm.map D.str:=by
   unfold aM.nm
   rw [List.map_append]
   rfl
  rw [en]
  exact ⟨_,(s1.trans s2).upd,q q3 ((s1.trans s2).none hq3)⟩
theorem lQ (G:Gl K mg a):Fn3 P w K mg base 1 a.f_Plan_lines a.fd_Plan_lines ["self","phone"] (iZ a):=by
 refine aR G.fn_Plan_lines lX (fun ds M Q h=>?_) (fun cdv A outer s H E hr=>⟨_,(ak (aB (aC (im (hu9 hr) (aw (aa 0 (pv 0))) (aa 1 (pv 1))) ao))),?_⟩)
 ·obtain ⟨p,x,v,l,rfl,_⟩:=h
  rfl
 ·rintro ds M Q ⟨p,x,v,l,rfl,hp,hv,q⟩
  obtain ⟨ph,gr,ws,on,pr,gd,h1,h2,h3,h4,h5,h6,h7⟩:=hp
  exact ap h1 (af rfl (af rfl (af h6 (af (x:=bI v) (by rw [sT,hv]; rfl) ⟨M,.refl,q⟩))))
theorem eN (G:Gl K mg a):Fn3 P w K mg base 1 a.f_Plan_phones_of a.fd_Plan_phones_of ["self","name"] (dL a):=by
 refine aR G.fn_Plan_phones_of jf (fun ds M Q h=>?_) (fun cdv A outer s H E hr=>⟨_,(aj (aL (sJ (hu9 hr) (aa 1 (pv 1)) (aw (aa 0 (pv 0))))
 (ak (aB (ba fk rfl G.no_list fm (ae (aC (im (hu9 hr) (aw (aa 0 (pv 0))) (aa 1 (pv 1))) ao) ai))))
 aD)
 (ak (aB (de (ae (aa 1 (pv 1)) ai))))),?_⟩)
 ·obtain ⟨p,x,l,rfl,_⟩:=h
  rfl
 ·rintro ds M Q ⟨p,x,l,rfl,hp,q⟩
  obtain ⟨ph,gr,ws,on,pr,gd,h1,h2,h3,h4,h5,h6,h7⟩:=hp
  refine ap h1 (af rfl (af h7 ?_))
  cases e:l.group x with
  | none =>
   refine qc (c:=(eE (pk l) (Sum.inr x)).isSome) (by rw [gA,e]; rfl) ⟨few rfl,fun q1 hq1=>⟨_,.refl,?_⟩⟩
   have:=q q1 hq1
   unfold aM.phonesOf at this
   rw [e] at this
   exact this
  | some g =>
   refine o1 (c:=(eE (pk l) (Sum.inr x)).isSome) (by rw [gA,e]; rfl) (ap h1 (af rfl (af rfl (af h7 (af (x:=br g) (by rw [gA,e]; rfl) fun q1 hq1=>⟨_,.refl,?_⟩)))))
   have:=q q1 hq1
   unfold aM.phonesOf at this
   rw [e] at this
   exact this
theorem hJ (G:Gl K mg a):Fn3 P w K mg base 1 a.f_Plan_manner a.fd_Plan_manner ["self","name"] (gq a):=by
 refine aR G.fn_Plan_manner kS (fun ds M Q h=>?_) (fun cdv A outer s H E hr=>⟨_,(aj (aL (sJ (hu9 hr) (aa 1 (pv 1)) (aw (aa 0 (pv 0))))
 (ak (aB (aC (im (hu9 hr) (aw (aa 0 (pv 0))) (aa 1 (pv 1))) ao)))
 aD)
 (ak (aB ar))),?_⟩)
 ·obtain ⟨p,x,l,rfl,_⟩:=h
  rfl
 ·rintro ds M Q ⟨p,x,l,rfl,hp,q⟩
  obtain ⟨ph,gr,ws,on,pr,gd,h1,h2,h3,h4,h5,h6,h7⟩:=hp
  refine ap h1 (af rfl (af h7 ?_))
  cases e:l.group x with
  | none =>
   refine qc (c:=(eE (pk l) (Sum.inr x)).isSome) (by rw [gA,e]; rfl) ⟨M,.refl,?_⟩
   unfold aM.manner at q
   rw [e] at q
   exact q
  | some g =>
   refine o1 (c:=(eE (pk l) (Sum.inr x)).isSome) (by rw [gA,e]; rfl) (ap h1 (af rfl (af rfl (af h7 (af (x:=br g) (by rw [gA,e]; rfl) ⟨M,.refl,?_⟩)))))
   unfold aM.manner at q
   rw [e] at q
   exact q
end
end Z
namespace Z
open PySem PySem.Spec PyProof.Rows L2 L3
structure aH where
 st:Str
 cr:Str
 way:List Str
 at_:List Str
 ms:List Str
 hd:Option Str
 si:Int
 wd:D
structure eJ where
 p:Addr
 wy:Addr
structure BdA where
 b:Addr
 ca:Addr
 le:Addr
 nx:Addr
 on:Addr
 lo:Addr
 cs:List eJ
structure BdV where
 p:Addr
 h:Int
 t:Int
 calls:List aH
 legs:List D
 ps:List (Str × Int)
 log:List D
def hdD:Option Str→D
 | none=>.non
 | some x=>.str x
def cy (c:aH) (wy ad md:Addr):List (Str × D):=[("state",.str c.st),("caller",.str c.cr),("way",.ref wy),("at",.ref ad),("members",.ref md),("holder",hdD c.hd),("since",.int c.si),("word",c.wd)]
def gF (p:D) (h t:Int) (ca le nx on lo:Addr):List (Str × D):=[("plan",p),("hour",.int h),("turn",.int t),("calls",.ref ca),("legs",.ref le),("nexts",.ref nx),("on",.ref on),("log",.ref lo)]
def bC (ps:List (Str × Int)):List (Key × D):=ps.map fun p=>((Sum.inr p.1:Key),D.int p.2)
def BdA.lists (A:BdA):List Addr:=A.ca :: A.le :: A.on :: A.lo :: A.cs.map (·.wy)
def BdA.foot (A:BdA):List Addr:=A.b :: A.nx :: (A.lists ++ A.cs.map (·.p))
def dA (a:Ad) (M:Mp) (L:List Addr) (k:eJ) (c:aH):Prop:=∃ ad md,M k.p=some (.ins a.c_Call (cy c k.wy ad md))∧lstM M k.wy=some (c.way.map D.str)∧lstM M ad=some (c.at_.map D.str)∧lstM M md=some (c.ms.map D.str)∧ad ∉ L∧md ∉ L
structure az (a:Ad) (M:Mp) (A:BdA) (V:BdV):Prop where
 at_:M A.b=some (.ins a.c_Board (gF (.ref V.p) V.h V.t A.ca A.le A.nx A.on A.lo))
 ca:lstM M A.ca=some (A.cs.map fun k=>D.ref k.p)
 le:lstM M A.le=some V.legs
 nx:dkM M A.nx=some (bC V.ps)
 on:lstM M A.on=some []
 lo:lstM M A.lo=some V.log
 len:A.cs.length=V.calls.length
 cs:∀ (i:Nat) k c,A.cs[i]?=some k→V.calls[i]?=some c→dA a M A.lists k c
 nl:A.lists.Nodup
 np:(A.b :: A.cs.map (·.p)).Nodup
theorem dA.sub {a:Ad} {M M':Mp} {L:List Addr} {k:eJ} {c:aH} (h:dA a M L k c) (s:L3.Sub M M'):dA a M' L k c:=by
 obtain ⟨ad,md,h1,h2,h3,h4,h5⟩:=h
 exact ⟨ad,md,s _ _ h1,s.lst h2,s.lst h3,s.lst h4,h5⟩
theorem az.sub {a:Ad} {M M':Mp} {A:BdA} {V:BdV} (h:az a M A V) (s:L3.Sub M M'):az a M' A V:=⟨s _ _ h.at_,s.lst h.ca,s.lst h.le,s.dk h.nx,s.lst h.on,s.lst h.lo,h.len,fun i k c e1 e2=>(h.cs i k c e1 e2).sub s,h.nl,h.np⟩
theorem dA.keepL {a:Ad} {M M':Mp} {L:List Addr} {k:eJ} {c:aH} {x:Addr} {ds:List D} (h:dA a M L k c) (kp:dm x M M') (hl:lstM M x=some ds) (hx:x∈L) (hn:k.wy ≠ x):dA a M' L k c:=by
 obtain ⟨ad,md,h1,h2,h3,h4,h5,h6⟩:=h
 exact ⟨ad,md,kp _ _ (fun z=>by rw [z,bo hl] at h1; cases h1) h1,kp.lst hn h2,kp.lst (fun z=>h5 (z ▸ hx)) h3,kp.lst (fun z=>h6 (z ▸ hx)) h4,h5,h6⟩
theorem dA.keepI {a:Ad} {M M':Mp} {L:List Addr} {k:eJ} {c:aH} {x C:Addr} {fs:List (Str × D)} (h:dA a M L k c) (kp:dm x M M') (hi:M x=some (.ins C fs)) (hn:k.p ≠ x):dA a M' L k c:=by
 obtain ⟨ad,md,h1,h2,h3,h4,h5⟩:=h
 exact ⟨ad,md,kp _ _ hn h1,kp.lst (aI h2 hi) h2,kp.lst (aI h3 hi) h3,kp.lst (aI h4 hi) h4,h5⟩
theorem dU {M:Mp} {a p:Addr} {ds:List (Key × D)} {es:List D} (h:dkM M a=some ds) (hp:lstM M p=some es):a ≠ p:=fun z=>by
 subst z
 unfold dkM at h
 rw [bo hp] at h
 cases h
theorem dA.keepD {a:Ad} {M M':Mp} {L:List Addr} {k:eJ} {c:aH} {x:Addr} {ds:List (Key × D)} (h:dA a M L k c) (kp:dm x M M') (hd:dkM M x=some ds):dA a M' L k c:=by
 obtain ⟨ad,md,h1,h2,h3,h4,h5⟩:=h
 exact ⟨ad,md,kp _ _ (fun z=>by rw [z,fK hd] at h1; cases h1) h1,kp.lst (Ne.symm (dU hd h2)) h2,kp.lst (Ne.symm (dU hd h3)) h3,kp.lst (Ne.symm (dU hd h4)) h4,h5⟩
theorem cZ {α:Type} {l:List α} {i:Nat} {x:α} (h:l[i]?=some x):x∈l:=List.mem_of_getElem? h
theorem az.ne {a:Ad} {M:Mp} {A:BdA} {V:BdV} (h:az a M A V):A.ca ≠ A.le∧A.ca ≠ A.on∧A.ca ≠ A.lo∧A.le ≠ A.on∧A.le ≠ A.lo∧A.on ≠ A.lo∧∀ k∈A.cs,k.wy ≠ A.ca∧k.wy ≠ A.le∧k.wy ≠ A.on∧k.wy ≠ A.lo:=by
 have n:=h.nl
 unfold BdA.lists at n
 obtain ⟨n1,n⟩:=List.nodup_cons.mp n
 obtain ⟨n2,n⟩:=List.nodup_cons.mp n
 obtain ⟨n3,n⟩:=List.nodup_cons.mp n
 obtain ⟨n4,n⟩:=List.nodup_cons.mp n
 have w:∀ k∈A.cs,k.wy∈A.cs.map (·.wy):=fun k hk=>List.mem_map.mpr ⟨k,hk,rfl⟩
 refine ⟨fun z=>n1 (z ▸ by simp),fun z=>n1 (z ▸ by simp),fun z=>n1 (z ▸ by simp),fun z=>n2 (z ▸ by simp),fun z=>n2 (z ▸ by simp),fun z=>n3 (z ▸ by simp),fun k hk=>⟨fun z=>n1 ?_,fun z=>n2 ?_,fun z=>n3 ?_,fun z=>n4 ?_⟩⟩
 ·rw [← z]
  exact List.mem_cons_of_mem _ (List.mem_cons_of_mem _ (List.mem_cons_of_mem _ (w k hk)))
 ·rw [← z]
  exact List.mem_cons_of_mem _ (List.mem_cons_of_mem _ (w k hk))
 ·rw [← z]
  exact List.mem_cons_of_mem _ (w k hk)
 ·rw [← z]
  exact w k hk
theorem az.inL {a:Ad} {M:Mp} {A:BdA} {V:BdV} (_:az a M A V):A.ca∈A.lists∧A.le∈A.lists∧A.lo∈A.lists∧∀ k∈A.cs,k.wy∈A.lists:=by
 unfold BdA.lists
 exact ⟨by simp,by simp,by simp,fun k hk=>by simp; exact .inr (.inr (.inr (.inr ⟨k,hk,rfl⟩)))⟩
def cz (A:BdA) (M:Mp) (A':BdA) (M':Mp):Prop:=(∀ x c,x ∉ A.foot→M x=some c→M' x=some c)∧(∀ x∈A'.foot,x∈A.foot∨M x=none)∧∀ (i:Nat) k,A.cs[i]?=some k→A'.cs[i]?=some k
theorem cz.refl {A:BdA} {M:Mp}:cz A M A M:=⟨fun _ _ _ h=>h,fun _ h=>.inl h,fun _ _ h=>h⟩
theorem cz.trans {A A1 A2:BdA} {M M1 M2:Mp} (s:cz A M A1 M1) (u:cz A1 M1 A2 M2):cz A M A2 M2:=by
 refine ⟨fun x c n h=>u.1 x c (fun z=>?_) (s.1 x c n h),fun x hx=>?_,fun i k h=>u.2.2 i k (s.2.2 i k h)⟩
 ·rcases s.2.1 x z with y | y
  ·exact n y
  ·rw [y] at h; cases h
 ·rcases u.2.1 x hx with z | z
  ·exact s.2.1 x z
  ·by_cases y:x∈A.foot
   ·exact .inl y
   ·refine .inr ?_
    cases e:M x with
    | none=>rfl
    | some c=>rw [s.1 x c y e] at z; cases z
theorem cz.keep {A:BdA} {M M':Mp} {x:Addr} (h:x∈A.foot) (k:dm x M M'):cz A M A M':=⟨fun y c n e=>k y c (fun z=>n (z ▸ h)) e,fun _ h=>.inl h,fun _ _ h=>h⟩
theorem cz.sub {A:BdA} {M M':Mp} (s:L3.Sub M M'):cz A M A M':=⟨fun y c _ e=>s y c e,fun _ h=>.inl h,fun _ _ h=>h⟩
theorem BdA.in_foot (A:BdA):A.b∈A.foot∧A.nx∈A.foot∧A.ca∈A.foot∧A.le∈A.foot∧A.lo∈A.foot∧(∀ k∈A.cs,k.p∈A.foot)∧∀ k∈A.cs,k.wy∈A.foot:=by
 unfold BdA.foot BdA.lists
 exact ⟨by simp,by simp,by simp,by simp,by simp,fun k hk=>by simp; exact .inr (.inr (.inr (.inr (.inr (.inr (.inr ⟨k,hk,rfl⟩)))))),fun k hk=>by simp; exact .inr (.inr (.inr (.inr (.inr (.inr (.inl ⟨k,hk,rfl⟩))))))⟩
end Z
namespace Z
open PySem PySem.Spec PyProof.Rows L2 L3
section
variable {a:Ad} {M M1:Mp} {A:BdA} {V:BdV}
theorem u5 {α:Type} {l:List α} {i j:Nat} {x y:α} (h:(l.set i x)[j]?=some y):(j=i∧y=x∧i < l.length)∨(j ≠ i∧l[j]?=some y):=by
 by_cases z:j=i
 ·subst z
  by_cases hl:j < l.length
  ·rw [List.getElem?_set_self hl] at h
   exact .inl ⟨rfl,(Option.some.inj h).symm,hl⟩
  ·rw [List.getElem?_eq_none (by rw [List.length_set]; omega)] at h
   cases h
 ·rw [List.getElem?_set_ne (Ne.symm z)] at h
  exact .inr ⟨z,h⟩
theorem nL {α β:Type} {f:α→β} {l:List α} {i j:Nat} {x y:α} (nd:(l.map f).Nodup) (h1:l[i]?=some x) (h2:l[j]?=some y) (e:f x=f y):i=j:=by
 have e1:(l.map f)[i]?=some (f x):=by rw [List.getElem?_map,h1]; rfl
 have e2:(l.map f)[j]?=some (f y):=by rw [List.getElem?_map,h2]; rfl
 obtain ⟨l1,q1⟩:=List.getElem?_eq_some_iff.mp e1
 obtain ⟨l2,q2⟩:=List.getElem?_eq_some_iff.mp e2
 exact (List.getElem_inj nd).mp (q1.trans (e.trans q2.symm))
theorem az.nw (h:az a M A V):(A.cs.map (·.wy)).Nodup:=(List.nodup_cons.mp (List.nodup_cons.mp (List.nodup_cons.mp (List.nodup_cons.mp h.nl).2).2).2).2
theorem az.npp (h:az a M A V):(A.cs.map (·.p)).Nodup∧∀ k∈A.cs,k.p ≠ A.b:=⟨(List.nodup_cons.mp h.np).2,fun k hk z=>(List.nodup_cons.mp h.np).1 (z ▸ List.mem_map.mpr ⟨k,hk,rfl⟩)⟩
theorem az.putLog (h:az a M A V) {es:List D}:az a (au M A.lo (.lst es)) A { V with log:=es }∧cz A M A (au M A.lo (.lst es)):=by
 have kp:dm A.lo M (au M A.lo (.lst es)):=.put
 obtain ⟨n1,n2,n3,n4,n5,n6,nw⟩:=h.ne
 exact ⟨⟨kp _ _ (Ne.symm (aI h.lo h.at_)) h.at_,kp.lst n3 h.ca,kp.lst n5 h.le,kp.dk (dU h.nx h.lo) h.nx,kp.lst n6 h.on,av,h.len,fun i k c e1 e2=>(h.cs i k c e1 e2).keepL kp h.lo h.inL.2.2.1 (nw k (cZ e1)).2.2.2,h.nl,h.np⟩,.keep A.in_foot.2.2.2.2.1 kp⟩
theorem az.putLeg (h:az a M A V) {es:List D}:az a (au M A.le (.lst es)) A { V with legs:=es }∧cz A M A (au M A.le (.lst es)):=by
 have kp:dm A.le M (au M A.le (.lst es)):=.put
 obtain ⟨n1,n2,n3,n4,n5,n6,nw⟩:=h.ne
 exact ⟨⟨kp _ _ (Ne.symm (aI h.le h.at_)) h.at_,kp.lst n1 h.ca,av,kp.dk (dU h.nx h.le) h.nx,kp.lst (Ne.symm n4) h.on,kp.lst (Ne.symm n5) h.lo,h.len,fun i k c e1 e2=>(h.cs i k c e1 e2).keepL kp h.le h.inL.2.1 (nw k (cZ e1)).2.1,h.nl,h.np⟩,.keep A.in_foot.2.2.2.1 kp⟩
theorem az.putNx (h:az a M A V) {ps:List (Str × Int)}:az a (au M A.nx (.dk (bC ps))) A { V with ps:=ps }∧cz A M A (au M A.nx (.dk (bC ps))):=by
 have kp:dm A.nx M (au M A.nx (.dk (bC ps))):=.put
 exact ⟨⟨kp _ _ (Ne.symm (kY h.nx h.at_)) h.at_,kp.lst (Ne.symm (dU h.nx h.ca)) h.ca,kp.lst (Ne.symm (dU h.nx h.le)) h.le,iF aZ,kp.lst (Ne.symm (dU h.nx h.on)) h.on,kp.lst (Ne.symm (dU h.nx h.lo)) h.lo,h.len,fun i k c e1 e2=>(h.cs i k c e1 e2).keepD kp h.nx,h.nl,h.np⟩,.keep A.in_foot.2.1 kp⟩
theorem az.putT (h:az a M A V) {t:Int}:az a (au M A.b (.ins a.c_Board (gF (.ref V.p) V.h t A.ca A.le A.nx A.on A.lo))) A { V with t:=t }∧cz A M A (au M A.b (.ins a.c_Board (gF (.ref V.p) V.h t A.ca A.le A.nx A.on A.lo))):=by
 have kp:dm A.b M (au M A.b (.ins a.c_Board (gF (.ref V.p) V.h t A.ca A.le A.nx A.on A.lo))):=.put
 exact ⟨⟨aZ,kp.lst (aI h.ca h.at_) h.ca,kp.lst (aI h.le h.at_) h.le,kp.dk (kY h.nx h.at_) h.nx,kp.lst (aI h.on h.at_) h.on,kp.lst (aI h.lo h.at_) h.lo,h.len,fun i k c e1 e2=>(h.cs i k c e1 e2).keepI kp h.at_ (h.npp.2 k (cZ e1)),h.nl,h.np⟩,.keep A.in_foot.1 kp⟩
theorem az.putCall (h:az a M A V) {i:Nat} {k:eJ} {c c':aH} {ad md:Addr} (e1:A.cs[i]?=some k) (e2:V.calls[i]?=some c) (ew:c'.way=c.way) (la:lstM M ad=some (c'.at_.map D.str)) (lm:lstM M md=some (c'.ms.map D.str)) (na:ad ∉ A.lists) (nm:md ∉ A.lists) :
  az a (au M k.p (.ins a.c_Call (cy c' k.wy ad md))) A { V with calls:=V.calls.set i c' }∧cz A M A (au M k.p (.ins a.c_Call (cy c' k.wy ad md))):=by
 have kp:dm k.p M (au M k.p (.ins a.c_Call (cy c' k.wy ad md))):=.put
 obtain ⟨_,_,h1,h2,_⟩:=h.cs i k c e1 e2
 refine ⟨⟨kp _ _ (Ne.symm (h.npp.2 k (cZ e1))) h.at_,kp.lst (aI h.ca h1) h.ca,kp.lst (aI h.le h1) h.le,kp.dk (kY h.nx h1) h.nx,kp.lst (aI h.on h1) h.on,kp.lst (aI h.lo h1) h.lo,by rw [h.len,List.length_set],fun j k' d f1 f2=>?_,h.nl,h.np⟩,.keep (A.in_foot.2.2.2.2.2.1 k (cZ e1)) kp⟩
 rcases u5 f2 with ⟨rfl,rfl,_⟩ | ⟨hj,f2⟩
 ·rw [e1] at f1
  cases f1
  exact ⟨ad,md,aZ,by rw [ew]; exact kp.lst (aI h2 h1) h2,kp.lst (aI la h1) la,kp.lst (aI lm h1) lm,na,nm⟩
 ·exact (h.cs j k' d f1 f2).keepI kp h1 fun z=>hj (nL h.npp.1 f1 e1 z)
theorem az.putWay (h:az a M A V) {i:Nat} {k:eJ} {c:aH} {ws:List Str} (e1:A.cs[i]?=some k) (e2:V.calls[i]?=some c) :
  az a (au M k.wy (.lst (ws.map D.str))) A { V with calls:=V.calls.set i { c with way:=ws } }∧cz A M A (au M k.wy (.lst (ws.map D.str))):=by
 have kp:dm k.wy M (au M k.wy (.lst (ws.map D.str))):=.put
 obtain ⟨ad,md,h1,h2,h3,h4,h5,h6⟩:=h.cs i k c e1 e2
 obtain ⟨n1,n2,n3,n4,n5,n6,nw⟩:=h.ne
 obtain ⟨w1,w2,w3,w4⟩:=nw k (cZ e1)
 have kL:=h.inL.2.2.2 k (cZ e1)
 refine ⟨⟨kp _ _ (Ne.symm (aI h2 h.at_)) h.at_,kp.lst (Ne.symm w1) h.ca,kp.lst (Ne.symm w2) h.le,kp.dk (dU h.nx h2) h.nx,kp.lst (Ne.symm w3) h.on,kp.lst (Ne.symm w4) h.lo,by rw [h.len,List.length_set],fun j k' d f1 f2=>?_,h.nl,h.np⟩,.keep (A.in_foot.2.2.2.2.2.2 k (cZ e1)) kp⟩
 rcases u5 f2 with ⟨rfl,rfl,_⟩ | ⟨hj,f2⟩
 ·rw [e1] at f1
  cases f1
  exact ⟨ad,md,kp _ _ (Ne.symm (aI h2 h1)) h1,av,kp.lst (fun z=>h5 (z ▸ kL)) h3,kp.lst (fun z=>h6 (z ▸ kL)) h4,h5,h6⟩
 ·exact (h.cs j k' d f1 f2).keepL kp h2 kL fun z=>hj (nL h.nw f1 e1 z)
def BdA.add (A:BdA) (k:eJ):BdA:={ A with cs:=A.cs ++ [k] }
theorem jy (A:BdA) (k:eJ):(A.add k).lists=A.lists ++ [k.wy]:=by
 unfold BdA.add BdA.lists
 rw [List.map_append]
 rfl
theorem az.dom (h:az a M A V):(∀ x∈A.lists,∃ ds,lstM M x=some ds)∧∀ x∈A.foot,∃ c,M x=some c:=by
 have hc:∀ k∈A.cs,(∃ ds,lstM M k.wy=some ds)∧∃ c,M k.p=some c:=fun k hk=>by
  obtain ⟨i,hi,e⟩:=List.getElem_of_mem hk
  have e1:A.cs[i]?=some k:=by rw [List.getElem?_eq_getElem hi,e]
  have hi2:i < V.calls.length:=by rw [← h.len]; exact hi
  have e2:V.calls[i]?=some V.calls[i]:=List.getElem?_eq_getElem hi2
  obtain ⟨ad,md,h1,h2,_⟩:=h.cs i k _ e1 e2
  exact ⟨⟨_,h2⟩,_,h1⟩
 have hl:∀ x∈A.lists,∃ ds,lstM M x=some ds:=fun x hx=>by
  unfold BdA.lists at hx
  simp only [List.mem_cons,List.mem_map] at hx
  rcases hx with rfl | rfl | rfl | rfl | ⟨k,hk,rfl⟩
  ·exact ⟨_,h.ca⟩
  ·exact ⟨_,h.le⟩
  ·exact ⟨_,h.on⟩
  ·exact ⟨_,h.lo⟩
  ·exact (hc k hk).1
 refine ⟨hl,fun x hx=>?_⟩
 unfold BdA.foot at hx
 simp only [List.mem_cons,List.mem_append,List.mem_map] at hx
 rcases hx with rfl | rfl | hx | ⟨k,hk,rfl⟩
 ·exact ⟨_,h.at_⟩
 ·exact ⟨_,fK h.nx⟩
 ·obtain ⟨ds,e⟩:=hl x hx
  exact ⟨_,bo e⟩
 ·exact (hc k hk).2
theorem az.notL (h:az a M A V) {x:Addr} (hx:M x=none):x ∉ A.lists:=fun z=>by
 obtain ⟨ds,e⟩:=h.dom.1 x z
 have:=bo e
 rw [hx] at this
 cases this
theorem az.notF (h:az a M A V) {x:Addr} (hx:M x=none):x ∉ A.foot:=fun z=>by
 obtain ⟨ds,e⟩:=h.dom.2 x z
 rw [hx] at e
 cases e
theorem az.addCall (h:az a M A V) (s:L3.Sub M M1) {p wy ad md:Addr} {c:aH} (hp:M p=none) (hw:M wy=none) (ha:M ad=none) (hm:M md=none) (h1:M1 p=some (.ins a.c_Call (cy c wy ad md))) (h2:lstM M1 wy=some (c.way.map D.str)) (h3:lstM M1 ad=some (c.at_.map D.str)) (h4:lstM M1 md=some (c.ms.map D.str)) (n1:ad ≠ wy) (n2:md ≠ wy) :
  az a (au M1 A.ca (.lst ((A.cs.map fun k=>D.ref k.p) ++ [.ref p]))) (A.add ⟨p,wy⟩) { V with calls:=V.calls ++ [c] }∧cz A M (A.add ⟨p,wy⟩) (au M1 A.ca (.lst ((A.cs.map fun k=>D.ref k.p) ++ [.ref p]))):=by
 have h':=h.sub s
 have kp:dm A.ca M1 (au M1 A.ca (.lst ((A.cs.map fun k=>D.ref k.p) ++ [.ref p]))):=.put
 obtain ⟨m1,m2,m3,m4,m5,m6,nw⟩:=h.ne
 have wL:wy ∉ A.lists:=h.notL hw
 have cL:=h.inL.1
 have nl':∀ x,x ∉ A.lists→x ≠ wy→x ∉ (A.add ⟨p,wy⟩).lists:=fun x h1 h2=>by
  rw [jy,List.mem_append,List.mem_singleton]
  rintro (z | z)
  ·exact h1 z
  ·exact h2 z
 have old:∀ x c,M x=some c→x ≠ wy:=fun x c e z=>by rw [z,hw] at e; cases e
 refine ⟨⟨kp _ _ (Ne.symm (aI h'.ca h'.at_)) h'.at_,?_,kp.lst (Ne.symm m1) h'.le,kp.dk (dU h'.nx h'.ca) h'.nx,kp.lst (Ne.symm m2) h'.on,kp.lst (Ne.symm m3) h'.lo,?_,fun i k d e1 e2=>?_,?_,?_⟩,fun x d n e=>kp x d (fun z=>n (z ▸ A.in_foot.2.2.1)) (s x d e),fun x hx=>?_,fun i k e=>by show (A.cs ++ [(⟨p,wy⟩:eJ)])[i]?=some k; rw [List.getElem?_append_left (List.getElem?_eq_some_iff.mp e).1]; exact e⟩
 ·show lstM _ A.ca=some ((A.cs ++ [(⟨p,wy⟩:eJ)]).map fun k=>D.ref k.p)
  rw [List.map_append]
  exact av
 ·show (A.cs ++ [(⟨p,wy⟩:eJ)]).length=(V.calls ++ [c]).length
  rw [List.length_append,List.length_append,h.len]
  rfl
 ·have e1:(A.cs ++ [(⟨p,wy⟩:eJ)])[i]?=some k:=e1
  have e2:(V.calls ++ [c])[i]?=some d:=e2
  by_cases hi:i < A.cs.length
  ·rw [List.getElem?_append_left hi] at e1
   rw [List.getElem?_append_left (by rw [← h.len]; exact hi)] at e2
   obtain ⟨ad',md',g1,g2,g3,g4,g5,g6⟩:=(h.cs i k d e1 e2)
   refine ⟨ad',md',kp _ _ (fun z=>by have:=s _ _ g1; rw [z,bo h'.ca] at this; cases this) (s _ _ g1),kp.lst (nw k (cZ e1)).1 (s.lst g2),kp.lst (fun z=>g5 (z ▸ cL)) (s.lst g3),kp.lst (fun z=>g6 (z ▸ cL)) (s.lst g4),nl' _ g5 (old _ _ (bo g3)),nl' _ g6 (old _ _ (bo g4))⟩
  ·have hi':i=A.cs.length:=by
    have:=(List.getElem?_eq_some_iff.mp e1).1
    rw [List.length_append,List.length_singleton] at this
    omega
   subst hi'
   rw [List.getElem?_append_right (Nat.le_refl _)] at e1
   rw [h.len,List.getElem?_append_right (Nat.le_refl _)] at e2
   simp only [Nat.sub_self,List.getElem?_cons_zero,Option.some.injEq] at e1 e2
   subst e1 e2
   have q1:p ≠ A.ca:=fun z=>by rw [z,bo h'.ca] at h1; cases h1
   have q2:wy ≠ A.ca:=fun z=>wL (z ▸ cL)
   exact ⟨ad,md,kp p _ q1 h1,kp.lst (a:=wy) q2 h2,kp.lst (fun z=>h.notL ha (z ▸ cL)) h3,kp.lst (fun z=>h.notL hm (z ▸ cL)) h4,nl' _ (h.notL ha) n1,nl' _ (h.notL hm) n2⟩
 ·rw [jy]
  refine List.nodup_append.mpr ⟨h.nl,List.nodup_cons.mpr ⟨List.not_mem_nil,List.nodup_nil⟩,fun x hx y hy=>?_⟩
  rw [List.mem_singleton] at hy
  subst hy
  exact fun z=>wL (z ▸ hx)
 ·show (A.b :: (A.cs ++ [(⟨p,wy⟩:eJ)]).map (·.p)).Nodup
  rw [List.map_append,← List.cons_append]
  refine List.nodup_append.mpr ⟨h.np,List.nodup_cons.mpr ⟨List.not_mem_nil,List.nodup_nil⟩,fun x hx y hy=>?_⟩
  rw [List.map_cons,List.map_nil,List.mem_singleton] at hy
  subst hy
  refine fun z=>h.notF hp (z ▸ ?_)
  rcases List.mem_cons.mp hx with y | y
  ·rw [y]; exact A.in_foot.1
  ·obtain ⟨k,hk,rfl⟩:=List.mem_map.mp y
   exact A.in_foot.2.2.2.2.2.1 k hk
 ·unfold BdA.foot at hx
  rw [jy] at hx
  have hx:x∈A.b :: A.nx :: (A.lists ++ [wy] ++ (A.cs ++ [(⟨p,wy⟩:eJ)]).map (·.p)):=hx
  simp only [List.mem_cons,List.mem_append,List.map_append,List.map_cons,List.map_nil,List.not_mem_nil,or_false] at hx
  unfold BdA.foot
  simp only [List.mem_cons,List.mem_append]
  rcases hx with z | z | (z | z) | (z | z)
  ·exact .inl (.inl z)
  ·exact .inl (.inr (.inl z))
  ·exact .inl (.inr (.inr (.inl z)))
  ·exact .inr (by rw [z]; exact hw)
  ·exact .inl (.inr (.inr (.inr z)))
  ·exact .inr (by rw [z]; exact hp)
end
end Z
namespace Z
open PySem PySem.Spec PyProof.Rows L2 L3
def hasS (ss:List Str) (x:Str):Bool:=ss.any (· == x)
def aH.talksB (c:aH) (x:Str):Bool:=(c.st == "talks") && hasS c.ms x
def aH.hasB (c:aH) (x:Str):Bool:=if (c.st == "rings")=true then (x == c.cr) || hasS c.at_ x else if (c.st == "waits")=true then x == c.cr else (c.st == "talks" || c.st == "held") && hasS c.ms x
def aH.bindsB (c:aH) (x:Str):Bool:=if (c.st == "held")=true then hasS c.ms x && !((c.hd == some x)) else c.talksB x
def aH.triedB (c:aH) (x:Str):Bool:=(c.st == "rings" || c.st == "waits") && (x == c.cr)
def aH.waitsB (c:aH) (x:Str):Bool:=(c.st == "waits") && hasS c.at_ x
def aH.leaveB (c:aH) (x:Str):Bool:=c.triedB x || (hasS c.at_ x || hasS c.ms x)
def jw (f:aH→Str→Bool) (a:Ad):Sp3:=fun ds M Q=>∃ L k c x,ds=[.ref k.p,.str x]∧dA a M L k c∧c.st ≠ "held"∧Q (.bl (f c x)) M
abbrev ky:=jw aH.hasB
abbrev fX:=jw aH.talksB
abbrev jk:=jw aH.bindsB
abbrev dj:=jw aH.triedB
abbrev fZ:=jw aH.waitsB
abbrev eY:=jw aH.leaveB
theorem jQ {M:Mp} {k:Addr} {ks:List Str} {c:Str} {K:DK} (hk:lstM M k=some (ks.map D.str)) (h:K (.bl (hasS ks c)) M):inQ false (.str c) (.ref k) M K:=by
 refine af hk ⟨rfl,cM ks,?_⟩
 show K (.bl (inD (.str c) (ks.map D.str))) M
 rw [jn]
 exact h
theorem in2 (w x y:Str):inD (.str w) [.str x,.str y]=(w == x || w == y):=by
 rw [show [D.str x,D.str y]=[x,y].map D.str from rfl,jn,Bool.eq_iff_iff]
 simp only [List.any_cons,List.any_nil,Bool.or_false,Bool.or_eq_true,beq_iff_eq]
 exact ⟨fun h=>h.imp Eq.symm Eq.symm,fun h=>h.imp Eq.symm Eq.symm⟩
section
variable {P:Program} {w:World} {K:PySem.W.Frag} {mg:Str→Option Value} {base:Heap} {a:Ad}
theorem zn (G:Gl K mg a):Fn3 P w K mg base 1 a.f_Call_has a.fd_Call_has ["self","phone"] (ky a):=by
 refine aR G.fn_Call_has ot (fun ds M Q h=>?_) (fun cdv A outer s H E hr=>⟨_,(aj (aL (aA (hu9 hr) (aw (aa 0 (pv 0))) ar)
 (ak (aB (qS (bN (hu9 hr) (aa 1 (pv 1)) (aw (aa 0 (pv 0)))) (gm (bN (hu9 hr) (aa 1 (pv 1)) (aw (aa 0 (pv 0))))))))
 aD)
 (aj (aL (aA (hu9 hr) (aw (aa 0 (pv 0))) ar)
 (ak (aB (bN (hu9 hr) (aa 1 (pv 1)) (aw (aa 0 (pv 0))))))
 aD)
 (ak (aB (h9 (bN (hu9 hr) (aw (aa 0 (pv 0))) (aK (ae ar (ae ar ai)))) (gm (bN (hu9 hr) (aa 1 (pv 1)) (aw (aa 0 (pv 0)))))))))),?_⟩)
 ·obtain ⟨L,k,c,x,rfl,_⟩:=h
  rfl
 ·rintro ds M Q ⟨L,k,c,x,rfl,⟨ad,md,h1,h2,h3,h4,_⟩,nh,q⟩
  unfold aH.hasB at q
  refine ap h1 (af rfl ?_)
  refine dc (c:=c.st == "rings") (fun g=>?_) (fun g=>?_)
  ·rw [if_pos g] at q
   refine ap h1 (af rfl (dc (c:=x == c.cr) (fun g2=>?_) (fun g2=>?_)))
   ·rw [g2] at q
    exact ⟨M,.refl,q⟩
   ·rw [show (x == c.cr)=false from Bool.eq_false_iff.mpr g2,Bool.false_or] at q
    exact ap h1 (af rfl (jQ h3 ⟨M,.refl,q⟩))
  ·rw [if_neg g] at q
   refine ap h1 (af rfl ?_)
   refine dc (c:=c.st == "waits") (fun g2=>?_) (fun g2=>?_)
   ·rw [if_pos g2] at q
    exact ap h1 (af rfl ⟨M,.refl,q⟩)
   ·rw [if_neg g2] at q
    refine ap h1 (af rfl ⟨few rfl,rfl,rfl,?_⟩)
    show if inD (.str c.st) [.str "talks",.str "held"]=true then _ else _
    rw [in2]
    refine dc (fun g3=>?_) (fun g3=>?_)
    ·rw [g3,Bool.true_and] at q
     exact ap h1 (af rfl (jQ h4 ⟨M,.refl,q⟩))
    ·rw [show (c.st == "talks" || c.st == "held")=false from Bool.eq_false_iff.mpr g3,Bool.false_and] at q
     exact ⟨M,.refl,q⟩
theorem l0 (G:Gl K mg a):Fn3 P w K mg base 1 a.f_Call_talks_with a.fd_Call_talks_with ["self","phone"] (fX a):=by
 refine aR G.fn_Call_talks_with iM (fun ds M Q h=>?_) (fun cdv A outer s H E hr=>⟨_,(ak (aB (h9 (bN (hu9 hr) (aw (aa 0 (pv 0))) ar) (gm (bN (hu9 hr) (aa 1 (pv 1)) (aw (aa 0 (pv 0)))))))),?_⟩)
 ·obtain ⟨L,k,c,x,rfl,_⟩:=h
  rfl
 ·rintro ds M Q ⟨L,k,c,x,rfl,⟨ad,md,h1,h2,h3,h4,_⟩,nh,q⟩
  unfold aH.talksB at q
  refine ap h1 (af rfl (dc (c:=c.st == "talks") (fun g=>?_) (fun g=>?_)))
  ·rw [g,Bool.true_and] at q
   exact ap h1 (af rfl (jQ h4 ⟨M,.refl,q⟩))
  ·rw [show (c.st == "talks")=false from Bool.eq_false_iff.mpr g,Bool.false_and] at q
   exact ⟨M,.refl,q⟩
theorem s8 (G:Gl K mg a):Fn3 P w K mg base 2 a.f_Call_binds a.fd_Call_binds ["self","phone"] (jk a):=by
 have C_Call_talks_with:=l0 (P:=P) (w:=w) (base:=base) G
 refine aR G.fn_Call_binds lH (fun ds M Q h=>?_) (fun cdv A outer s H E hr=>⟨_,(aj (aL (aA (hu9 hr) (aw (aa 0 (pv 0))) ar)
 (ak (aB (h9 (bN (hu9 hr) (aa 1 (pv 1)) (aw (aa 0 (pv 0)))) (gm (bN (hu9 hr) (aa 1 (pv 1)) (aw (aa 0 (pv 0))))))))
 aD)
 (ak (aB (aS (R:=fun C sp=>C=a.c_Call∧sp=fX a) (aa 0 (pv 0)) (fun C sp ⟨e1,e2⟩=>by subst e1 e2; exact ⟨G.cl_Call,_,_,_,G.mt_Call_talks_with,C_Call_talks_with,G.b_Call_talks_with⟩) (hr.mono (by first | decide | omega)) (ae (aa 1 (pv 1)) ai))))),?_⟩)
 ·obtain ⟨L,k,c,x,rfl,_⟩:=h
  rfl
 ·rintro ds M Q ⟨L,k,c,x,rfl,hc,nh,q⟩
  obtain ⟨ad,md,h1,h2,h3,h4,_⟩:=id hc
  have g:(c.st == "held")=false:=by simpa using nh
  unfold aH.bindsB at q
  rw [g] at q
  exact ap h1 (af rfl (qc (c:=c.st == "held") g (ap h1 ⟨rfl,_,⟨rfl,rfl⟩,L,k,c,x,rfl,hc,nh,M,.refl,q⟩)))
theorem kB (G:Gl K mg a):Fn3 P w K mg base 1 a.f_Call_is_tried_by a.fd_Call_is_tried_by ["self","phone"] (dj a):=by
 refine aR G.fn_Call_is_tried_by iB (fun ds M Q h=>?_) (fun cdv A outer s H E hr=>⟨_,(ak (aB (h9 (bN (hu9 hr) (aw (aa 0 (pv 0))) (aK (ae ar (ae ar ai)))) (gm (bN (hu9 hr) (aa 1 (pv 1)) (aw (aa 0 (pv 0)))))))),?_⟩)
 ·obtain ⟨L,k,c,x,rfl,_⟩:=h
  rfl
 ·rintro ds M Q ⟨L,k,c,x,rfl,⟨ad,md,h1,h2,h3,h4,_⟩,nh,q⟩
  unfold aH.triedB at q
  refine ap h1 (af rfl ⟨few rfl,rfl,rfl,?_⟩)
  show if inD (.str c.st) [.str "rings",.str "waits"]=true then _ else _
  rw [in2]
  refine dc (fun g3=>?_) (fun g3=>?_)
  ·rw [g3,Bool.true_and] at q
   exact ap h1 (af rfl ⟨M,.refl,q⟩)
  ·rw [show (c.st == "rings" || c.st == "waits")=false from Bool.eq_false_iff.mpr g3,Bool.false_and] at q
   exact ⟨M,.refl,q⟩
theorem u8 (G:Gl K mg a):Fn3 P w K mg base 1 a.f_Call_waits_with a.fd_Call_waits_with ["self","phone"] (fZ a):=by
 refine aR G.fn_Call_waits_with iX (fun ds M Q h=>?_) (fun cdv A outer s H E hr=>⟨_,(ak (aB (h9 (bN (hu9 hr) (aw (aa 0 (pv 0))) ar) (gm (bN (hu9 hr) (aa 1 (pv 1)) (aw (aa 0 (pv 0)))))))),?_⟩)
 ·obtain ⟨L,k,c,x,rfl,_⟩:=h
  rfl
 ·rintro ds M Q ⟨L,k,c,x,rfl,⟨ad,md,h1,h2,h3,h4,_⟩,nh,q⟩
  unfold aH.waitsB at q
  refine ap h1 (af rfl (dc (c:=c.st == "waits") (fun g=>?_) (fun g=>?_)))
  ·rw [g,Bool.true_and] at q
   exact ap h1 (af rfl (jQ h3 ⟨M,.refl,q⟩))
  ·rw [show (c.st == "waits")=false from Bool.eq_false_iff.mpr g,Bool.false_and] at q
   exact ⟨M,.refl,q⟩
theorem sD (G:Gl K mg a):Fn3 P w K mg base 2 a.f_Call_can_be_left_by a.fd_Call_can_be_left_by ["self","phone"] (eY a):=by
 have C_Call_is_tried_by:=kB (P:=P) (w:=w) (base:=base) G
 refine aR G.fn_Call_can_be_left_by gD (fun ds M Q h=>?_) (fun cdv A outer s H E hr=>⟨_,(ak (aB (qS (aS (R:=fun C sp=>C=a.c_Call∧sp=dj a) (aa 0 (pv 0)) (fun C sp ⟨e1,e2⟩=>by subst e1 e2; exact ⟨G.cl_Call,_,_,_,G.mt_Call_is_tried_by,C_Call_is_tried_by,G.b_Call_is_tried_by⟩) (hr.mono (by first | decide | omega)) (ae (aa 1 (pv 1)) ai)) (qS (bN (hu9 hr) (aa 1 (pv 1)) (aw (aa 0 (pv 0)))) (gm (bN (hu9 hr) (aa 1 (pv 1)) (aw (aa 0 (pv 0))))))))),?_⟩)
 ·obtain ⟨L,k,c,x,rfl,_⟩:=h
  rfl
 ·rintro ds M Q ⟨L,k,c,x,rfl,hc,nh,q⟩
  obtain ⟨ad,md,h1,h2,h3,h4,_⟩:=id hc
  unfold aH.leaveB at q
  refine ap h1 ⟨rfl,_,⟨rfl,rfl⟩,L,k,c,x,rfl,hc,nh,dc (c:=c.triedB x) (fun g=>?_) (fun g=>?_)⟩
  ·rw [g] at q
   exact ⟨M,.refl,q⟩
  ·rw [show c.triedB x=false from Bool.eq_false_iff.mpr g,Bool.false_or] at q
   refine ap h1 (af rfl (af h3 ⟨rfl,cM c.at_,?_⟩))
   show if inD (.str x) (c.at_.map D.str)=true then _ else _
   rw [jn]
   refine dc (c:=hasS c.at_ x) (fun g2=>?_) (fun g2=>?_)
   ·rw [g2] at q
    exact ⟨M,.refl,q⟩
   ·rw [show hasS c.at_ x=false from Bool.eq_false_iff.mpr g2,Bool.false_or] at q
    exact ap h1 (af rfl (jQ h4 ⟨M,.refl,q⟩))
end
end Z
namespace Z
open PySem PySem.Spec PyProof.Rows L2 L3
def g7 (V:BdV):Prop:=∀ c∈V.calls,c.st ≠ "held"
def oQ (V:BdV) (x:Str):Nat:=(V.calls.filter (·.hasB x)).length
def d3 (l:aM) (V:BdV) (x:Str):Bool:=(l.phone x).elim false fun v=>decide ((oQ V x:Int) < v.2.1)
def eO (l:aM) (V:BdV) (c z:Str):List Str:=(l.phonesOf z).filter fun x=>!(x == c) && d3 l V x
def iQ (bs:List Bool):D:=match iP (.bl true) (bs.map D.bl) with
 | some j=>.int (j:Nat)
 | none=>.non
theorem pC (x:D):∀ ds:List D,(iP x ds).isSome=ds.any fun d=>eqF d x
 | []=>rfl
 | d :: r=>by
  unfold iP
  rw [List.any_cons]
  by_cases h:eqF d x=true
  ·rw [if_pos h,h]
   rfl
  ·rw [if_neg h,Option.isSome_map,pC x r,show eqF d x=false from Bool.eq_false_iff.mpr h,Bool.false_or]
theorem lu:∀ bs:List Bool,(bs.map D.bl).all eZ=true
 | []=>rfl
 | _ :: r=>by
  rw [List.map_cons,List.all_cons,lu r]
  rfl
def vf:Sp3:=fun ds M Q=>∃ r bs,ds=[.ref r]∧lstM M r=some (List.map D.bl bs)∧Q (iQ bs) M
def ji (a:Ad):Sp3:=fun ds M Q=>∃ A V x,ds=[.ref A.b,.str x]∧az a M A V∧g7 V∧V.calls.length≤1000∧Q (.int (oQ V x:Nat)) M
def iH (a:Ad):Sp3:=fun ds M Q=>∃ A V x,ds=[.ref A.b,.str x]∧az a M A V∧g7 V∧V.calls.length≤1000∧Q (iQ (V.calls.map (·.bindsB x))) M
def gQ (a:Ad):Sp3:=fun ds M Q=>∃ A V x,ds=[.ref A.b,.str x]∧az a M A V∧g7 V∧V.calls.length≤1000∧Q (iQ (V.calls.map (·.triedB x))) M
def eh (a:Ad):Sp3:=fun ds M Q=>∃ A V x v l,ds=[.ref A.b,.str x]∧az a M A V∧g7 V∧V.calls.length≤1000∧dR a M V.p l∧l.phone x=some v∧Q (.bl (d3 l V x)) M
def gw (a:Ad):Sp3:=fun ds M Q=>∃ A V c z l,ds=[.ref A.b,.str c,.str z]∧az a M A V∧g7 V∧V.calls.length≤1000∧dR a M V.p l∧(∀ x∈l.phonesOf z,∃ v,l.phone x=some v)∧(l.phonesOf z).length≤100∧∀ q M',L3.Sub M M'→M q=none→lstM M' q=some ((eO l V c z).map D.str)→Q (.ref q) M'
theorem jg {a:Ad} {M:Mp} {A:BdA} {V:BdV} (h:az a M A V) {pre post:List D} {d:D} (e:pre ++ d :: post=A.cs.map fun k=>D.ref k.p):∃ k c,A.cs[pre.length]?=some k∧V.calls[pre.length]?=some c∧d=.ref k.p∧dA a M A.lists k c∧V.calls.take (pre.length + 1)=V.calls.take pre.length ++ [c]:=by
 have h1:(A.cs.map fun k=>D.ref k.p)[pre.length]?=some d:=by rw [← e]; simp
 rw [List.getElem?_map] at h1
 cases z:A.cs[pre.length]? with
 | none=>rw [z] at h1; cases h1
 | some k =>
  rw [z] at h1
  have hi:pre.length < V.calls.length:=by rw [← h.len]; exact (List.getElem?_eq_some_iff.mp z).1
  have e2:V.calls[pre.length]?=some V.calls[pre.length]:=List.getElem?_eq_getElem hi
  refine ⟨k,_,rfl,e2,(Option.some.inj h1).symm,h.cs _ _ _ z e2,?_⟩
  rw [List.take_add_one,e2]
  rfl
section
variable {P:Program} {w:World} {K:PySem.W.Frag} {mg:Str→Option Value} {base:Heap} {a:Ad}
theorem nU (G:Gl K mg a):Fn3 P w K mg base 1 a.f_place_of_true a.fd_place_of_true ["answers"] vf:=by
 refine aR G.fn_place_of_true jF (fun ds M Q h=>?_) (fun cdv A outer s H E hr=>⟨_,(aj (aL (aA (hu9 hr) kI (aa 0 (pv 0)))
 (ak (aB (hZ (aa 0 (pv 0)) (ae kI ai))))
 aD)
 (ak (aB eB))),?_⟩)
 ·obtain ⟨r,bs,rfl,_⟩:=h
  rfl
 ·rintro ds M Q ⟨r,bs,rfl,hr,q⟩
  have ei:inD (.bl true) (bs.map D.bl)=(iP (.bl true) (bs.map D.bl)).isSome:=(pC _ _).symm
  unfold iQ at q
  refine af hr ⟨rfl,lu bs,?_⟩
  show if inD (.bl true) (bs.map D.bl)=true then _ else _
  rw [ei]
  cases e:iP (.bl true) (bs.map D.bl) with
  | none =>
   rw [e] at q
   exact ⟨M,.refl,q⟩
  | some j =>
   rw [e] at q
   exact vQ ⟨by show (lstM M r).isSome=true; rw [hr]; rfl,af hr ⟨rfl,lu bs,af e ⟨M,.refl,q⟩⟩⟩
theorem vT (G:Gl K mg a):Fn3 P w K mg base 2 a.f_Board_used a.fd_Board_used ["self","phone"] (ji a):=by
 have C_Call_has:=zn (P:=P) (w:=w) (base:=base) G
 refine aR G.fn_Board_used lL (fun ds M Q h=>?_) (fun cdv A outer s H E hr=>⟨_,(ak (aB (aP bW rfl G.no_len bL (ae (bV rfl (c9 (ix:=[none,some 1]) (N':=["call","phone"]) (by kernel_rfl)) (bM (aw (aa 0 (pv 0)))) (fun C s0 H0 ex=>(aF (i:=0) (show List.Nodup (["call","phone"]:List Str) by decide +kernel) rfl (Or.inl rfl))) (fun C s0 H0 ex=>(gK (gR (aS (R:=fun C sp=>C=a.c_Call∧sp=ky a) (aa 0 (pv 0)) (fun C sp ⟨e1,e2⟩=>by subst e1 e2; exact ⟨G.cl_Call,_,_,_,G.mt_Call_has,C_Call_has,G.b_Call_has⟩) (hr.mono (by first | decide | omega)) (ae (aa 1 (pv 1)) ai))))) (fun C s0 H0 ex=>(aa 0 (pv 0)))) ai)))),?_⟩)
 ·obtain ⟨A,V,x,rfl,_⟩:=h
  rfl
 ·rintro ds M Q ⟨A,V,x,rfl,bd,nh,h1000,q⟩
  have hz:sizeLine=16777216:=sizeLine_eq
  refine ap bd.at_ (af rfl (af bd.ca ?_))
  refine il (A.cs.map fun k=>D.ref k.p) (fun pre acc δ M'=>M=M'∧acc.length=((V.calls.take pre.length).filter (·.hasB x)).length∧∃ y,δ=[y,some (.str x)]) (fun _ _ _ M' j=>by rw [← j.1]; exact bd.ca) _ [] [] _ _ rfl ?_ ⟨rfl,rfl,none,rfl⟩ ?_ ?_
  ·rw [List.length_map,bd.len]
   simp only [List.length_nil]
   omega
  ·rintro pre d post e acc δ M' ⟨rfl,ha,y,rfl⟩ k k2 hk hk2
   obtain ⟨ka,c,e1,e2,rfl,hc,et⟩:=jg bd e
   rw [List.length_append,List.length_singleton,et,List.filter_append] at hk hk2
   have hcc:=hc
   obtain ⟨_,_,g1,_⟩:=hcc
   refine ap g1 ⟨rfl,_,⟨rfl,rfl⟩,_,ka,c,x,rfl,hc,nh c (cZ e2),?_⟩
   refine dc (c:=c.hasB x) (fun g=>?_) (fun g=>?_)
   ·refine hk _ _ _ ⟨rfl,?_,_,rfl⟩
    rw [List.length_append,List.length_append,ha,List.filter_cons_of_pos (by exact g)]
    rfl
   ·refine hk2 _ _ ⟨rfl,?_,_,rfl⟩
    rw [List.length_append,ha,List.filter_cons_of_neg (by exact g)]
    rfl
  ·rintro acc δ M' ⟨rfl,ha,y,rfl⟩ p hp
   refine af av ⟨M,.new hp,?_⟩
   rw [List.length_map,bd.len,List.take_length] at ha
   rw [ha]
   exact q
theorem uX (G:Gl K mg a):Fn3 P w K mg base 3 a.f_Board_bound a.fd_Board_bound ["self","phone"] (iH a):=by
 have C_Call_binds:=s8 (P:=P) (w:=w) (base:=base) G
 have C_place_of_true:=nU (P:=P) (w:=w) (base:=base) G
 refine aR G.fn_Board_bound kO (fun ds M Q h=>?_) (fun cdv A outer s H E hr=>⟨_,(ak (aB (ay C_place_of_true (hr.mono (by first | decide | omega)) rfl G.mg_place_of_true G.kp_place_of_true G.b_place_of_true (ae (bV rfl (c9 (ix:=[none,some 1]) (N':=["call","phone"]) (by kernel_rfl)) (bM (aw (aa 0 (pv 0)))) (fun C s0 H0 ex=>(aF (i:=0) (show List.Nodup (["call","phone"]:List Str) by decide +kernel) rfl (Or.inl rfl))) (fun C s0 H0 ex=>dI) (fun C s0 H0 ex=>(aS (R:=fun C sp=>C=a.c_Call∧sp=jk a) (aa 0 (pv 0)) (fun C sp ⟨e1,e2⟩=>by subst e1 e2; exact ⟨G.cl_Call,_,_,_,G.mt_Call_binds,C_Call_binds,G.b_Call_binds⟩) (hr.mono (by first | decide | omega)) (ae (aa 1 (pv 1)) ai)))) ai)))),?_⟩)
 ·obtain ⟨A,V,x,rfl,_⟩:=h
  rfl
 ·rintro ds M Q ⟨A,V,x,rfl,bd,nh,h1000,q⟩
  have hz:sizeLine=16777216:=sizeLine_eq
  refine ap bd.at_ (af rfl (af bd.ca ?_))
  refine mK (A.cs.map fun k=>D.ref k.p) (fun pre acc δ M'=>M=M'∧acc=((V.calls.take pre.length).map (·.bindsB x)).map D.bl∧∃ y,δ=[y,some (.str x)]) (fun _ _ _ M' j=>by rw [← j.1]; exact bd.ca) _ [] [] _ _ rfl ?_ ⟨rfl,rfl,none,rfl⟩ ?_ ?_
  ·rw [List.length_map,bd.len]
   simp only [List.length_nil]
   omega
  ·rintro pre d post e acc δ M' ⟨rfl,rfl,y,rfl⟩ k hk
   obtain ⟨ka,c,e1,e2,rfl,hc,et⟩:=jg bd e
   have hcc:=hc
   obtain ⟨_,_,g1,_⟩:=hcc
   refine ap g1 ⟨rfl,_,⟨rfl,rfl⟩,_,ka,c,x,rfl,hc,nh c (cZ e2),hk _ _ _ ⟨rfl,?_,_,rfl⟩⟩
   rw [List.length_append,List.length_singleton,et,List.map_append,List.map_append]
   rfl
  ·rintro acc δ M' ⟨rfl,rfl,y,rfl⟩ p hp
   rw [List.length_map,bd.len,List.take_length]
   exact ⟨p,_,rfl,av,M,.new hp,q⟩
theorem py (G:Gl K mg a):Fn3 P w K mg base 3 a.f_Board_calling a.fd_Board_calling ["self","phone"] (gQ a):=by
 have C_Call_is_tried_by:=kB (P:=P) (w:=w) (base:=base) G
 have C_place_of_true:=nU (P:=P) (w:=w) (base:=base) G
 refine aR G.fn_Board_calling jL (fun ds M Q h=>?_) (fun cdv A outer s H E hr=>⟨_,(ak (aB (ay C_place_of_true (hr.mono (by first | decide | omega)) rfl G.mg_place_of_true G.kp_place_of_true G.b_place_of_true (ae (bV rfl (c9 (ix:=[none,some 1]) (N':=["call","phone"]) (by kernel_rfl)) (bM (aw (aa 0 (pv 0)))) (fun C s0 H0 ex=>(aF (i:=0) (show List.Nodup (["call","phone"]:List Str) by decide +kernel) rfl (Or.inl rfl))) (fun C s0 H0 ex=>dI) (fun C s0 H0 ex=>(aS (R:=fun C sp=>C=a.c_Call∧sp=dj a) (aa 0 (pv 0)) (fun C sp ⟨e1,e2⟩=>by subst e1 e2; exact ⟨G.cl_Call,_,_,_,G.mt_Call_is_tried_by,C_Call_is_tried_by,G.b_Call_is_tried_by⟩) (hr.mono (by first | decide | omega)) (ae (aa 1 (pv 1)) ai)))) ai)))),?_⟩)
 ·obtain ⟨A,V,x,rfl,_⟩:=h
  rfl
 ·rintro ds M Q ⟨A,V,x,rfl,bd,nh,h1000,q⟩
  have hz:sizeLine=16777216:=sizeLine_eq
  refine ap bd.at_ (af rfl (af bd.ca ?_))
  refine mK (A.cs.map fun k=>D.ref k.p) (fun pre acc δ M'=>M=M'∧acc=((V.calls.take pre.length).map (·.triedB x)).map D.bl∧∃ y,δ=[y,some (.str x)]) (fun _ _ _ M' j=>by rw [← j.1]; exact bd.ca) _ [] [] _ _ rfl ?_ ⟨rfl,rfl,none,rfl⟩ ?_ ?_
  ·rw [List.length_map,bd.len]
   simp only [List.length_nil]
   omega
  ·rintro pre d post e acc δ M' ⟨rfl,rfl,y,rfl⟩ k hk
   obtain ⟨ka,c,e1,e2,rfl,hc,et⟩:=jg bd e
   have hcc:=hc
   obtain ⟨_,_,g1,_⟩:=hcc
   refine ap g1 ⟨rfl,_,⟨rfl,rfl⟩,_,ka,c,x,rfl,hc,nh c (cZ e2),hk _ _ _ ⟨rfl,?_,_,rfl⟩⟩
   rw [List.length_append,List.length_singleton,et,List.map_append,List.map_append]
   rfl
  ·rintro acc δ M' ⟨rfl,rfl,y,rfl⟩ p hp
   rw [List.length_map,bd.len,List.take_length]
   exact ⟨p,_,rfl,av,M,.new hp,q⟩
theorem iY (G:Gl K mg a):Fn3 P w K mg base 3 a.f_Board_is_free a.fd_Board_is_free ["self","phone"] (eh a):=by
 have C_Board_used:=vT (P:=P) (w:=w) (base:=base) G
 have C_Plan_lines:=lQ (P:=P) (w:=w) (base:=base) G
 refine aR G.fn_Board_is_free jK (fun ds M Q h=>?_) (fun cdv A outer s H E hr=>⟨_,(ak (aB (bN (hu9 hr) (aS (R:=fun C sp=>C=a.c_Board∧sp=ji a) (aa 0 (pv 0)) (fun C sp ⟨e1,e2⟩=>by subst e1 e2; exact ⟨G.cl_Board,_,_,_,G.mt_Board_used,C_Board_used,G.b_Board_used⟩) (hr.mono (by first | decide | omega)) (ae (aa 1 (pv 1)) ai)) (aS (R:=fun C sp=>C=a.c_Plan∧sp=iZ a) (aw (aa 0 (pv 0))) (fun C sp ⟨e1,e2⟩=>by subst e1 e2; exact ⟨G.cl_Plan,_,_,_,G.mt_Plan_lines,C_Plan_lines,G.b_Plan_lines⟩) (hr.mono (by first | decide | omega)) (ae (aa 1 (pv 1)) ai))))),?_⟩)
 ·obtain ⟨A,V,x,v,l,rfl,_⟩:=h
  rfl
 ·rintro ds M Q ⟨A,V,x,v,l,rfl,bd,nh,h1000,pl,hv,q⟩
  have ip:=pl
  obtain ⟨ph,gr,ws,pon,pr,gd,i1,_⟩:=ip
  refine ap bd.at_ ⟨rfl,_,⟨rfl,rfl⟩,A,V,x,rfl,bd,nh,h1000,?_⟩
  refine ap bd.at_ (af rfl (ap i1 ⟨rfl,_,⟨rfl,rfl⟩,V.p,x,v,l,rfl,pl,hv,?_⟩))
  have e:d3 l V x=decide ((oQ V x:Int) < v.2.1):=by
   unfold d3
   rw [hv]
   rfl
  rw [e] at q
  exact ⟨M,.refl,q⟩
theorem nQ (G:Gl K mg a):Fn3 P w K mg base 4 a.f_Board_ringable a.fd_Board_ringable ["self","caller","target"] (gw a):=by
 have C_Board_is_free:=iY (P:=P) (w:=w) (base:=base) G
 have C_Plan_phones_of:=eN (P:=P) (w:=w) (base:=base) G
 refine aR G.fn_Board_ringable jr (fun ds M Q h=>?_) (fun cdv A outer s H E hr=>⟨_,(ak (aB (bV rfl (c9 (ix:=[none,some 1,some 0]) (N':=["phone","caller","self"]) (by kernel_rfl)) (bM (aS (R:=fun C sp=>C=a.c_Plan∧sp=dL a) (aw (aa 0 (pv 0))) (fun C sp ⟨e1,e2⟩=>by subst e1 e2; exact ⟨G.cl_Plan,_,_,_,G.mt_Plan_phones_of,C_Plan_phones_of,G.b_Plan_phones_of⟩) (hr.mono (by first | decide | omega)) (ae (aa 2 (pv 2)) ai))) (fun C s0 H0 ex=>(aF (i:=0) (show List.Nodup (["phone","caller","self"]:List Str) by decide +kernel) rfl (Or.inl rfl))) (fun C s0 H0 ex=>(gK (W3.b3 (gN (aA (hu9 hr) (aa 0 (pv 0)) (aa 1 (pv 1))) (gM (gR (aS (R:=fun C sp=>C=a.c_Board∧sp=eh a) (aa 2 (pv 2)) (fun C sp ⟨e1,e2⟩=>by subst e1 e2; exact ⟨G.cl_Board,_,_,_,G.mt_Board_is_free,C_Board_is_free,G.b_Board_is_free⟩) (hr.mono (by first | decide | omega)) (ae (aa 0 (pv 0)) ai)))))))) (fun C s0 H0 ex=>(aa 0 (pv 0)))))),?_⟩)
 ·obtain ⟨A,V,c,z,l,rfl,_⟩:=h
  rfl
 ·rintro ds M Q ⟨A,V,c,z,l,rfl,bd,nh,h1000,pl,hph,h100,q⟩
  have ip:=pl
  obtain ⟨ph,gr,ws,pon,pr,gd,i1,_⟩:=ip
  refine ap bd.at_ (af rfl (ap i1 ⟨rfl,_,⟨rfl,rfl⟩,V.p,z,l,rfl,pl,fun q1 hq1=>af av ?_⟩))
  have s1:=L3.Sub.new (c:=.lst (List.map D.str (l.phonesOf z))) hq1
  have c1:lstM (au M q1 (.lst (List.map D.str (l.phonesOf z)))) q1=some (List.map D.str (l.phonesOf z)):=av
  generalize au M q1 (.lst (List.map D.str (l.phonesOf z)))=M1 at s1 c1 ⊢
  have hz:sizeLine=16777216:=sizeLine_eq
  have bd1:=bd.sub s1
  have pl1:=pl.sub s1
  refine dP (f:=id) (t:=fun d=>match d with | .str x=>!(x == c) && d3 l V x | _=>false) c1 _ [] _ (by rw [List.length_map]; simp only [List.length_nil]; omega) (fun d hd k hk=>?_) (fun d hd _ k hk=>?_) fun q2 hq2=>?_
  ·obtain ⟨x,hx,rfl⟩:=List.mem_map.mp hd
   obtain ⟨v,hv⟩:=hph x hx
   have hk:k (!(x == c) && d3 l V x) M1:=hk
   cases e:x == c with
   | true =>
    rw [e] at hk
    refine qc (c:=!(x == c)) (by rw [e]; rfl) hk
   | false =>
    rw [e] at hk
    refine o1 (c:=!(x == c)) (by rw [e]; rfl) (ap bd1.at_ ⟨rfl,_,⟨rfl,rfl⟩,A,V,x,v,l,rfl,bd1,nh,h1000,pl1,hv,hk⟩)
  ·obtain ⟨x,hx,rfl⟩:=List.mem_map.mp hd
   exact hk
  ·have ef:[] ++ (List.filter (fun d=>match d with | .str x=>!(x == c) && d3 l V x | _=>false) ((l.phonesOf z).map D.str)).map id=(eO l V c z).map D.str:=by
    rw [List.nil_append,List.map_id,List.filter_map]
    rfl
   rw [ef]
   have t2:=L3.Sub.new (c:=.lst ((eO l V c z).map D.str)) hq2
   exact ⟨_,.refl,q q2 _ (s1.trans t2) (s1.none hq2) av⟩
end
end Z
namespace Z
open PySem PySem.Spec PyProof.Rows L2 L3
theorem ju (ds:List D) (m:Nat):L3.gT ds none (some (m:Int))=ds.take m:=by
 unfold L3.gT
 rw [HT.oU,HT.qV,List.drop_zero,Nat.sub_zero]
 by_cases h:m≤ds.length
 ·rw [Nat.min_eq_left h]
 ·rw [Nat.min_eq_right (by omega),List.take_length,List.take_of_length_le (by omega)]
theorem uz (ds:List D) (m:Nat) (h:m≤ds.length):L3.gT ds (some (m:Int)) none=ds.drop m:=by
 unfold L3.gT
 rw [HT.oU,HT.qV,Nat.min_eq_left h]
 exact List.take_of_length_le (by rw [List.length_drop]; exact Nat.le_refl _)
def df (ms:List Str) (n:Nat):List Str:=ms.drop n ++ ms.take n
def gZ (l:aM) (V:BdV) (z:Str) (n:Nat):Prop:=(l.manner z == "turns")=true→eE (bC V.ps) (.inr z)=some (.int (n:Nat))∧n≤(l.phonesOf z).length
def cK (l:aM) (V:BdV) (c z:Str) (n:Nat):List Str:=if (l.manner z == "turns")=true then ((df (l.phonesOf z) n).filter fun x=>hasS (eO l V c z) x).take 1 else eO l V c z
structure Tgt (l:aM) (z:Str):Prop where
 ph:∀ x∈l.phonesOf z,∃ v,l.phone x=some v
 few:(l.phonesOf z).length≤100
structure Rd (a:Ad) (M:Mp) (A:BdA) (V:BdV) (l:aM):Prop where
 bd:az a M A V
 nh:g7 V
 k:V.calls.length≤1000
 pl:dR a M V.p l
theorem Rd.sub {a:Ad} {M M':Mp} {A:BdA} {V:BdV} {l:aM} (h:Rd a M A V l) (s:L3.Sub M M'):Rd a M' A V l:=⟨h.bd.sub s,h.nh,h.k,h.pl.sub s⟩
def iy (l:aM) (V:BdV) (c z:Str) (n:Nat):D:=if cK l V c z n=[] then .tup [.str "engaged",.str z] else .tup [.str "rings",.str z,.tup ((cK l V c z n).map D.str)]
def pp (a:Ad):Sp3:=fun ds M Q=>∃ A V l x y,ds=[.ref A.b,x,y]∧Rd a M A V l∧Q (.tup []) M
def vE (a:Ad):Sp3:=fun ds M Q=>∃ A V l c z n,ds=[.ref A.b,.str c,.str z]∧Rd a M A V l∧Tgt l z∧gZ l V z n∧Q (.tup ((cK l V c z n).map D.str)) M
def uA (a:Ad):Sp3:=fun ds M Q=>∃ A V l c z n,ds=[.ref A.b,.str c,.str z]∧Rd a M A V l∧Tgt l z∧gZ l V z n∧Q (iy l V c z n) M
def sE (a:Ad):Sp3:=fun ds M Q=>∃ A V l c z n r,ds=[.ref A.b,.str c,.str z,.ref r]∧Rd a M A V l∧Tgt l z∧gZ l V z n∧lstM M r=some []∧∀ q M',L3.Sub M M'→M q=none→lstM M' q=some [.tup [.str z,.tup []]]→Q (.tup [iy l V c z n,.ref q]) M'
section
variable {P:Program} {w:World} {K:PySem.W.Frag} {mg:Str→Option Value} {base:Heap} {a:Ad}
theorem qa (G:Gl K mg a):Fn3 P w K mg base 1 a.f_fitting a.fd_fitting ["board","caller","target"] (pp a):=by
 refine aR G.fn_fitting kU (fun ds M Q h=>?_) (fun cdv A outer s H E hr=>⟨_,(aj (aG (i:=3) kU.nd rfl (Or.inr rfl) (aw (aw (aa 0 (pv 0)))))
 (ak (aB (ba eS rfl G.no_tuple eL (ae (bV rfl (c9 (ix:=[none,none,some 3,some 0,some 1,some 2]) (N':=["i","on","wishes","board","caller","target"]) (by kernel_rfl)) (fL rfl G.no_enumerate (ae (aw (aa 0 (pv 0))) ai)) (fun C s0 H0 ex=>(fQ (n:=2) rfl (bn (aF (i:=0) (show List.Nodup (["i","on","wishes","board","caller","target"]:List Str) by decide +kernel) rfl (Or.inl rfl)) (bn (aF (i:=1) (show List.Nodup (["i","on","wishes","board","caller","target"]:List Str) by decide +kernel) rfl (Or.inl rfl)) eX)))) (fun C s0 H0 ex=>oy) (fun C s0 H0 ex=>(aa 0 (pv 0)))) ai))))),?_⟩)
 ·obtain ⟨A,V,l,x,y,rfl,_⟩:=h
  rfl
 ·rintro ds M Q ⟨A,V,l,x,y,rfl,rd,q⟩
  obtain ⟨ph,gr,ws,pon,pr,gd,i1,_⟩:=rd.pl
  refine ap rd.bd.at_ (af rfl (ap i1 (af rfl ?_)))
  refine ap rd.bd.at_ (af rfl (af rd.bd.on ?_))
  exact ⟨Nat.zero_le _,fun p hp=>af av ⟨M,.new hp,q⟩⟩
theorem vO (G:Gl K mg a):Fn3 P w K mg base 5 a.f_rung_phones a.fd_rung_phones ["board","caller","target"] (vE a):=by
 have C_Board_ringable:=nQ (P:=P) (w:=w) (base:=base) G
 have C_Plan_manner:=hJ (P:=P) (w:=w) (base:=base) G
 have C_Plan_phones_of:=eN (P:=P) (w:=w) (base:=base) G
 refine aR G.fn_rung_phones dH (fun ds M Q h=>?_) (fun cdv A outer s H E hr=>⟨_,(aj (aG (i:=3) dH.nd rfl (Or.inr rfl) (aS (R:=fun C sp=>C=a.c_Board∧sp=gw a) (aa 0 (pv 0)) (fun C sp ⟨e1,e2⟩=>by subst e1 e2; exact ⟨G.cl_Board,_,_,_,G.mt_Board_ringable,C_Board_ringable,G.b_Board_ringable⟩) (hr.mono (by first | decide | omega)) (ae (aa 1 (pv 1)) (ae (aa 2 (pv 2)) ai))))
 (aj (aL (aA (hu9 hr) (aS (R:=fun C sp=>C=a.c_Plan∧sp=gq a) (aw (aa 0 (pv 0))) (fun C sp ⟨e1,e2⟩=>by subst e1 e2; exact ⟨G.cl_Plan,_,_,_,G.mt_Plan_manner,C_Plan_manner,G.b_Plan_manner⟩) (hr.mono (by first | decide | omega)) (ae (aa 2 (pv 2)) ai)) ar)
 (ak (aB (ba eS rfl G.no_tuple eL (ae (aa 3 (pv 3)) ai))))
 aD)
 (aj (aG (i:=4) dH.nd rfl (Or.inl rfl) (aS (R:=fun C sp=>C=a.c_Plan∧sp=dL a) (aw (aa 0 (pv 0))) (fun C sp ⟨e1,e2⟩=>by subst e1 e2; exact ⟨G.cl_Plan,_,_,_,G.mt_Plan_phones_of,C_Plan_phones_of,G.b_Plan_phones_of⟩) (hr.mono (by first | decide | omega)) (ae (aa 2 (pv 2)) ai)))
 (aj (aG (i:=5) dH.nd rfl (Or.inl rfl) (im (hu9 hr) (aw (aa 0 (pv 0))) (aa 2 (pv 2))))
 (aj (fN (i:=6) dH.nd rfl (Or.inl rfl) rfl (c9 (ix:=[none,some 3]) (N':=["phone","free"]) (by kernel_rfl)) (bM (bt (dh (aa 4 (pv 4)) (dQ (aa 5 (pv 5))) dN) (dh (aa 4 (pv 4)) dN (dQ (aa 5 (pv 5)))))) (fun C s0 H0 ex=>(aF (i:=0) (show List.Nodup (["phone","free"]:List Str) by decide +kernel) rfl (Or.inl rfl))) (fun C s0 H0 ex=>(gK (aA (hu9 hr) (aa 0 (pv 0)) (aa 1 (pv 1))))) (fun C s0 H0 ex=>(aa 0 (pv 0))))
 (ak (aB (ba eS rfl G.no_tuple eL (ae (dh (aa 6 (pv 6)) dN (dQ ao)) ai))))))))),?_⟩)
 ·obtain ⟨A,V,l,c,z,n,rfl,_⟩:=h
  rfl
 ·rintro ds M Q ⟨A,V,l,c,z,n,rfl,rd,tg,nx,q⟩
  have hz:sizeLine=16777216:=sizeLine_eq
  have bd:=rd.bd
  have pl:=rd.pl
  obtain ⟨ph,gr,ws,pon,pr,gd,i1,_⟩:=rd.pl
  refine ap bd.at_ ⟨rfl,_,⟨rfl,rfl⟩,A,V,c,z,l,rfl,bd,rd.nh,rd.k,pl,tg.ph,tg.few,fun q1 M1 s1 hq1 e1=>?_⟩
  refine ap (s1 _ _ bd.at_) (af rfl (ap (s1 _ _ i1) ⟨rfl,_,⟨rfl,rfl⟩,V.p,z,l,rfl,pl.sub s1,?_⟩))
  unfold cK at q
  cases e:l.manner z == "turns" with
  | false =>
   rw [e] at q
   exact o1 (c:=!(l.manner z == "turns")) (by rw [e]; rfl) (af e1 ⟨M,s1,q⟩)
  | true =>
   obtain ⟨hn,nl⟩:=nx e
   rw [e,if_pos rfl] at q
   refine qc (c:=!(l.manner z == "turns")) (by rw [e]; rfl) ?_
   refine ap (s1 _ _ bd.at_) (af rfl (ap (s1 _ _ i1) ⟨rfl,_,⟨rfl,rfl⟩,V.p,z,l,rfl,pl.sub s1,fun q2 hq2=>?_⟩))
   have s2:=s1.trans (L3.Sub.new (c:=.lst ((l.phonesOf z).map D.str)) hq2)
   have c2:lstM (au M1 q2 (.lst ((l.phonesOf z).map D.str))) q2=some ((l.phonesOf z).map D.str):=av
   have e2:=(L3.Sub.new (c:=.lst ((l.phonesOf z).map D.str)) hq2).lst e1
   generalize au M1 q2 (.lst ((l.phonesOf z).map D.str))=M2 at s2 c2 e2 ⊢
   refine ap (s2 _ _ bd.at_) (af rfl (af rfl (af (s2.dk bd.nx) (af hn ?_))))
   refine af c2 fun q3 hq3=>?_
   rw [uz _ n (by rw [List.length_map]; exact nl),← List.map_drop]
   have t3:=L3.Sub.new (c:=.lst (((l.phonesOf z).drop n).map D.str)) hq3
   have c3':lstM (au M2 q3 (.lst (((l.phonesOf z).drop n).map D.str))) q3=some (((l.phonesOf z).drop n).map D.str):=av
   generalize au M2 q3 (.lst (((l.phonesOf z).drop n).map D.str))=M3 at t3 c3' ⊢
   refine af (t3.lst c2) fun q4 hq4=>?_
   rw [ju,← List.map_take]
   have t4:=L3.Sub.new (c:=.lst (((l.phonesOf z).take n).map D.str)) hq4
   have c4:lstM (au M3 q4 (.lst (((l.phonesOf z).take n).map D.str))) q4=some (((l.phonesOf z).take n).map D.str):=av
   generalize au M3 q4 (.lst (((l.phonesOf z).take n).map D.str))=M4 at t4 c4 ⊢
   have tf:=tg.few
   refine af (t4.lst c3') (af c4 ?_)
   refine ⟨by rw [List.length_map,List.length_map,List.length_drop,List.length_take]; omega,fun q5 hq5=>af av ?_⟩
   rw [← List.map_append]
   have t5:=L3.Sub.new (c:=.lst ((df (l.phonesOf z) n).map D.str)) hq5
   have c5:lstM (au M4 q5 (.lst ((df (l.phonesOf z) n).map D.str))) q5=some ((df (l.phonesOf z) n).map D.str):=av
   show gb _ _ _ _ _ ((df (l.phonesOf z) n).map D.str) _ _ (au M4 q5 (.lst ((df (l.phonesOf z) n).map D.str)))
   generalize au M4 q5 (.lst ((df (l.phonesOf z) n).map D.str))=M5 at t5 c5 ⊢
   have s5:=t3.trans (t4.trans t5)
   have e5:=s5.lst e2
   have tl:(df (l.phonesOf z) n).length≤200:=by
    unfold df
    rw [List.length_append,List.length_drop,List.length_take]
    omega
   refine dP (f:=id) (t:=fun d=>inD d ((eO l V c z).map D.str)) c5 _ [] _ (by rw [List.length_map]; simp only [List.length_nil]; omega) (fun d hd k hk=>?_) (fun d hd _ k hk=>?_) fun q6 hq6=>?_
   ·obtain ⟨x,hx,rfl⟩:=List.mem_map.mp hd
    exact af e5 ⟨rfl,cM _,hk⟩
   ·obtain ⟨x,hx,rfl⟩:=List.mem_map.mp hd
    exact hk
   ·have ef:[] ++ (List.filter (fun d=>inD d ((eO l V c z).map D.str)) ((df (l.phonesOf z) n).map D.str)).map id=((df (l.phonesOf z) n).filter fun x=>hasS (eO l V c z) x).map D.str:=by
     rw [List.nil_append,List.map_id,List.filter_map]
     have:((fun d=>inD d ((eO l V c z).map D.str)) ∘ D.str)=fun x=>hasS (eO l V c z) x:=by
      funext x
      exact jn _ _
     rw [this]
    rw [ef]
    refine af av fun q7 hq7=>af av ?_
    rw [show L3.gT (((df (l.phonesOf z) n).filter fun x=>hasS (eO l V c z) x).map D.str) none (some (1:Int))=(((df (l.phonesOf z) n).filter fun x=>hasS (eO l V c z) x).take 1).map D.str from (ju _ 1).trans (List.map_take).symm]
    exact ⟨M,s2.trans (s5.trans ((L3.Sub.new hq6).trans (.new hq7))),q⟩
theorem uR (G:Gl K mg a):Fn3 P w K mg base 6 a.f_end_without_wish a.fd_end_without_wish ["board","caller","target"] (uA a):=by
 have C_rung_phones:=vO (P:=P) (w:=w) (base:=base) G
 refine aR G.fn_end_without_wish fF (fun ds M Q h=>?_) (fun cdv A outer s H E hr=>⟨_,(aj (aG (i:=3) fF.nd rfl (Or.inl rfl) (ay C_rung_phones (hr.mono (by first | decide | omega)) rfl G.mg_rung_phones G.kp_rung_phones G.b_rung_phones (ae (aa 0 (pv 0)) (ae (aa 1 (pv 1)) (ae (aa 2 (pv 2)) ai)))))
 (aj (aL (aA (hu9 hr) (aP bW rfl G.no_len bL (ae (aa 3 (pv 3)) ai)) ao)
 (ak (aB (aK (ae ar (ae (aa 2 (pv 2)) ai)))))
 aD)
 (ak (aB (aK (ae ar (ae (aa 2 (pv 2)) (ae (aa 3 (pv 3)) ai)))))))),?_⟩)
 ·obtain ⟨A,V,l,c,z,n,rfl,_⟩:=h
  rfl
 ·rintro ds M Q ⟨A,V,l,c,z,n,rfl,rd,tg,nx,q⟩
  refine ⟨A,V,l,c,z,n,rfl,rd,tg,nx,?_⟩
  unfold iy at q
  cases e:cK l V c z n with
  | nil =>
   rw [e] at q
   exact ⟨few rfl,M,.refl,q⟩
  | cons x r =>
   rw [e,if_neg (List.cons_ne_nil _ _)] at q
   exact ⟨few rfl,M,.refl,q⟩
theorem oB (G:Gl K mg a):Fn3 P w K mg base 7 a.f_route a.fd_route ["board","caller","target","way"] (sE a):=by
 have C_fitting:=qa (P:=P) (w:=w) (base:=base) G
 have C_end_without_wish:=uR (P:=P) (w:=w) (base:=base) G
 refine aR G.fn_route hG (fun ds M Q h=>?_) (fun cdv A outer s H E hr=>⟨_,(aj (aG (i:=4) hG.nd rfl (Or.inl rfl) (ba fk rfl G.no_list fm (ae (aa 3 (pv 3)) ai)))
 (aj (aG (i:=5) hG.nd rfl (Or.inl rfl) (de ai))
 (aj (tY PassesOwn.never (aA (hu9 hr) (aa 2 (pv 2)) (aa 4 (pv 4)))
 (aj (aE (cP (aa 4 (pv 4)) (ae (aa 2 (pv 2)) ai)))
 (aj (aG (i:=6) hG.nd rfl (Or.inl rfl) (ay C_fitting (hr.mono (by first | decide | omega)) rfl G.mg_fitting G.kp_fitting G.b_fitting (ae (aa 0 (pv 0)) (ae (aa 1 (pv 1)) (ae (aa 2 (pv 2)) ai)))))
 (aj (aE (cP (aa 5 (pv 5)) (ae (aK (ae (aa 2 (pv 2)) (ae (aa 6 (pv 6)) ai))) ai)))
 (aj (aL (aA (hu9 hr) (aP bW rfl G.no_len bL (ae (aa 6 (pv 6)) ai)) ao)
 (ak (aB (aK (ae (ay C_end_without_wish (hr.mono (by first | decide | omega)) rfl G.mg_end_without_wish G.kp_end_without_wish G.b_end_without_wish (ae (aa 0 (pv 0)) (ae (aa 1 (pv 1)) (ae (aa 2 (pv 2)) ai)))) (ae (aa 5 (pv 5)) ai)))))
 aD)
 (aj dJ
 (aj (aL (aA (hu9 hr) (aC (aa 7 (pv 7)) ao) ar)
 (ak dJ)
 aD)
 (ak (aG (i:=2) hG.nd rfl (Or.inl rfl) (aC (aa 7 (pv 7)) ao))))))))))
 (ak (aB (aK (ae (aK (ae ar (ae (ba eS rfl G.no_tuple eL (ae (dh (aa 4 (pv 4)) (dQ (hZ (aa 4 (pv 4)) (ae (aa 2 (pv 2)) ai))) dN) ai)) ai))) (ae (aa 5 (pv 5)) ai)))))))),?_⟩)
 ·obtain ⟨A,V,l,c,z,n,r,rfl,_⟩:=h
  rfl
 ·rintro ds M Q ⟨A,V,l,c,z,n,r,rfl,rd,tg,nx,hr0,q⟩
  have hz:sizeLine=16777216:=sizeLine_eq
  refine af hr0 fun p1 hp1=>⟨few rfl,fun p2 hp2=>?_⟩
  have t1:=L3.Sub.new (c:=.lst []) hp1
  have t2:=L3.Sub.new (c:=.lst []) hp2
  have c1:lstM (au (au M p1 (.lst [])) p2 (.lst [])) p1=some []:=t2.lst av
  have c2:lstM (au (au M p1 (.lst [])) p2 (.lst [])) p2=some []:=av
  have n12:p2 ≠ p1:=fun y=>by rw [y,aZ] at hp2; cases hp2
  have m2:M p2=none:=t1.none hp2
  have s2:=t1.trans t2
  generalize au (au M p1 (.lst [])) p2 (.lst [])=M2 at c1 c2 s2 ⊢
  refine ⟨fun _ δ M'=>M'=M2∧δ=[some (.ref A.b),some (.str c),some (.str z),some (.ref r),some (.ref p1),some (.ref p2),none,none],⟨0,rfl,rfl⟩,?_⟩
  rintro m δ M' ⟨rfl,rfl⟩
  refine af c1 ⟨rfl,rfl,?_⟩
  refine vQ ⟨by show (lstM M' p1).isSome=true; rw [c1]; rfl,af c1 ⟨by rw [hz]; decide,?_⟩⟩
  have k3:dm p1 M' (au M' p1 (.lst ([] ++ [D.str z]))):=.put
  have s3:L3.Sub M (au M' p1 (.lst ([] ++ [D.str z]))):=fun x d hx=>by rw [fv (neM hx hp1)]; exact s2 x d hx
  have c3:=k3.lst n12 c2
  generalize au M' p1 (.lst ([] ++ [D.str z]))=M3 at s3 c3 ⊢
  refine ⟨A,V,l,_,_,rfl,rd.sub s3,?_⟩
  refine ⟨by show (lstM M3 p2).isSome=true; rw [c3]; rfl,few rfl,af c3 ⟨by rw [hz]; decide,?_⟩⟩
  have s4:L3.Sub M (au M3 p2 (.lst ([] ++ [D.tup [.str z,.tup []]]))):=fun x d hx=>by rw [fv (neM hx m2)]; exact s3 x d hx
  have c4:lstM (au M3 p2 (.lst ([] ++ [D.tup [.str z,.tup []]]))) p2=some [.tup [.str z,.tup []]]:=av
  generalize au M3 p2 (.lst ([] ++ [D.tup [.str z,.tup []]]))=M4 at s4 c4 ⊢
  exact ⟨A,V,l,c,z,n,rfl,rd.sub s4,tg,nx,few rfl,M4,.refl,q p2 M4 s4 m2 c4⟩
end
end Z
namespace Z
open PySem PySem.Spec PyProof.Rows L2 L3
def iK (V:BdV) (i:Nat) (c:aH):BdV:={ V with calls:=V.calls.set i c }
theorem dz (V:BdV) (i:Nat) (c d:aH):iK (iK V i c) i d=iK V i d:=by
 unfold iK
 rw [List.set_set]
structure CI (a:Ad) (M:Mp) (A:BdA) (V:BdV) (i:Nat) (k:eJ) (c:aH):Prop where
 bd:az a M A V
 e1:A.cs[i]?=some k
 e2:V.calls[i]?=some c
section
variable {a:Ad} {M M':Mp} {A:BdA} {V:BdV} {i:Nat} {k:eJ} {c:aH}
theorem CI.cell (h:CI a M A V i k c):dA a M A.lists k c:=h.bd.cs i k c h.e1 h.e2
theorem CI.sub (h:CI a M A V i k c) (s:L3.Sub M M'):CI a M' A V i k c:=⟨h.bd.sub s,h.e1,h.e2⟩
theorem CI.put (h:CI a M A V i k c) (c':aH) {ad md:Addr} (ew:c'.way=c.way) (la:lstM M ad=some (c'.at_.map D.str)) (lm:lstM M md=some (c'.ms.map D.str)) (na:ad ∉ A.lists) (nm:md ∉ A.lists) :
  CI a (au M k.p (.ins a.c_Call (cy c' k.wy ad md))) A (iK V i c') i k c'∧cz A M A (au M k.p (.ins a.c_Call (cy c' k.wy ad md))):=by
 obtain ⟨b,s⟩:=h.bd.putCall h.e1 h.e2 ew la lm na nm
 refine ⟨⟨b,h.e1,?_⟩,s⟩
 show (V.calls.set i c')[i]?=some c'
 rw [List.getElem?_set_self (List.getElem?_eq_some_iff.mp h.e2).1]
end
def ls (x:Str):aH:=⟨"rings",x,[],[],[],none,0,.non⟩
def aH.over (c:aH) (w:Str):aH:={ c with st:="over",wd:=.str w,at_:=[],ms:=[],hd:=none }
def e9 (ss:List Str) (x:Str):List Str:=ss.filter fun y=>!(y == x)
def aH.drop (c:aH) (x:Str):aH:={ c with at_:=e9 c.at_ x,ms:=e9 c.ms x }
def aH.ring (c:aH) (ps:List Str):aH:={ c with st:="rings",at_:=ps,si:=0 }
def aH.talk (c:aH) (ms:List Str):aH:={ c with st:="talks",ms:=ms,at_:=[],hd:=none }
inductive Chg (i:Nat) (c:aH):D→aH→Prop
 | rings (ps:List Str) (h:ps.length≤100):Chg i c (.tup [.str "rings",.int (i:Nat),.tup (ps.map D.str)]) (c.ring ps)
 | talks (ms:List Str) (h:ms.length≤100):Chg i c (.tup [.str "talks",.int (i:Nat),.tup (ms.map D.str)]) (c.talk ms)
 | leaves (x:Str):Chg i c (.tup [.str "leaves",.int (i:Nat),.str x]) (c.drop x)
 | over (w:Str):Chg i c (.tup [.str "over",.int (i:Nat),.str w]) (c.over w)
def oN (a:Ad):Sp3:=fun ds M Q=>∃ p x,ds=[.ref p,.str x]∧M p=some (.ins a.c_Call [])∧∀ M' wy ad md,dm p M M'→M wy=none→M ad=none→M md=none→ad ≠ wy→md ≠ wy→M' p=some (.ins a.c_Call (cy (ls x) wy ad md))→lstM M' wy=some []→lstM M' ad=some []→lstM M' md=some []→Q .non M'
def wR (a:Ad):Sp3:=fun ds M Q=>∃ A V i k c w,ds=[.ref k.p,.str w]∧CI a M A V i k c∧∀ M',cz A M A M'→az a M' A (iK V i (c.over w))→Q .non M'
def sQ (a:Ad):Sp3:=fun ds M Q=>∃ A V i k c x,ds=[.ref k.p,.str x]∧CI a M A V i k c∧c.at_.length≤100∧c.ms.length≤100∧∀ M',cz A M A M'→az a M' A (iK V i (c.drop x))→Q .non M'
def rp (a:Ad):Sp3:=fun ds M Q=>∃ A V i k c e c',ds=[.ref k.p,e]∧CI a M A V i k c∧c.at_.length≤100∧c.ms.length≤100∧Chg i c e c'∧∀ M',cz A M A M'→az a M' A (iK V i c')→Q .non M'
def yZ (x:Str):D→Bool
 | .str y=>!(y == x)
 | _=>false
theorem oX (ss:List Str) (x:Str):[] ++ (List.filter (yZ x) (ss.map D.str)).map id=(e9 ss x).map D.str:=by
 rw [List.nil_append,List.map_id,List.filter_map]
 rfl
section
variable {P:Program} {w:World} {K:PySem.W.Frag} {mg:Str→Option Value} {base:Heap} {a:Ad}
theorem v7 (G:Gl K mg a):Fn3 P w K mg base 1 a.f_Call_init a.fd_Call_init ["self","caller"] (oN a):=by
 refine aR G.fn_Call_init ng (fun ds M Q h=>?_) (fun cdv A outer s H E hr=>⟨_,(aj (bc (aa 0 (pv 0)) ar)
 (aj (bc (aa 0 (pv 0)) (aa 1 (pv 1)))
 (aj (bc (aa 0 (pv 0)) (de ai))
 (aj (bc (aa 0 (pv 0)) (de ai))
 (aj (bc (aa 0 (pv 0)) (de ai))
 (aj (bc (aa 0 (pv 0)) eB)
 (aj (bc (aa 0 (pv 0)) ao)
 (ak (bc (aa 0 (pv 0)) eB))))))))),?_⟩)
 ·obtain ⟨p,x,rfl,_⟩:=h
  rfl
 ·rintro ds M Q ⟨p,x,rfl,hb,q⟩
  refine ap hb ⟨G.na_Call_state,by show 0 < 1000; decide,?_⟩
  have k1:dm p M (au M p (.ins a.c_Call [("state",.str "rings")])):=.put
  have b1:au M p (.ins a.c_Call [("state",.str "rings")]) p=some (.ins a.c_Call [("state",.str "rings")]):=aZ
  show fE _ _ _ _ (au M p (.ins a.c_Call [("state",.str "rings")]))
  generalize au M p (.ins a.c_Call [("state",.str "rings")])=N1 at k1 b1 ⊢
  refine ap b1 ⟨G.na_Call_caller,by show 1 < 1000; decide,?_⟩
  have k2:=k1.trans (dm.put (p:=p) (c:=.ins a.c_Call [("state",.str "rings"),("caller",.str x)]))
  have b2:au N1 p (.ins a.c_Call [("state",.str "rings"),("caller",.str x)]) p=some (.ins a.c_Call [("state",.str "rings"),("caller",.str x)]):=aZ
  show fE _ _ _ _ (au N1 p (.ins a.c_Call [("state",.str "rings"),("caller",.str x)]))
  generalize au N1 p (.ins a.c_Call [("state",.str "rings"),("caller",.str x)])=N2 at k2 b2 ⊢
  refine ⟨few rfl,fun wy hwy=>?_⟩
  obtain ⟨n3,e3,k3,c3,b3⟩:=dF (fs':=[("state",.str "rings"),("caller",.str x),("way",.ref wy)]) (c:=.lst []) b2 hwy
  refine ap e3 ⟨G.na_Call_way,by show 2 < 1000; decide,?_⟩
  show fE _ _ _ _ (au (au N2 wy (.lst [])) p (.ins a.c_Call [("state",.str "rings"),("caller",.str x),("way",.ref wy)]))
  generalize au (au N2 wy (.lst [])) p (.ins a.c_Call [("state",.str "rings"),("caller",.str x),("way",.ref wy)])=N3 at k3 c3 b3 ⊢
  have z1:M wy=none:=cI k2 b2 hwy
  have kk3:=k2.trans k3
  have l3:lstM N3 wy=some []:=dB c3
  refine ⟨few rfl,fun ad had=>?_⟩
  obtain ⟨n4,e4,k4,c4,b4⟩:=dF (fs':=[("state",.str "rings"),("caller",.str x),("way",.ref wy),("at",.ref ad)]) (c:=.lst []) b3 had
  refine ap e4 ⟨G.na_Call_at,by show 3 < 1000; decide,?_⟩
  show fE _ _ _ _ (au (au N3 ad (.lst [])) p (.ins a.c_Call [("state",.str "rings"),("caller",.str x),("way",.ref wy),("at",.ref ad)]))
  generalize au (au N3 ad (.lst [])) p (.ins a.c_Call [("state",.str "rings"),("caller",.str x),("way",.ref wy),("at",.ref ad)])=N4 at k4 c4 b4 ⊢
  have z2:M ad=none:=cI kk3 b3 had
  have kk4:=kk3.trans k4
  have naw:ad ≠ wy:=fun z=>by rw [z,c3] at had; cases had
  have l4:=k4.lst (aI l3 b3) l3
  have m4:lstM N4 ad=some []:=dB c4
  refine ⟨few rfl,fun md hmd=>?_⟩
  obtain ⟨n5,e5,k5,c5,b5⟩:=dF (fs':=[("state",.str "rings"),("caller",.str x),("way",.ref wy),("at",.ref ad),("members",.ref md)]) (c:=.lst []) b4 hmd
  refine ap e5 ⟨G.na_Call_members,by show 4 < 1000; decide,?_⟩
  show fE _ _ _ _ (au (au N4 md (.lst [])) p (.ins a.c_Call [("state",.str "rings"),("caller",.str x),("way",.ref wy),("at",.ref ad),("members",.ref md)]))
  generalize au (au N4 md (.lst [])) p (.ins a.c_Call [("state",.str "rings"),("caller",.str x),("way",.ref wy),("at",.ref ad),("members",.ref md)])=N5 at k5 c5 b5 ⊢
  have z3:M md=none:=cI kk4 b4 hmd
  have kk5:=kk4.trans k5
  have nmw:md ≠ wy:=fun z=>by rw [z,bo l4] at hmd; cases hmd
  have l5:=k5.lst (aI l4 b4) l4
  have m5:=k5.lst (aI m4 b4) m4
  have o5:lstM N5 md=some []:=dB c5
  refine ap b5 ⟨G.na_Call_holder,by show 5 < 1000; decide,?_⟩
  have k6:dm p N5 (au N5 p (.ins a.c_Call [("state",.str "rings"),("caller",.str x),("way",.ref wy),("at",.ref ad),("members",.ref md),("holder",.non)])):=.put
  have b6:au N5 p (.ins a.c_Call [("state",.str "rings"),("caller",.str x),("way",.ref wy),("at",.ref ad),("members",.ref md),("holder",.non)]) p=some (.ins a.c_Call [("state",.str "rings"),("caller",.str x),("way",.ref wy),("at",.ref ad),("members",.ref md),("holder",.non)]):=aZ
  show fE _ _ _ _ (au N5 p (.ins a.c_Call [("state",.str "rings"),("caller",.str x),("way",.ref wy),("at",.ref ad),("members",.ref md),("holder",.non)]))
  generalize au N5 p (.ins a.c_Call [("state",.str "rings"),("caller",.str x),("way",.ref wy),("at",.ref ad),("members",.ref md),("holder",.non)])=N6 at k6 b6 ⊢
  refine ap b6 ⟨G.na_Call_since,by show 6 < 1000; decide,?_⟩
  have k7:=k6.trans (dm.put (p:=p) (c:=.ins a.c_Call [("state",.str "rings"),("caller",.str x),("way",.ref wy),("at",.ref ad),("members",.ref md),("holder",.non),("since",.int 0)]))
  have b7:au N6 p (.ins a.c_Call [("state",.str "rings"),("caller",.str x),("way",.ref wy),("at",.ref ad),("members",.ref md),("holder",.non),("since",.int 0)]) p=some (.ins a.c_Call [("state",.str "rings"),("caller",.str x),("way",.ref wy),("at",.ref ad),("members",.ref md),("holder",.non),("since",.int 0)]):=aZ
  rw [show putD "since" (.int 0) [("state",.str "rings"),("caller",.str x),("way",.ref wy),("at",.ref ad),("members",.ref md),("holder",.non)]=([("state",.str "rings"),("caller",.str x),("way",.ref wy),("at",.ref ad),("members",.ref md),("holder",.non),("since",.int 0)]:List (Str × D)) from rfl]
  generalize au N6 p (.ins a.c_Call [("state",.str "rings"),("caller",.str x),("way",.ref wy),("at",.ref ad),("members",.ref md),("holder",.non),("since",.int 0)])=N7 at k7 b7 ⊢
  refine ap b7 ⟨G.na_Call_word,by show 7 < 1000; decide,_,.refl,?_⟩
  have k8:=k7.trans (dm.put (p:=p) (c:=.ins a.c_Call (cy (ls x) wy ad md)))
  exact q _ wy ad md (kk5.trans k8) z1 z2 z3 naw nmw aZ (k8.lst (aI l5 b5) l5) (k8.lst (aI m5 b5) m5) (k8.lst (aI o5 b5) o5)
end
end Z
namespace Z
open PySem PySem.Spec PyProof.Rows L2 L3
section
variable {P:Program} {w:World} {K:PySem.W.Frag} {mg:Str→Option Value} {base:Heap} {a:Ad}
theorem vP (G:Gl K mg a):Fn3 P w K mg base 1 a.f_end_call a.fd_end_call ["call","word"] (wR a):=by
 refine aR G.fn_end_call oq (fun ds M Q h=>?_) (fun cdv A outer s H E hr=>⟨_,(aj (bc (aa 0 (pv 0)) ar)
 (aj (bc (aa 0 (pv 0)) (aa 1 (pv 1)))
 (aj (bc (aa 0 (pv 0)) (de ai))
 (aj (bc (aa 0 (pv 0)) (de ai))
 (ak (bc (aa 0 (pv 0)) eB)))))),?_⟩)
 ·obtain ⟨A,V,i,k,c,w0,rfl,_⟩:=h
  rfl
 ·rintro ds M Q ⟨A,V,i,k,c,w0,rfl,h,q⟩
  obtain ⟨ad,md,h1,h2,h3,h4,n1,n2⟩:=h.cell
  refine ap h1 ⟨G.na_Call_state,by show 8 < 1000; decide,?_⟩
  obtain ⟨g1,s1⟩:=h.put { c with st:="over" } rfl h3 h4 n1 n2
  show fE _ _ _ _ (au M k.p (.ins a.c_Call (cy { c with st:="over" } k.wy ad md)))
  generalize au M k.p (.ins a.c_Call (cy { c with st:="over" } k.wy ad md))=M1 at g1 s1 ⊢
  clear h1 h2 h3 h4 n1 n2
  obtain ⟨ad,md,h1,h2,h3,h4,n1,n2⟩:=g1.cell
  refine ap h1 ⟨G.na_Call_word,by show 8 < 1000; decide,?_⟩
  obtain ⟨g2,s2⟩:=g1.put { c with st:="over",wd:=.str w0 } rfl h3 h4 n1 n2
  show fE _ _ _ _ (au M1 k.p (.ins a.c_Call (cy { c with st:="over",wd:=.str w0 } k.wy ad md)))
  generalize au M1 k.p (.ins a.c_Call (cy { c with st:="over",wd:=.str w0 } k.wy ad md))=M2 at g2 s2 ⊢
  clear h1 h2 h3 h4 n1 n2
  refine ⟨few rfl,fun p hp=>?_⟩
  have t3:=L3.Sub.new (c:=.lst []) hp
  have lp:lstM (au M2 p (.lst [])) p=some []:=av
  have np:=g2.bd.notL hp
  have g2':=g2.sub t3
  have s2':=s2.trans (.sub t3)
  generalize au M2 p (.lst [])=M2' at t3 lp g2' s2' ⊢
  obtain ⟨ad,md,h1,h2,h3,h4,n1,n2⟩:=g2'.cell
  refine ap h1 ⟨G.na_Call_at,by show 8 < 1000; decide,?_⟩
  obtain ⟨g3,s3⟩:=g2'.put { c with st:="over",wd:=.str w0,at_:=[] } rfl lp h4 np n2
  show fE _ _ _ _ (au M2' k.p (.ins a.c_Call (cy { c with st:="over",wd:=.str w0,at_:=[] } k.wy p md)))
  generalize au M2' k.p (.ins a.c_Call (cy { c with st:="over",wd:=.str w0,at_:=[] } k.wy p md))=M3 at g3 s3 ⊢
  clear h1 h2 h3 h4 n1 n2 lp t3 np g2 g2'
  refine ⟨few rfl,fun p2 hp2=>?_⟩
  have t4:=L3.Sub.new (c:=.lst []) hp2
  have lp:lstM (au M3 p2 (.lst [])) p2=some []:=av
  have np:=g3.bd.notL hp2
  have g3':=g3.sub t4
  have s3':=s3.trans (.sub t4)
  generalize au M3 p2 (.lst [])=M3' at t4 lp g3' s3' ⊢
  obtain ⟨ad,md,h1,h2,h3,h4,n1,n2⟩:=g3'.cell
  refine ap h1 ⟨G.na_Call_members,by show 8 < 1000; decide,?_⟩
  obtain ⟨g4,s4⟩:=g3'.put { c with st:="over",wd:=.str w0,at_:=[],ms:=[] } rfl h3 lp n1 np
  rw [show putD "members" (.ref p2) (cy { c with st:="over",wd:=.str w0,at_:=[] } k.wy ad md)=cy { c with st:="over",wd:=.str w0,at_:=[],ms:=[] } k.wy ad p2 from rfl]
  generalize au M3' k.p (.ins a.c_Call (cy { c with st:="over",wd:=.str w0,at_:=[],ms:=[] } k.wy ad p2))=M4 at g4 s4 ⊢
  clear h1 h2 h3 h4 n1 n2 lp t4 np g3 g3'
  obtain ⟨ad,md,h1,h2,h3,h4,n1,n2⟩:=g4.cell
  refine ap h1 ⟨G.na_Call_holder,by show 8 < 1000; decide,_,.refl,?_⟩
  obtain ⟨g5,s5⟩:=g4.put (c.over w0) rfl h3 h4 n1 n2
  refine q _ ((s1.trans s2').trans (s3'.trans (s4.trans s5))) ?_
  have:=g5.bd
  rw [dz,dz,dz,dz] at this
  exact this
theorem sH (G:Gl K mg a):Fn3 P w K mg base 1 a.f_drop_phone a.fd_drop_phone ["call","phone"] (sQ a):=by
 refine aR G.fn_drop_phone lU (fun ds M Q h=>?_) (fun cdv A outer s H E hr=>⟨_,(aj (bc (aa 0 (pv 0)) (bV rfl (c9 (ix:=[none,some 1]) (N':=["other","phone"]) (by kernel_rfl)) (bM (aw (aa 0 (pv 0)))) (fun C s0 H0 ex=>(aF (i:=0) (show List.Nodup (["other","phone"]:List Str) by decide +kernel) rfl (Or.inl rfl))) (fun C s0 H0 ex=>(gK (aA (hu9 hr) (aa 0 (pv 0)) (aa 1 (pv 1))))) (fun C s0 H0 ex=>(aa 0 (pv 0)))))
 (ak (bc (aa 0 (pv 0)) (bV rfl (c9 (ix:=[none,some 1]) (N':=["other","phone"]) (by kernel_rfl)) (bM (aw (aa 0 (pv 0)))) (fun C s0 H0 ex=>(aF (i:=0) (show List.Nodup (["other","phone"]:List Str) by decide +kernel) rfl (Or.inl rfl))) (fun C s0 H0 ex=>(gK (aA (hu9 hr) (aa 0 (pv 0)) (aa 1 (pv 1))))) (fun C s0 H0 ex=>(aa 0 (pv 0))))))),?_⟩)
 ·obtain ⟨A,V,i,k,c,x,rfl,_⟩:=h
  rfl
 ·rintro ds M Q ⟨A,V,i,k,c,x,rfl,h,la,lm,q⟩
  have hz:sizeLine=16777216:=sizeLine_eq
  obtain ⟨ad,md,h1,h2,h3,h4,n1,n2⟩:=h.cell
  refine ap h1 (af rfl (af h3 (dP (f:=id) (t:=yZ x) h3 _ [] _ (by rw [List.length_map]; simp only [List.length_nil]; omega) (fun d hd k0 hk=>?_) (fun d hd _ k0 hk=>?_) fun p hp=>?_)))
  ·obtain ⟨y,hy,rfl⟩:=List.mem_map.mp hd
   exact hk
  ·obtain ⟨y,hy,rfl⟩:=List.mem_map.mp hd
   exact hk
  rw [oX]
  have t1:=L3.Sub.new (c:=.lst ((e9 c.at_ x).map D.str)) hp
  have lp:lstM (au M p (.lst ((e9 c.at_ x).map D.str))) p=some ((e9 c.at_ x).map D.str):=av
  have np:=h.bd.notL hp
  have h':=h.sub t1
  have s1:cz A M A (au M p (.lst ((e9 c.at_ x).map D.str))):=.sub t1
  generalize au M p (.lst ((e9 c.at_ x).map D.str))=M1 at t1 lp h' s1 ⊢
  clear h1 h2 h3 h4 n1 n2
  obtain ⟨ad,md,h1,h2,h3,h4,n1,n2⟩:=h'.cell
  refine ap h1 ⟨G.na_Call_at,by show 8 < 1000; decide,?_⟩
  obtain ⟨g2,s2⟩:=h'.put { c with at_:=e9 c.at_ x } rfl lp h4 np n2
  rw [show putD "at" (.ref p) (cy c k.wy ad md)=cy { c with at_:=e9 c.at_ x } k.wy p md from rfl]
  generalize au M1 k.p (.ins a.c_Call (cy { c with at_:=e9 c.at_ x } k.wy p md))=M2 at g2 s2 ⊢
  clear h1 h2 h3 h4 n1 n2 lp np
  obtain ⟨ad,md,h1,h2,h3,h4,n1,n2⟩:=g2.cell
  refine ap h1 (af rfl (af h4 (dP (f:=id) (t:=yZ x) h4 _ [] _ (by rw [List.length_map]; simp only [List.length_nil]; show 0 + c.ms.length≤sizeLine; omega) (fun d hd k0 hk=>?_) (fun d hd _ k0 hk=>?_) fun p2 hp2=>?_)))
  ·obtain ⟨y,hy,rfl⟩:=List.mem_map.mp hd
   exact hk
  ·obtain ⟨y,hy,rfl⟩:=List.mem_map.mp hd
   exact hk
  rw [oX]
  have t3:=L3.Sub.new (c:=.lst ((e9 c.ms x).map D.str)) hp2
  have lp:lstM (au M2 p2 (.lst ((e9 c.ms x).map D.str))) p2=some ((e9 c.ms x).map D.str):=av
  have np:=g2.bd.notL hp2
  have g2':=g2.sub t3
  have s3:cz A M2 A (au M2 p2 (.lst ((e9 c.ms x).map D.str))):=.sub t3
  generalize au M2 p2 (.lst ((e9 c.ms x).map D.str))=M3 at t3 lp g2' s3 ⊢
  clear h1 h2 h3 h4 n1 n2
  obtain ⟨ad,md,h1,h2,h3,h4,n1,n2⟩:=g2'.cell
  refine ap h1 ⟨G.na_Call_members,by show 8 < 1000; decide,_,.refl,?_⟩
  obtain ⟨g4,s4⟩:=g2'.put (c.drop x) rfl h3 lp n1 np
  refine q _ ((s1.trans s2).trans (s3.trans s4)) ?_
  have:=g4.bd
  rw [dz] at this
  exact this
theorem rS (G:Gl K mg a):Fn3 P w K mg base 2 a.f_change_call a.fd_change_call ["call","event"] (rp a):=by
 have C_drop_phone:=sH (P:=P) (w:=w) (base:=base) G
 have C_end_call:=vP (P:=P) (w:=w) (base:=base) G
 refine aR G.fn_change_call gY (fun ds M Q h=>?_) (fun cdv A outer s H E hr=>⟨_,(aj (aG (i:=2) gY.nd rfl (Or.inl rfl) (aC (aa 1 (pv 1)) ao))
 (ak (aL (aA (hu9 hr) (aa 2 (pv 2)) ar)
 (aj (bc (aa 0 (pv 0)) ar)
 (aj (bc (aa 0 (pv 0)) (ba fk rfl G.no_list fm (ae (aC (aa 1 (pv 1)) ao) ai)))
 (ak (bc (aa 0 (pv 0)) ao))))
 (ak (aL (aA (hu9 hr) (aa 2 (pv 2)) ar)
 (ak (bc (aa 0 (pv 0)) (de ai)))
 (ak (aL (aA (hu9 hr) (aa 2 (pv 2)) ar)
 (aj (bc (aa 0 (pv 0)) ar)
 (ak (bc (aa 0 (pv 0)) (de (ae (aC (aa 1 (pv 1)) ao) ai)))))
 (ak (aL (aA (hu9 hr) (aa 2 (pv 2)) ar)
 (aj (bc (aa 0 (pv 0)) ar)
 (aj (bc (aa 0 (pv 0)) (ba fk rfl G.no_list fm (ae (aC (aa 1 (pv 1)) ao) ai)))
 (aj (bc (aa 0 (pv 0)) (de ai))
 (ak (bc (aa 0 (pv 0)) eB)))))
 (ak (aL (aA (hu9 hr) (aa 2 (pv 2)) ar)
 (aj (bc (aa 0 (pv 0)) ar)
 (ak (bc (aa 0 (pv 0)) (aC (aa 1 (pv 1)) ao))))
 (ak (aL (aA (hu9 hr) (aa 2 (pv 2)) ar)
 (ak (aE (ay C_drop_phone (hr.mono (by first | decide | omega)) rfl G.mg_drop_phone G.kp_drop_phone G.b_drop_phone (ae (aa 0 (pv 0)) (ae (aC (aa 1 (pv 1)) ao) ai)))))
 (ak (aL (aA (hu9 hr) (aa 2 (pv 2)) ar)
 (ak (aE (ay C_end_call (hr.mono (by first | decide | omega)) rfl G.mg_end_call G.kp_end_call G.b_end_call (ae (aa 0 (pv 0)) (ae (aC (aa 1 (pv 1)) ao) ai)))))
 aD))))))))))))))),?_⟩)
 ·obtain ⟨A,V,i,k,c,e,c',rfl,_⟩:=h
  rfl
 ·rintro ds M Q ⟨A,V,i,k,c,e,c',rfl,h,la,lm,hc,q⟩
  cases hc with
  | over w0=>exact ⟨A,V,i,k,c,w0,rfl,h,fun M' s b=>⟨M',.refl,q M' s b⟩⟩
  | leaves x=>exact ⟨A,V,i,k,c,x,rfl,h,la,lm,fun M' s b=>⟨M',.refl,q M' s b⟩⟩
  | rings ps _ =>
   obtain ⟨ad,md,h1,h2,h3,h4,n1,n2⟩:=h.cell
   refine ap h1 ⟨G.na_Call_state,by show 8 < 1000; decide,?_⟩
   obtain ⟨g1,s1⟩:=h.put { c with st:="rings" } rfl h3 h4 n1 n2
   show fE _ _ _ _ (au M k.p (.ins a.c_Call (cy { c with st:="rings" } k.wy ad md)))
   generalize au M k.p (.ins a.c_Call (cy { c with st:="rings" } k.wy ad md))=M1 at g1 s1 ⊢
   clear h1 h2 h3 h4 n1 n2
   refine fun p hp=>?_
   have t3:=L3.Sub.new (c:=.lst (ps.map D.str)) hp
   have lp:lstM (au M1 p (.lst (ps.map D.str))) p=some (ps.map D.str):=av
   have np:=g1.bd.notL hp
   have g1':=g1.sub t3
   have s1':=s1.trans (.sub t3)
   generalize au M1 p (.lst (ps.map D.str))=M1' at t3 lp g1' s1' ⊢
   obtain ⟨ad,md,h1,h2,h3,h4,n1,n2⟩:=g1'.cell
   refine ap h1 ⟨G.na_Call_at,by show 8 < 1000; decide,?_⟩
   obtain ⟨g3,s3⟩:=g1'.put { c with st:="rings",at_:=ps } rfl lp h4 np n2
   rw [show putD "at" (.ref p) (cy { c with st:="rings" } k.wy ad md)=cy { c with st:="rings",at_:=ps } k.wy p md from rfl]
   generalize au M1' k.p (.ins a.c_Call (cy { c with st:="rings",at_:=ps } k.wy p md))=M3 at g3 s3 ⊢
   clear h1 h2 h3 h4 n1 n2 lp t3 np
   obtain ⟨ad,md,h1,h2,h3,h4,n1,n2⟩:=g3.cell
   refine ap h1 ⟨G.na_Call_since,by show 8 < 1000; decide,_,.refl,?_⟩
   obtain ⟨g5,s5⟩:=g3.put (c.ring ps) rfl h3 h4 n1 n2
   refine q _ (s1'.trans (s3.trans s5)) ?_
   have:=g5.bd
   rw [dz,dz] at this
   exact this
  | talks ms _ =>
   obtain ⟨ad,md,h1,h2,h3,h4,n1,n2⟩:=h.cell
   refine ap h1 ⟨G.na_Call_state,by show 8 < 1000; decide,?_⟩
   obtain ⟨g1,s1⟩:=h.put { c with st:="talks" } rfl h3 h4 n1 n2
   show fE _ _ _ _ (au M k.p (.ins a.c_Call (cy { c with st:="talks" } k.wy ad md)))
   generalize au M k.p (.ins a.c_Call (cy { c with st:="talks" } k.wy ad md))=M1 at g1 s1 ⊢
   clear h1 h2 h3 h4 n1 n2
   refine fun p hp=>?_
   have t3:=L3.Sub.new (c:=.lst (ms.map D.str)) hp
   have lp:lstM (au M1 p (.lst (ms.map D.str))) p=some (ms.map D.str):=av
   have np:=g1.bd.notL hp
   have g1':=g1.sub t3
   have s1':=s1.trans (.sub t3)
   generalize au M1 p (.lst (ms.map D.str))=M1' at t3 lp g1' s1' ⊢
   obtain ⟨ad,md,h1,h2,h3,h4,n1,n2⟩:=g1'.cell
   refine ap h1 ⟨G.na_Call_members,by show 8 < 1000; decide,?_⟩
   obtain ⟨g3,s3⟩:=g1'.put { c with st:="talks",ms:=ms } rfl h3 lp n1 np
   show fE _ _ _ _ (au M1' k.p (.ins a.c_Call (cy { c with st:="talks",ms:=ms } k.wy ad p)))
   generalize au M1' k.p (.ins a.c_Call (cy { c with st:="talks",ms:=ms } k.wy ad p))=M3 at g3 s3 ⊢
   clear h1 h2 h3 h4 n1 n2 lp t3 np
   refine ⟨few rfl,fun p2 hp2=>?_⟩
   have t4:=L3.Sub.new (c:=.lst []) hp2
   have lp:lstM (au M3 p2 (.lst [])) p2=some []:=av
   have np:=g3.bd.notL hp2
   have g3':=g3.sub t4
   have s3':=s3.trans (.sub t4)
   generalize au M3 p2 (.lst [])=M3' at t4 lp g3' s3' ⊢
   obtain ⟨ad,md,h1,h2,h3,h4,n1,n2⟩:=g3'.cell
   refine ap h1 ⟨G.na_Call_at,by show 8 < 1000; decide,?_⟩
   obtain ⟨g4,s4⟩:=g3'.put { c with st:="talks",ms:=ms,at_:=[] } rfl lp h4 np n2
   rw [show putD "at" (.ref p2) (cy { c with st:="talks",ms:=ms } k.wy ad md)=cy { c with st:="talks",ms:=ms,at_:=[] } k.wy p2 md from rfl]
   generalize au M3' k.p (.ins a.c_Call (cy { c with st:="talks",ms:=ms,at_:=[] } k.wy p2 md))=M4 at g4 s4 ⊢
   clear h1 h2 h3 h4 n1 n2 lp t4 np
   obtain ⟨ad,md,h1,h2,h3,h4,n1,n2⟩:=g4.cell
   refine ap h1 ⟨G.na_Call_holder,by show 8 < 1000; decide,_,.refl,?_⟩
   obtain ⟨g5,s5⟩:=g4.put (c.talk ms) rfl h3 h4 n1 n2
   refine q _ (s1'.trans (s3'.trans (s4.trans s5))) ?_
   have:=g5.bd
   rw [dz,dz,dz] at this
   exact this
end
end Z
namespace Z
open PySem PySem.Spec PyProof.Rows L2 L3
def aH.tick (c:aH):aH:=if (c.st == "rings")=true then { c with si:=c.si + 1 } else c
def va (V:BdV):BdV:={ V with t:=V.t + 1,calls:=V.calls.map aH.tick }
def mY (c:aH) (g:Str):aH:={ c with way:=c.way ++ [g] }
def fW (a:Ad):Sp3:=fun ds M Q=>∃ A V,ds=[.ref A.b]∧az a M A V∧∀ M',cz A M A M'→az a M' A (va V)→Q .non M'
def gS (a:Ad):Sp3:=fun ds M Q=>∃ A V i k c f g y,ds=[.ref A.b,.tup [.int (i:Nat),f,.str g,y]]∧CI a M A V i k c∧V.legs.length < 100000∧c.way.length < 100000∧∀ M',cz A M A M'→az a M' A { iK V i (mY c g) with legs:=V.legs ++ [.tup [.int (i:Nat),f,.str g,y]] }→Q .non M'
theorem u6 {α:Type} {l:List α} {i:Nat} {x:α} (h:l[i]?=some x):l.set i x=l:=by
 obtain ⟨hi,e⟩:=List.getElem?_eq_some_iff.mp h
 rw [← e,List.set_getElem_self]
theorem fO {ks:List eJ} {i:Nat} {k:eJ} (h:ks[i]?=some k):atI (ks.map fun k=>D.ref k.p) (i:Nat)=some (.ref k.p):=io (by rw [List.getElem?_map,h]; rfl)
theorem rQ {cs:List aH} {n:Nat} {c:aH} (h:cs[n]?=some c):((cs.take n).map aH.tick ++ cs.drop n)[n]?=some c∧((cs.take n).map aH.tick ++ cs.drop n).set n c.tick=(cs.take (n + 1)).map aH.tick ++ cs.drop (n + 1):=by
 have hn:=(List.getElem?_eq_some_iff.mp h).1
 have hl:((cs.take n).map aH.tick).length=n:=by rw [List.length_map,List.length_take]; omega
 have hd:cs.drop n=c :: cs.drop (n + 1):=by
  rw [List.drop_eq_getElem_cons hn]
  congr 1
  rw [List.getElem?_eq_getElem hn] at h
  exact Option.some.inj h
 constructor
 ·rw [List.getElem?_append_right (by omega),hl,Nat.sub_self,hd]
  rfl
 ·rw [List.set_append_right _ _ (by omega),hl,Nat.sub_self,hd,List.set_cons_zero,List.take_add_one,h,List.map_append,List.append_assoc]
  rfl
section
variable {P:Program} {w:World} {K:PySem.W.Frag} {mg:Str→Option Value} {base:Heap} {a:Ad}
theorem nu (G:Gl K mg a):Fn3 P w K mg base 1 a.f_Board_pass_turn a.fd_Board_pass_turn ["self"] (fW a):=by
 refine aR G.fn_Board_pass_turn fP (fun ds M Q h=>?_) (fun cdv A outer s H E hr=>⟨_,(aj (mo (aa 0 (pv 0)) ao)
 (ak (ie PassesOwn.never rfl (bM (aw (aa 0 (pv 0)))) (aF (i:=1) fP.nd rfl (Or.inl rfl))
 (ak (aL (aA (hu9 hr) (aw (aa 1 (pv 1))) ar)
 (ak (mo (aa 1 (pv 1)) ao))
 aD))))),?_⟩)
 ·obtain ⟨A,V,rfl,_⟩:=h
  rfl
 ·rintro ds M Q ⟨A,V,rfl,bd,q⟩
  refine ap bd.at_ ⟨G.na_Board_turn,af rfl (af rfl (ap bd.at_ ⟨rfl,by show 8 < 1000; decide,?_⟩))⟩
  obtain ⟨b1,s1⟩:=bd.putT (t:=V.t + 1)
  rw [show putD "turn" (.int (V.t + 1)) (gF (.ref V.p) V.h V.t A.ca A.le A.nx A.on A.lo)=gF (.ref V.p) V.h (V.t + 1) A.ca A.le A.nx A.on A.lo from rfl]
  generalize au M A.b (.ins a.c_Board (gF (.ref V.p) V.h (V.t + 1) A.ca A.le A.nx A.on A.lo))=M1 at b1 s1 ⊢
  refine ap b1.at_ (af rfl (af b1.ca ?_))
  refine jI (A.cs.map fun k=>D.ref k.p) (fun pre δ M'=>cz A M A M'∧az a M' A { V with t:=V.t + 1,calls:=(V.calls.take pre.length).map aH.tick ++ V.calls.drop pre.length }∧∃ y,δ=[some (.ref A.b),y]) (fun _ _ M' j=>j.2.1.ca) _ [] _ _ rfl ⟨s1,b1,none,rfl⟩ ?_ ?_
  ·rintro pre d post e δ M' ⟨s2,b2,y,rfl⟩ nx hnx
   obtain ⟨k,c,e1,e2,rfl,hc,et⟩:=jg bd e
   obtain ⟨t1,t2⟩:=rQ e2
   have ci:CI a M' A _ pre.length k c:=⟨b2,e1,t1⟩
   obtain ⟨ad,md,h1,h2,h3,h4,n1,n2⟩:=ci.cell
   refine ap h1 (af rfl ?_)
   rw [List.length_append,List.length_singleton] at hnx
   refine dc (c:=c.st == "rings") (fun g=>?_) (fun g=>?_)
   ·have ec:c.tick={ c with si:=c.si + 1 }:=by unfold aH.tick; rw [if_pos g]
    refine ap h1 ⟨G.na_Call_since,af rfl (af rfl (ap h1 ⟨rfl,by show 8 < 1000; decide,?_⟩))⟩
    obtain ⟨g2,s3⟩:=ci.put { c with si:=c.si + 1 } rfl h3 h4 n1 n2
    refine hnx _ _ ⟨s2.trans s3,?_,_,rfl⟩
    have:=g2.bd
    unfold iK at this
    dsimp only at this
    rw [ec] at t2
    rw [t2] at this
    exact this
   ·have ec:c.tick=c:=by unfold aH.tick; rw [if_neg g]
    refine hnx _ _ ⟨s2,?_,_,rfl⟩
    rw [← t2,ec,u6 t1]
    exact b2
  ·rintro δ M' ⟨s2,b2,y,rfl⟩
   rw [List.length_map,bd.len,List.take_length,List.drop_length,List.append_nil] at b2
   exact ⟨M',.refl,q M' s2 b2⟩
theorem pU (G:Gl K mg a):Fn3 P w K mg base 1 a.f_Board_add_leg a.fd_Board_add_leg ["self","leg"] (gS a):=by
 refine aR G.fn_Board_add_leg jA (fun ds M Q h=>?_) (fun cdv A outer s H E hr=>⟨_,(aj (aE (cP (aw (aa 0 (pv 0))) (ae (aa 1 (pv 1)) ai)))
 (ak (aE (cP (aw (aC (aw (aa 0 (pv 0))) (aC (aa 1 (pv 1)) ao))) (ae (aC (aa 1 (pv 1)) ao) ai))))),?_⟩)
 ·obtain ⟨A,V,i,k,c,f,g,y,rfl,_⟩:=h
  rfl
 ·rintro ds M Q ⟨A,V,i,k,c,f,g,y,rfl,ci,l1,l2,q⟩
  have hz:sizeLine=16777216:=sizeLine_eq
  have bd:=ci.bd
  refine ap bd.at_ (af rfl ⟨by show (lstM M A.le).isSome=true; rw [bd.le]; rfl,af bd.le ⟨by omega,?_⟩⟩)
  obtain ⟨b1,s1⟩:=bd.putLeg (es:=V.legs ++ [.tup [.int (i:Nat),f,.str g,y]])
  generalize au M A.le (.lst (V.legs ++ [.tup [.int (i:Nat),f,.str g,y]]))=M1 at b1 s1 ⊢
  obtain ⟨ad,md,h1,h2,h3,h4,n1,n2⟩:=b1.cs i k c ci.e1 ci.e2
  refine ap b1.at_ (af rfl (af b1.ca (af (fO ci.e1) (ap h1 (af rfl ⟨by show (lstM M1 k.wy).isSome=true; rw [h2]; rfl,af h2 ⟨by rw [List.length_map]; omega,?_⟩⟩)))))
  obtain ⟨b2,s2⟩:=b1.putWay (ws:=c.way ++ [g]) ci.e1 ci.e2
  rw [List.map_append] at b2 s2
  exact ⟨_,.refl,q _ (s1.trans s2) b2⟩
end
def jJ (ps:List (Str × Int)) (z:Str) (n:Int):List (Str × Int):=if (ps.any fun p=>decide (p.1=z))=true then ps.map (fun p=>if p.1=z then (p.1,n) else p) else ps ++ [(z,n)]
theorem kH (ps:List (Str × Int)) (z:Str) (n:Int):kM (bC ps) (.inr z) (.int n)=bC (jJ ps z n):=by
 have ea:((bC ps).any fun kv=>decide (kv.1=(Sum.inr z:Key)))=ps.any fun p=>decide (p.1=z):=by
  unfold bC
  rw [List.any_map]
  congr 1
  funext p
  have:((Sum.inr p.1:Key)=Sum.inr z)=(p.1=z):=propext ⟨fun h=>Sum.inr.inj h,fun h=>by rw [h]⟩
  simp only [Function.comp,this]
 unfold kM jJ
 rw [ea]
 by_cases h:(ps.any fun p=>decide (p.1=z))=true
 ·rw [if_pos h,if_pos h]
  unfold bC
  rw [List.map_map,List.map_map]
  refine List.map_congr_left fun p _=>?_
  by_cases hp:p.1=z
  ·simp [hp]
  ·have:¬ (Sum.inr p.1:Key)=Sum.inr z:=fun y=>hp (Sum.inr.inj y)
   simp [hp]
 ·rw [if_neg h,if_neg h]
  unfold bC
  rw [List.map_append]
  rfl
def dS (V:BdV) (e:D):BdV:={ V with log:=V.log ++ [e] }
inductive Ev (V:BdV):D→BdV→Prop
 | new (n:D) (x:Str):Ev V (.tup [.str "new",n,.str x]) { V with calls:=V.calls ++ [ls x] }
 | leg (i:Nat) (c:aH) (f:D) (g:Str) (y:D) (h:V.calls[i]?=some c):Ev V (.tup [.str "leg",.int (i:Nat),f,.str g,y]) { iK V i (mY c g) with legs:=V.legs ++ [.tup [.int (i:Nat),f,.str g,y]] }
 | next (z:Str) (n:Int):Ev V (.tup [.str "next",.str z,.int n]) { V with ps:=jJ V.ps z n }
 | turn:Ev V (.tup [.str "turn"]) (va V)
 | asks (x y z:D):Ev V (.tup [.str "asks",x,y,z]) V
 | chg (i:Nat) (c:aH) (e:D) (c':aH) (h:V.calls[i]?=some c) (hc:Chg i c e c'):Ev V e (iK V i c')
structure Lim (V:BdV):Prop where
 lo:V.log.length < 100000
 le:V.legs.length < 100000
 ca:V.calls.length < 1000
 ps:V.ps.length < 1000
 cs:∀ c∈V.calls,c.way.length < 100000∧c.at_.length≤100∧c.ms.length≤100
def aQ (a:Ad):Sp3:=fun ds M Q=>∃ b A V e V',ds=[.ref b,e]∧A.b=b∧az a M A V∧Lim V∧Ev (dS V e) e V'∧∀ M' A',A'.b=A.b→cz A M A' M'→az a M' A' V'→Q .non M'
section
variable {P:Program} {w:World} {K:PySem.W.Frag} {mg:Str→Option Value} {base:Heap} {a:Ad}
theorem fB (G:Gl K mg a):Fn3 P w K mg base 3 a.f_Board_apply a.fd_Board_apply ["self","event"] (aQ a):=by
 have C_Board_pass_turn:=nu (P:=P) (w:=w) (base:=base) G
 have C_Board_add_leg:=pU (P:=P) (w:=w) (base:=base) G
 have C_change_call:=rS (P:=P) (w:=w) (base:=base) G
 have C_Call_init:=v7 (P:=P) (w:=w) (base:=base) G
 refine aR G.fn_Board_apply ii (fun ds M Q h=>?_) (fun cdv A outer s H E hr=>⟨_,(aj (aE (cP (aw (aa 0 (pv 0))) (ae (aa 1 (pv 1)) ai)))
 (aj (aG (i:=2) ii.nd rfl (Or.inl rfl) (aC (aa 1 (pv 1)) ao))
 (ak (aL (aA (hu9 hr) (aa 2 (pv 2)) ar)
 (ak (aE (cP (aw (aa 0 (pv 0))) (ae (nv G.cl_Call G.mk_Call C_Call_init (hr.mono (by first | decide | omega)) rfl G.mg_Call G.b_Call_init (ae (aC (aa 1 (pv 1)) ao) ai)) ai))))
 (ak (aL (aA (hu9 hr) (aa 2 (pv 2)) ar)
 (ak (aE (aS (R:=fun C sp=>C=a.c_Board∧sp=gS a) (aa 0 (pv 0)) (fun C sp ⟨e1,e2⟩=>by subst e1 e2; exact ⟨G.cl_Board,_,_,_,G.mt_Board_add_leg,C_Board_add_leg,G.b_Board_add_leg⟩) (hr.mono (by first | decide | omega)) (ae (dh (aa 1 (pv 1)) (dQ ao) dN) ai))))
 (ak (aL (aA (hu9 hr) (aa 2 (pv 2)) ar)
 (ak (qN (hu9 hr) (aw (aa 0 (pv 0))) (aC (aa 1 (pv 1)) ao) (aC (aa 1 (pv 1)) ao)))
 (ak (aL (aA (hu9 hr) (aa 2 (pv 2)) ar)
 (ak dJ)
 (ak (aL (aA (hu9 hr) (aa 2 (pv 2)) ar)
 (ak (aE (jp (R:=fun C sp=>C=a.c_Board∧sp=fW a) (aa 0 (pv 0)) (fun C sp ⟨e1,e2⟩=>by subst e1 e2; exact ⟨G.cl_Board,_,_,_,G.mt_Board_pass_turn,C_Board_pass_turn,G.b_Board_pass_turn⟩) (hr.mono (by first | decide | omega)))))
 (ak (aL (aA (hu9 hr) (aa 2 (pv 2)) (aK (ae ar (ae ar ai))))
 (ak (tP (bN (hu9 hr) (aa 2 (pv 2)) ar) (xR (aw (aa 0 (pv 0))) (aC (aa 1 (pv 1)) ao))))
 (ak (aL (aA (hu9 hr) (aa 2 (pv 2)) ar)
 (ak (aE (ay C_change_call (hr.mono (by first | decide | omega)) rfl G.mg_change_call G.kp_change_call G.b_change_call (ae (aC (aw (aa 0 (pv 0))) (aC (aa 1 (pv 1)) ao)) (ae (aa 1 (pv 1)) ai)))))
 aD)))))))))))))))),?_⟩)
 ·obtain ⟨b,A,V,e,V',rfl,_⟩:=h
  rfl
 ·rintro ds M Q ⟨_,A,V,e,V',rfl,rfl,bd,lim,ev,q⟩
  have hz:sizeLine=16777216:=sizeLine_eq
  have ll:=lim.lo
  have lc:=lim.ca
  have lp:=lim.ps
  refine ap bd.at_ (af rfl ⟨by show (lstM M A.lo).isSome=true; rw [bd.lo]; rfl,af bd.lo ⟨by omega,?_⟩⟩)
  obtain ⟨b1,s1⟩:=bd.putLog (es:=V.log ++ [e])
  generalize au M A.lo (.lst (V.log ++ [e]))=M1 at b1 s1 ⊢
  have b1:az a M1 A (dS V e):=b1
  have lcs:∀ (i:Nat) c,(dS V e).calls[i]?=some c→c.way.length < 100000∧c.at_.length≤100∧c.ms.length≤100:=fun i c h=>lim.cs c (cZ (l:=V.calls) h)
  have kat:∀ (i:Nat) c,(dS V e).calls[i]?=some c→∃ k,A.cs[i]?=some k:=fun i c h=>by
   have hi:i < A.cs.length:=by rw [b1.len]; exact (List.getElem?_eq_some_iff.mp h).1
   exact ⟨_,List.getElem?_eq_getElem hi⟩
  cases ev with
  | new n x =>
   refine ap b1.at_ (af rfl ⟨by show (lstM M1 A.ca).isSome=true; rw [b1.ca]; rfl,fun p hp=>⟨p,x,rfl,aZ,fun M2 wy ad md kp z1 z2 z3 n1 n2 h1 h2 h3 h4=>⟨rfl,?_⟩⟩⟩)
   have sp:=L3.Sub.new (c:=.ins a.c_Call []) hp
   have s2:L3.Sub M1 M2:=fun y d hy=>kp y d (neM hy hp) (sp y d hy)
   refine af (s2.lst b1.ca) ⟨by rw [List.length_map,b1.len]; show V.calls.length < sizeLine; omega,?_⟩
   obtain ⟨b3,s3⟩:=b1.addCall s2 (c:=ls x) hp (sp.none z1) (sp.none z2) (sp.none z3) h1 h2 h3 h4 n1 n2
   exact ⟨_,.refl,q _ (A.add ⟨p,wy⟩) rfl (s1.trans s3) b3⟩
  | leg i c f g y h =>
   obtain ⟨k,ek⟩:=kat i c h
   exact ap b1.at_ ⟨rfl,_,⟨rfl,rfl⟩,A,dS V _,i,k,c,f,g,y,rfl,⟨b1,ek,h⟩,lim.le,(lcs i c h).1,fun M2 s2 b2=>⟨M2,.refl,q M2 A rfl (s1.trans s2) b2⟩⟩
  | next z n =>
   refine ap b1.at_ (af rfl (af b1.nx ⟨by show (bC V.ps).length < sizeLine; unfold bC; rw [List.length_map]; omega,?_⟩))
   rw [kH]
   obtain ⟨b2,s2⟩:=b1.putNx (ps:=jJ V.ps z n)
   exact ⟨_,.refl,q _ A rfl (s1.trans s2) b2⟩
  | turn=>exact ap b1.at_ ⟨rfl,_,⟨rfl,rfl⟩,A,dS V _,rfl,b1,fun M2 s2 b2=>⟨M2,.refl,q M2 A rfl (s1.trans s2) b2⟩⟩
  | asks x y z=>exact ⟨few rfl,rfl,rfl,M1,.refl,q M1 A rfl s1 b1⟩
  | chg i c e c' h hc =>
   obtain ⟨k,ek⟩:=kat i c h
   obtain ⟨_,l2,l3⟩:=lcs i c h
   cases hc with
   | rings ps hl=>exact ⟨few rfl,rfl,rfl,ap b1.at_ (af rfl (af b1.ca (af (fO ek) ⟨A,dS V _,i,k,c,_,_,rfl,⟨b1,ek,h⟩,l2,l3,.rings ps hl,fun M2 s2 b2=>⟨M2,.refl,q M2 A rfl (s1.trans s2) b2⟩⟩)))⟩
   | talks ms hl=>exact ⟨few rfl,rfl,rfl,ap b1.at_ (af rfl (af b1.ca (af (fO ek) ⟨A,dS V _,i,k,c,_,_,rfl,⟨b1,ek,h⟩,l2,l3,.talks ms hl,fun M2 s2 b2=>⟨M2,.refl,q M2 A rfl (s1.trans s2) b2⟩⟩)))⟩
   | leaves x=>exact ⟨few rfl,rfl,rfl,ap b1.at_ (af rfl (af b1.ca (af (fO ek) ⟨A,dS V _,i,k,c,_,_,rfl,⟨b1,ek,h⟩,l2,l3,.leaves x,fun M2 s2 b2=>⟨M2,.refl,q M2 A rfl (s1.trans s2) b2⟩⟩)))⟩
   | over w0=>exact ⟨few rfl,rfl,rfl,ap b1.at_ (af rfl (af b1.ca (af (fO ek) ⟨A,dS V _,i,k,c,_,_,rfl,⟨b1,ek,h⟩,l2,l3,.over w0,fun M2 s2 b2=>⟨M2,.refl,q M2 A rfl (s1.trans s2) b2⟩⟩)))⟩
end
end Z
namespace Z
open PySem PySem.Spec PyProof.Rows L2 L3
def Any (M:Mp) (Q:DK):Prop:=Q .non M∧∀ w:Str,Q (.str w) M
def pA (V:BdV):Prop:=∀ c∈V.calls,c.st ≠ "waits"
def oo (wd:Str) (c:aH) (x:Str):Bool:=if (wd == "answer")=true then hasS c.at_ x else c.leaveB x
theorem kD (bs:List Bool):(iQ bs=.non)∨∃ j:Nat,iQ bs=.int j:=by
 unfold iQ
 cases iP (.bl true) (bs.map D.bl) with
 | none=>exact .inl rfl
 | some j=>exact .inr ⟨j,rfl⟩
def rF (a:Ad):Sp3:=fun ds M Q=>∃ A V x,ds=[.ref A.b,.str x]∧az a M A V∧g7 V∧V.calls.length≤1000∧Any M Q
def uS (a:Ad):Sp3:=fun ds M Q=>∃ A V l x z v,ds=[.ref A.b,.str x,.str z]∧Rd a M A V l∧l.phones.length≤100∧l.groups.length≤100∧l.phone x=some v∧Any M Q
def uD (a:Ad):Sp3:=fun ds M Q=>∃ wd x r L k c,ds=[.str wd,.str x,.ref r]∧lstM M r=some [.ref k.p]∧dA a M L k c∧c.st ≠ "held"∧(wd="answer"∨wd="hang")∧Q (.bl (oo wd c x)) M
def qX (a:Ad):Sp3:=fun ds M Q=>∃ A V l wd x i,ds=[.ref A.b,.str wd,.str x,.tup [.int i]]∧Rd a M A V l∧pA V∧(wd="answer"∨wd="hang")∧(∀ w:Str,Q (.str w) M)∧∀ c,0≤i→V.calls[i.toNat]?=some c→oo wd c x=true→Q .non M
def pN (a:Ad):Sp3:=fun ds M Q=>∃ A V l e,ds=[.ref A.b,e]∧Rd a M A V l∧pA V∧l.phones.length≤100∧l.groups.length≤100∧((e=.tup [.str "turn"]∧Q .non M)∨(∃ x z v,e=.tup [.str "call",.str x,.str z]∧l.phone x=some v∧Any M Q) ∨
 ∃ wd x i,e=.tup [.str wd,.str x,.int i]∧(wd="answer"∨wd="hang")∧(∀ w:Str,Q (.str w) M)∧∀ c,0≤i→V.calls[i.toNat]?=some c→oo wd c x=true→Q .non M)
section
variable {P:Program} {w:World} {K:PySem.W.Frag} {mg:Str→Option Value} {base:Heap} {a:Ad}
theorem mf (G:Gl K mg a):Fn3 P w K mg base 4 a.f_word_for_idling a.fd_word_for_idling ["board","phone"] (rF a):=by
 have C_Board_bound:=uX (P:=P) (w:=w) (base:=base) G
 have C_Board_calling:=py (P:=P) (w:=w) (base:=base) G
 refine aR G.fn_word_for_idling iS (fun ds M Q h=>?_) (fun cdv A outer s H E hr=>⟨_,(aj (aL (aA (hu9 hr) (aS (R:=fun C sp=>C=a.c_Board∧sp=iH a) (aa 0 (pv 0)) (fun C sp ⟨e1,e2⟩=>by subst e1 e2; exact ⟨G.cl_Board,_,_,_,G.mt_Board_bound,C_Board_bound,G.b_Board_bound⟩) (hr.mono (by first | decide | omega)) (ae (aa 1 (pv 1)) ai)) eB)
 (ak (aB ar))
 aD)
 (aj (aL (aA (hu9 hr) (aS (R:=fun C sp=>C=a.c_Board∧sp=gQ a) (aa 0 (pv 0)) (fun C sp ⟨e1,e2⟩=>by subst e1 e2; exact ⟨G.cl_Board,_,_,_,G.mt_Board_calling,C_Board_calling,G.b_Board_calling⟩) (hr.mono (by first | decide | omega)) (ae (aa 1 (pv 1)) ai)) eB)
 (ak (aB ar))
 aD)
 (ak (aB eB)))),?_⟩)
 ·obtain ⟨A,V,x,rfl,_⟩:=h
  rfl
 ·rintro ds M Q ⟨A,V,x,rfl,bd,nh,hk,q0,q1⟩
  refine ap bd.at_ ⟨rfl,_,⟨rfl,rfl⟩,A,V,x,rfl,bd,nh,hk,?_⟩
  rcases kD (V.calls.map (·.bindsB x)) with e | ⟨j,e⟩
  ·rw [e]
   refine ap bd.at_ ⟨rfl,_,⟨rfl,rfl⟩,A,V,x,rfl,bd,nh,hk,?_⟩
   rcases kD (V.calls.map (·.triedB x)) with e | ⟨j,e⟩
   ·rw [e]
    exact ⟨M,.refl,q0⟩
   ·rw [e]
    exact ⟨M,.refl,q1 _⟩
  ·rw [e]
   exact ⟨M,.refl,q1 _⟩
theorem tj (G:Gl K mg a):Fn3 P w K mg base 5 a.f_word_for_call a.fd_word_for_call ["board","phone","target"] (uS a):=by
 have C_word_for_idling:=mf (P:=P) (w:=w) (base:=base) G
 have C_Board_is_free:=iY (P:=P) (w:=w) (base:=base) G
 have C_Plan_names:=lY (P:=P) (w:=w) (base:=base) G
 refine aR G.fn_word_for_call gx (fun ds M Q h=>?_) (fun cdv A outer s H E hr=>⟨_,(aj (aL (aA (hu9 hr) (aa 2 (pv 2)) (jp (R:=fun C sp=>C=a.c_Plan∧sp=jj a) (aw (aa 0 (pv 0))) (fun C sp ⟨e1,e2⟩=>by subst e1 e2; exact ⟨G.cl_Plan,_,_,_,G.mt_Plan_names,C_Plan_names,G.b_Plan_names⟩) (hr.mono (by first | decide | omega))))
 (ak (aB ar))
 aD)
 (aj (aG (i:=3) gx.nd rfl (Or.inl rfl) (ay C_word_for_idling (hr.mono (by first | decide | omega)) rfl G.mg_word_for_idling G.kp_word_for_idling G.b_word_for_idling (ae (aa 0 (pv 0)) (ae (aa 1 (pv 1)) ai))))
 (aj (aL (W3.b3 (gN (aA (hu9 hr) (aa 3 (pv 3)) eB) (gM (lC (gR (aS (R:=fun C sp=>C=a.c_Board∧sp=eh a) (aa 0 (pv 0)) (fun C sp ⟨e1,e2⟩=>by subst e1 e2; exact ⟨G.cl_Board,_,_,_,G.mt_Board_is_free,C_Board_is_free,G.b_Board_is_free⟩) (hr.mono (by first | decide | omega)) (ae (aa 1 (pv 1)) ai)))))))
 (ak (aB ar))
 aD)
 (ak (aB (aa 3 (pv 3))))))),?_⟩)
 ·obtain ⟨A,V,l,x,z,v,rfl,_⟩:=h
  rfl
 ·rintro ds M Q ⟨A,V,l,x,z,v,rfl,rd,hp,hg,hv,q0,q1⟩
  obtain ⟨ph,gr,ws,pon,pr,gd,i1,_⟩:=rd.pl
  refine ap rd.bd.at_ (af rfl (ap i1 ⟨rfl,_,⟨rfl,rfl⟩,V.p,l,rfl,rd.pl,hp,hg,fun p hp=>af av ⟨rfl,cM _,?_⟩⟩))
  have t:=L3.Sub.new (c:=.lst (l.nm.map D.str)) hp
  have rd':=rd.sub t
  generalize au M p (.lst (l.nm.map D.str))=M1 at t rd' ⊢
  refine dc (fun _=>⟨M,t,q1 _⟩) (fun _=>?_)
  have fin:∀ M2,L3.Sub M1 M2→∀ d,(d=.non∨∃ w,d=.str w)→∃ M'',L3.Sub M'' M2∧Q d M'':=fun M2 s2 d hd=>⟨M,t.trans s2,by
   rcases hd with rfl | ⟨w,rfl⟩
   ·exact q0
   ·exact q1 w⟩
  refine ⟨A,V,x,rfl,rd'.bd,rd'.nh,rd'.k,?_,fun w0=>?_⟩
  ·refine ap rd'.bd.at_ ⟨rfl,_,⟨rfl,rfl⟩,A,V,x,v,l,rfl,rd'.bd,rd'.nh,rd'.k,rd'.pl,hv,?_⟩
   exact dc (fun _=>fin _ .refl _ (.inr ⟨_,rfl⟩)) (fun _=>fin _ .refl _ (.inl rfl))
  ·exact fin _ .refl _ (.inr ⟨_,rfl⟩)
theorem sF (G:Gl K mg a):Fn3 P w K mg base 3 a.f_suits a.fd_suits ["word","phone","calls"] (uD a):=by
 have C_Call_can_be_left_by:=sD (P:=P) (w:=w) (base:=base) G
 refine aR G.fn_suits ur (fun ds M Q h=>?_) (fun cdv A outer s H E hr=>⟨_,(aj (aL (aA (hu9 hr) (aa 0 (pv 0)) ar)
 (ak (aB (bN (hu9 hr) (aa 1 (pv 1)) (aw (aC (aa 2 (pv 2)) ao)))))
 aD)
 (aj (aL (aA (hu9 hr) (aa 0 (pv 0)) ar)
 (ak (aB (aS (R:=fun C sp=>C=a.c_Call∧sp=eY a) (aC (aa 2 (pv 2)) ao) (fun C sp ⟨e1,e2⟩=>by subst e1 e2; exact ⟨G.cl_Call,_,_,_,G.mt_Call_can_be_left_by,C_Call_can_be_left_by,G.b_Call_can_be_left_by⟩) (hr.mono (by first | decide | omega)) (ae (aa 1 (pv 1)) ai))))
 aD)
 (aj (aL (aA (hu9 hr) (aa 0 (pv 0)) ar)
 (ak dJ)
 aD)
 (aj (aL (aA (hu9 hr) (aa 0 (pv 0)) ar)
 (ak (aB (bN (hu9 hr) (aw (aC (aa 2 (pv 2)) ao)) (aa 1 (pv 1)))))
 aD)
 (ak dJ))))),?_⟩)
 ·obtain ⟨wd,x,r,L,k,c,rfl,_⟩:=h
  rfl
 ·rintro ds M Q ⟨wd,x,r,L,k,c,rfl,lr,hc,nh,hw,q⟩
  obtain ⟨ad,md,h1,h2,h3,h4,_⟩:=id hc
  rcases hw with rfl | rfl
  ·exact af lr (af rfl (ap h1 (af rfl (jQ h3 ⟨M,.refl,q⟩))))
  ·exact af lr (af rfl (ap h1 ⟨rfl,_,⟨rfl,rfl⟩,L,k,c,x,rfl,hc,nh,M,.refl,q⟩))
theorem wb (G:Gl K mg a):Fn3 P w K mg base 5 a.f_word_for_numbers a.fd_word_for_numbers ["board","word","phone","numbers"] (qX a):=by
 have C_word_for_idling:=mf (P:=P) (w:=w) (base:=base) G
 have C_Board_is_free:=iY (P:=P) (w:=w) (base:=base) G
 have C_suits:=sF (P:=P) (w:=w) (base:=base) G
 have C_Call_waits_with:=u8 (P:=P) (w:=w) (base:=base) G
 refine aR G.fn_word_for_numbers dW (fun ds M Q h=>?_) (fun cdv A outer s H E hr=>⟨_,(aj (aL (lC (gR (aP (pq rfl) rfl G.no_all pE (ae (bV rfl (c9 (ix:=[none,some 0]) (N':=["number","board"]) (by kernel_rfl)) (bM (aa 3 (pv 3))) (fun C s0 H0 ex=>(aF (i:=0) (show List.Nodup (["number","board"]:List Str) by decide +kernel) rfl (Or.inl rfl))) (fun C s0 H0 ex=>dI) (fun C s0 H0 ex=>(gv (hu9 hr) ao (aa 0 (pv 0)) (aP bW rfl G.no_len bL (ae (aw (aa 1 (pv 1))) ai))))) ai))))
 (ak (aB ar))
 aD)
 (aj (fN (i:=4) dW.nd rfl (Or.inl rfl) rfl (c9 (ix:=[none,some 0]) (N':=["number","board"]) (by kernel_rfl)) (bM (aa 3 (pv 3))) (fun C s0 H0 ex=>(aF (i:=0) (show List.Nodup (["number","board"]:List Str) by decide +kernel) rfl (Or.inl rfl))) (fun C s0 H0 ex=>dI) (fun C s0 H0 ex=>(aC (aw (aa 1 (pv 1))) (aa 0 (pv 0)))))
 (aj (aL (lC (gR (ay C_suits (hr.mono (by first | decide | omega)) rfl G.mg_suits G.kp_suits G.b_suits (ae (aa 1 (pv 1)) (ae (aa 2 (pv 2)) (ae (aa 4 (pv 4)) ai))))))
 (ak (aB ar))
 aD)
 (aj (aL (aA (hu9 hr) (aa 1 (pv 1)) (aK (ae ar (ae ar ai))))
 (ak (aB eB))
 aD)
 (aj (aG (i:=5) dW.nd rfl (Or.inl rfl) (ay C_word_for_idling (hr.mono (by first | decide | omega)) rfl G.mg_word_for_idling G.kp_word_for_idling G.b_word_for_idling (ae (aa 0 (pv 0)) (ae (aa 2 (pv 2)) ai))))
 (aj (aL (W3.b3 (gN (aA (hu9 hr) (aa 5 (pv 5)) eB) (gN (gR (aS (R:=fun C sp=>C=a.c_Call∧sp=fZ a) (aC (aa 4 (pv 4)) ao) (fun C sp ⟨e1,e2⟩=>by subst e1 e2; exact ⟨G.cl_Call,_,_,_,G.mt_Call_waits_with,C_Call_waits_with,G.b_Call_waits_with⟩) (hr.mono (by first | decide | omega)) (ae (aa 2 (pv 2)) ai))) (gM (lC (gR (aS (R:=fun C sp=>C=a.c_Board∧sp=eh a) (aa 0 (pv 0)) (fun C sp ⟨e1,e2⟩=>by subst e1 e2; exact ⟨G.cl_Board,_,_,_,G.mt_Board_is_free,C_Board_is_free,G.b_Board_is_free⟩) (hr.mono (by first | decide | omega)) (ae (aa 2 (pv 2)) ai))))))))
 (ak (aB ar))
 aD)
 (ak (aB (aa 5 (pv 5)))))))))),?_⟩)
 ·obtain ⟨A,V,l,wd,x,i,rfl,_⟩:=h
  rfl
 ·rintro ds M Q ⟨A,V,l,wd,x,i,rfl,rd,nw,hw,q1,q0⟩
  have hz:sizeLine=16777216:=sizeLine_eq
  have lca:((A.cs.map fun k=>D.ref k.p).length:Int)=V.calls.length:=by rw [List.length_map,rd.bd.len]
  refine cH (f:=fun _=>D.bl (decide (0≤i) && decide (i < V.calls.length))) trivial _ [] _ (by show 1≤sizeLine; omega) (fun d hd k hk=>?_) fun p hp=>?_
  ·rw [List.mem_singleton] at hd
   subst hd
   refine dc (c:=decide (0≤i)) (fun g=>?_) (fun g=>?_)
   ·rw [g,Bool.true_and] at hk
    refine ap rd.bd.at_ (af rfl (af rd.bd.ca ?_))
    rw [lca]
    exact hk
   ·rw [show decide (0≤i)=false from Bool.eq_false_iff.mpr g,Bool.false_and] at hk
    exact hk
  rw [show [] ++ List.map (fun _=>D.bl (decide (0≤i) && decide (i < V.calls.length))) [D.int i]=[D.bl (decide (0≤i) && decide (i < V.calls.length))] from rfl]
  have t:=L3.Sub.new (c:=.lst [D.bl (decide (0≤i) && decide (i < V.calls.length))]) hp
  refine af av (af (rfl:oF [D.bl (decide (0≤i) && decide (i < V.calls.length))]=some [decide (0≤i) && decide (i < V.calls.length)]) ?_)
  have rd':=rd.sub t
  show if (!(([decide (0≤i) && decide (i < V.calls.length)]:List Bool).all id))=true then _ else _
  generalize au M p (.lst [D.bl (decide (0≤i) && decide (i < V.calls.length))])=M1 at t rd' ⊢
  by_cases hi:0≤i∧i < V.calls.length
  rotate_left
  ·have e:(decide (0≤i) && decide (i < V.calls.length))=false:=by
    rw [Bool.eq_false_iff]
    intro z
    obtain ⟨z1,z2⟩:=(Bool.and_eq_true _ _).mp z
    exact hi ⟨of_decide_eq_true z1,of_decide_eq_true z2⟩
   rw [e]
   exact ⟨M,t,q1 _⟩
  rw [decide_eq_true hi.1,decide_eq_true hi.2]
  refine uL ?_
  obtain ⟨n,rfl⟩:=Int.eq_ofNat_of_zero_le hi.1
  have hn:n < V.calls.length:=by omega
  have e2:V.calls[n]?=some V.calls[n]:=List.getElem?_eq_getElem hn
  generalize V.calls[n]=c at e2
  have hnk:n < A.cs.length:=by rw [rd.bd.len]; exact hn
  have e1:A.cs[n]?=some A.cs[n]:=List.getElem?_eq_getElem hnk
  generalize A.cs[n]=k at e1
  refine cH (f:=fun _=>D.ref k.p) trivial _ [] _ (by show 1≤sizeLine; omega) (fun d hd k0 hk=>?_) fun p2 hp2=>?_
  ·rw [List.mem_singleton] at hd
   subst hd
   exact ap rd'.bd.at_ (af rfl (af rfl (af rd'.bd.ca (af (fO e1) hk))))
  rw [show [] ++ List.map (fun _=>D.ref k.p) [D.int ((n:Nat):Int)]=[D.ref k.p] from rfl]
  have t2:=L3.Sub.new (c:=.lst [D.ref k.p]) hp2
  have l2:lstM (au M1 p2 (.lst [D.ref k.p])) p2=some [D.ref k.p]:=av
  have rd2:=rd'.sub t2
  have s2:=t.trans t2
  generalize au M1 p2 (.lst [D.ref k.p])=M2 at l2 rd2 s2 ⊢
  have hc:=rd2.bd.cs n k c e1 e2
  refine ⟨wd,x,p2,_,k,c,rfl,l2,hc,rd2.nh c (cZ e2),hw,?_⟩
  refine dc (c:=!oo wd c x) (fun _=>⟨M,s2,q1 _⟩) (fun g=>?_)
  have qn:Q .non M:=q0 c hi.1 e2 (by simpa using g)
  have fin:∀ d,(d=.non∨∃ w,d=.str w)→∃ M'',L3.Sub M'' M2∧Q d M'':=fun d hd=>⟨M,s2,by
   rcases hd with rfl | ⟨w,rfl⟩
   ·exact qn
   ·exact q1 w⟩
  rcases hw with rfl | rfl
  ·refine ⟨few rfl,rfl,rfl,?_⟩
   refine ⟨A,V,x,rfl,rd2.bd,rd2.nh,rd2.k,?_,fun w0=>?_⟩
   ·have hwt:c.waitsB x=false:=by
     unfold aH.waitsB
     rw [show (c.st == "waits")=false by simpa using nw c (cZ e2)]
     rfl
    obtain ⟨ad,md,h1,_⟩:=id hc
    refine af l2 (af rfl (ap h1 ⟨rfl,_,⟨rfl,rfl⟩,_,k,c,x,rfl,hc,rd2.nh c (cZ e2),?_⟩))
    rw [hwt]
    exact fin _ (.inl rfl)
   ·exact fin _ (.inr ⟨_,rfl⟩)
  ·refine ⟨few rfl,rfl,rfl,?_⟩
   exact fin _ (.inl rfl)
theorem pT (G:Gl K mg a):Fn3 P w K mg base 6 a.f_refusal a.fd_refusal ["board","deed"] (pN a):=by
 have C_word_for_call:=tj (P:=P) (w:=w) (base:=base) G
 have C_word_for_numbers:=wb (P:=P) (w:=w) (base:=base) G
 have C_Plan_phone_names:=fG (P:=P) (w:=w) (base:=base) G
 refine aR G.fn_refusal kW (fun ds M Q h=>?_) (fun cdv A outer s H E hr=>⟨_,(aj (aG (i:=2) kW.nd rfl (Or.inl rfl) (aC (aa 1 (pv 1)) ao))
 (aj (aL (aA (hu9 hr) (aa 2 (pv 2)) ar)
 (ak (aB eB))
 aD)
 (aj (aL (aA (hu9 hr) (aa 2 (pv 2)) (aK (ae ar (ae ar ai))))
 (ak dJ)
 aD)
 (aj (aL (aA (hu9 hr) (aC (aa 1 (pv 1)) ao) (jp (R:=fun C sp=>C=a.c_Plan∧sp=eF a) (aw (aa 0 (pv 0))) (fun C sp ⟨e1,e2⟩=>by subst e1 e2; exact ⟨G.cl_Plan,_,_,_,G.mt_Plan_phone_names,C_Plan_phone_names,G.b_Plan_phone_names⟩) (hr.mono (by first | decide | omega))))
 (ak (aB ar))
 aD)
 (aj (aL (aA (hu9 hr) (aa 2 (pv 2)) ar)
 (ak (aB (ay C_word_for_call (hr.mono (by first | decide | omega)) rfl G.mg_word_for_call G.kp_word_for_call G.b_word_for_call (ae (aa 0 (pv 0)) (ae (aC (aa 1 (pv 1)) ao) (ae (aC (aa 1 (pv 1)) ao) ai))))))
 aD)
 (ak (aB (ay C_word_for_numbers (hr.mono (by first | decide | omega)) rfl G.mg_word_for_numbers G.kp_word_for_numbers G.b_word_for_numbers (ae (aa 0 (pv 0)) (ae (aa 2 (pv 2)) (ae (aC (aa 1 (pv 1)) ao) (ae (dh (aa 1 (pv 1)) (dQ ao) dN) ai)))))))))))),?_⟩)
 ·obtain ⟨A,V,l,e,rfl,_⟩:=h
  rfl
 ·rintro ds M Q ⟨A,V,l,e,rfl,rd,nw,hp,hg,hd⟩
  obtain ⟨ph,gr,ws,pon,pr,gd,i1,_⟩:=rd.pl
  rcases hd with ⟨rfl,q⟩ | ⟨x,z,v,rfl,hv,q0,q1⟩ | ⟨wd,x,i,rfl,hw,q1,q0⟩
  ·exact ⟨M,.refl,q⟩
  ·refine ⟨few rfl,rfl,rfl,?_⟩
   refine ap rd.bd.at_ (af rfl (ap i1 ⟨rfl,_,⟨rfl,rfl⟩,V.p,l,rfl,rd.pl,hp,fun p hp2=>af av ⟨rfl,cM _,?_⟩⟩))
   have t:=L3.Sub.new (c:=.lst (l.pn.map D.str)) hp2
   have rd':=rd.sub t
   generalize au M p (.lst (l.pn.map D.str))=M1 at t rd' ⊢
   refine dc (fun _=>⟨M,t,q1 _⟩) (fun _=>?_)
   exact ⟨A,V,l,x,z,v,rfl,rd',hp,hg,hv,⟨M,t,q0⟩,fun w0=>⟨M,t,q1 w0⟩⟩
  ·have go:∀ Q':DK,(∀ M1,L3.Sub M M1→(∀ w:Str,Q' (.str w) M1)∧∀ c,0≤i→V.calls[i.toNat]?=some c→oo wd c x=true→Q' .non M1)→∀ M1,L3.Sub M M1→qX a [.ref A.b,.str wd,.str x,.tup [.int i]] M1 Q':=fun Q' hq M1 s1=>⟨A,V,l,wd,x,i,rfl,rd.sub s1,nw,hw,(hq M1 s1).1,(hq M1 s1).2⟩
   rcases id hw with rfl | rfl
   ·refine ⟨few rfl,rfl,rfl,?_⟩
    refine ap rd.bd.at_ (af rfl (ap i1 ⟨rfl,_,⟨rfl,rfl⟩,V.p,l,rfl,rd.pl,hp,fun p hp2=>af av ⟨rfl,cM _,?_⟩⟩))
    have t:=L3.Sub.new (c:=.lst (l.pn.map D.str)) hp2
    generalize au M p (.lst (l.pn.map D.str))=M1 at t ⊢
    refine dc (fun _=>⟨M,t,q1 _⟩) (fun _=>?_)
    exact go _ (fun M1 s1=>⟨fun w0=>⟨M,s1,q1 w0⟩,fun c c1 c2 c3=>⟨M,s1,q0 c c1 c2 c3⟩⟩) M1 t
   ·refine ⟨few rfl,rfl,rfl,?_⟩
    refine ap rd.bd.at_ (af rfl (ap i1 ⟨rfl,_,⟨rfl,rfl⟩,V.p,l,rfl,rd.pl,hp,fun p hp2=>af av ⟨rfl,cM _,?_⟩⟩))
    have t:=L3.Sub.new (c:=.lst (l.pn.map D.str)) hp2
    generalize au M p (.lst (l.pn.map D.str))=M1 at t ⊢
    refine dc (fun _=>⟨M,t,q1 _⟩) (fun _=>?_)
    exact go _ (fun M1 s1=>⟨fun w0=>⟨M,s1,q1 w0⟩,fun c c1 c2 c3=>⟨M,s1,q0 c c1 c2 c3⟩⟩) M1 t
end
end Z
namespace Z
open PySem PySem.Spec PyProof.Rows L2 L3
structure Wd (a:Ad) (M0 M:Mp) (A:BdA) (V:BdV) (l:aM):Prop where
 bd:az a M A V
 pl:dR a M0 V.p l
 s0:L3.Sub M0 M
 fr:∀ x∈A.foot,M0 x=none
theorem Wd.step {a:Ad} {M0 M M':Mp} {A A':BdA} {V V':BdV} {l:aM} (h:Wd a M0 M A V l) (s:cz A M A' M') (b:az a M' A' V') (e:V'.p=V.p):Wd a M0 M' A' V' l:=by
 refine ⟨b,e ▸ h.pl,fun x c hx=>s.1 x c (fun z=>?_) (h.s0 x c hx),fun x hx=>?_⟩
 ·rw [h.fr x z] at hx
  cases hx
 ·rcases s.2.1 x hx with z | z
  ·exact h.fr x z
  ·exact h.s0.none z
theorem Wd.sub {a:Ad} {M0 M M':Mp} {A:BdA} {V:BdV} {l:aM} (h:Wd a M0 M A V l) (s:L3.Sub M M'):Wd a M0 M' A V l:=⟨h.bd.sub s,h.pl,h.s0.trans s,h.fr⟩
def xZ (c:aH):Prop:=c.st="rings"∨c.st="talks"∨(c.st="over"∧c.ms=[])
structure iu (V:BdV) (n:Nat):Prop where
 st:∀ c∈V.calls,xZ c
 lo:V.log.length≤n
 le:V.legs.length≤n
 ca:V.calls.length≤n
 ps:V.ps.length≤n
 cs:∀ c∈V.calls,c.way.length≤n∧c.at_.length≤100∧c.ms.length≤100
theorem iu.mono {V:BdV} {n m:Nat} (h:iu V n) (hm:n≤m):iu V m:=⟨h.st,Nat.le_trans h.lo hm,Nat.le_trans h.le hm,Nat.le_trans h.ca hm,Nat.le_trans h.ps hm,fun c hc=>⟨Nat.le_trans (h.cs c hc).1 hm,(h.cs c hc).2⟩⟩
theorem iu.lim {V:BdV} {n:Nat} (h:iu V n) (hn:n < 1000):Lim V:=⟨Nat.lt_of_le_of_lt h.lo (by omega),Nat.lt_of_le_of_lt h.le (by omega),Nat.lt_of_le_of_lt h.ca hn,Nat.lt_of_le_of_lt h.ps hn,fun c hc=>⟨Nat.lt_of_le_of_lt (h.cs c hc).1 (by omega),(h.cs c hc).2⟩⟩
theorem iu.nh {V:BdV} {n:Nat} (h:iu V n):g7 V:=fun c hc=>by
 rcases h.st c hc with e | e | ⟨e,_⟩ <;> rw [e] <;> decide
theorem iu.nw {V:BdV} {n:Nat} (h:iu V n):pA V:=fun c hc=>by
 rcases h.st c hc with e | e | ⟨e,_⟩ <;> rw [e] <;> decide
theorem nY (ps:List (Str × Int)) (z:Str) (n:Int):(jJ ps z n).length≤ps.length + 1:=by
 unfold jJ
 split
 ·rw [List.length_map]; omega
 ·rw [List.length_append]; exact Nat.le_refl _
theorem qK (ss:List Str) (x:Str):(e9 ss x).length≤ss.length:=List.length_filter_le _ _
theorem qI {α:Type} {l:List α} {i:Nat} {x y:α} (h:y∈l.set i x):y∈l∨y=x:=List.mem_or_eq_of_mem_set h
theorem iu.set {V:BdV} {n m i:Nat} {c:aH} (h:iu V n) (hm:n≤m) (h1:xZ c) (h2:c.way.length≤m∧c.at_.length≤100∧c.ms.length≤100):iu (iK V i c) m:=by
 have h:=h.mono hm
 refine ⟨fun d hd=>?_,h.lo,h.le,by show (V.calls.set i c).length≤m; rw [List.length_set]; exact h.ca,h.ps,fun d hd=>?_⟩
 ·rcases qI hd with z | z
  ·exact h.st d z
  ·rw [z]; exact h1
 ·rcases qI hd with z | z
  ·exact h.cs d z
  ·rw [z]; exact h2
theorem v8 {V V':BdV} {n:Nat} {e:D} (h:iu V n) (ev:Ev (dS V e) e V'):iu V' (n + 1)∧V'.p=V.p:=by
 have hl:iu (dS V e) (n + 1):=⟨h.st,by show (V.log ++ [e]).length≤n + 1; rw [List.length_append]; exact Nat.succ_le_succ h.lo,Nat.le_succ_of_le h.le,Nat.le_succ_of_le h.ca,Nat.le_succ_of_le h.ps,fun c hc=>⟨Nat.le_succ_of_le (h.cs c hc).1,(h.cs c hc).2⟩⟩
 cases ev with
 | new m x =>
  refine ⟨⟨fun c hc=>?_,hl.lo,hl.le,by show (V.calls ++ [ls x]).length≤n + 1; rw [List.length_append]; exact Nat.succ_le_succ h.ca,hl.ps,fun c hc=>?_⟩,rfl⟩
  ·rcases List.mem_append.mp hc with z | z
   ·exact h.st c z
   ·rw [List.mem_singleton.mp z]; exact .inl rfl
  ·rcases List.mem_append.mp hc with z | z
   ·exact hl.cs c z
   ·rw [List.mem_singleton.mp z]; exact ⟨Nat.zero_le _,Nat.zero_le _,Nat.zero_le _⟩
 | leg i c f g y hc =>
  have hc:=cZ hc
  obtain ⟨w1,w2,w3⟩:=h.cs c hc
  have:=hl.set (i:=i) (c:=mY c g) (Nat.le_refl _) (h.st c hc) ⟨by show (c.way ++ [g]).length≤n + 1; rw [List.length_append]; exact Nat.succ_le_succ w1,w2,w3⟩
  exact ⟨⟨this.st,this.lo,by show (V.legs ++ [_]).length≤n + 1; rw [List.length_append]; exact Nat.succ_le_succ h.le,this.ca,this.ps,this.cs⟩,rfl⟩
 | next z k=>exact ⟨⟨hl.st,hl.lo,hl.le,hl.ca,Nat.le_trans (nY _ _ _) (Nat.succ_le_succ h.ps),hl.cs⟩,rfl⟩
 | turn =>
  refine ⟨⟨fun c hc=>?_,hl.lo,hl.le,by show (V.calls.map aH.tick).length≤n + 1; rw [List.length_map]; exact hl.ca,hl.ps,fun c hc=>?_⟩,rfl⟩
  ·obtain ⟨d,hd,rfl⟩:=List.mem_map.mp hc
   have:=h.st d hd
   unfold aH.tick
   split <;> exact this
  ·obtain ⟨d,hd,rfl⟩:=List.mem_map.mp hc
   have:=hl.cs d hd
   unfold aH.tick
   split <;> exact this
 | asks x y z=>exact ⟨hl,rfl⟩
 | chg i c e c' hc hh =>
  have hc:=cZ hc
  have w:=hl.cs c hc
  have s:=h.st c hc
  cases hh with
  | rings ps hp=>exact ⟨hl.set (Nat.le_refl _) (.inl rfl) ⟨w.1,hp,w.2.2⟩,rfl⟩
  | talks ms hp=>exact ⟨hl.set (Nat.le_refl _) (.inr (.inl rfl)) ⟨w.1,Nat.zero_le _,hp⟩,rfl⟩
  | leaves x =>
   refine ⟨hl.set (Nat.le_refl _) ?_ ⟨w.1,Nat.le_trans (qK _ _) w.2.1,Nat.le_trans (qK _ _) w.2.2⟩,rfl⟩
   rcases s with s | s | ⟨s,s2⟩
   ·exact .inl s
   ·exact .inr (.inl s)
   ·refine .inr (.inr ⟨s,?_⟩)
    show e9 c.ms x=[]
    rw [s2]
    rfl
  | over w0=>exact ⟨hl.set (Nat.le_refl _) (.inr (.inr ⟨rfl,rfl⟩)) ⟨w.1,Nat.zero_le _,Nat.zero_le _⟩,rfl⟩
structure Cur (a:Ad) (M0 M:Mp) (b:Addr) (A:BdA) (V:BdV) (l:aM) (n:Nat):Prop where
 w:Wd a M0 M A V l
 b:A.b=b
 g:iu V n
section
variable {a:Ad} {M0 M M':Mp} {b:Addr} {A:BdA} {V:BdV} {l:aM} {n:Nat}
theorem Cur.at_ (c:Cur a M0 M b A V l n):M b=some (.ins a.c_Board (gF (.ref V.p) V.h V.t A.ca A.le A.nx A.on A.lo)):=c.b ▸ c.w.bd.at_
theorem Cur.sub (c:Cur a M0 M b A V l n) (s:L3.Sub M M'):Cur a M0 M' b A V l n:=⟨c.w.sub s,c.b,c.g⟩
theorem Cur.pl (c:Cur a M0 M b A V l n):dR a M V.p l:=c.w.pl.sub c.w.s0
theorem Cur.rd (c:Cur a M0 M b A V l n) (hn:n≤900):Rd a M A V l:=⟨c.w.bd,c.g.nh,Nat.le_trans c.g.ca (by omega),c.pl⟩
theorem Cur.call (c:Cur a M0 M b A V l n) {i:Nat} {v:aH} (h:V.calls[i]?=some v):∃ k,CI a M A V i k v:=by
 have hi:i < A.cs.length:=by rw [c.w.bd.len]; exact (List.getElem?_eq_some_iff.mp h).1
 exact ⟨A.cs[i],c.w.bd,List.getElem?_eq_getElem hi,h⟩
theorem Cur.after (c:Cur a M0 M b A V l n) {e:D} {V':BdV} {A':BdA} (ev:Ev (dS V e) e V') (eb:A'.b=A.b) (st:cz A M A' M') (bd:az a M' A' V'):Cur a M0 M' b A' V' l (n + 1):=by
 obtain ⟨g',p'⟩:=v8 c.g ev
 exact ⟨c.w.step st bd p',eb.trans c.b,g'⟩
end
end Z
namespace Z
open PySem PySem.Spec PyProof.Rows L2 L3
theorem qF (x:D) (l:List D):atI (x :: l) 0=some x:=by
 unfold atI
 have:ixN (x :: l).length 0=some 0:=by
  unfold ixN
  rw [List.length_cons]
  simp
 rw [this]
 rfl
def rW (y:Str) (w:List Str):aH:=⟨"rings",y,w,[],[],none,0,.non⟩
theorem Cur.mono {a:Ad} {M0 M:Mp} {b:Addr} {A:BdA} {V:BdV} {l:aM} {n m:Nat} (c:Cur a M0 M b A V l n) (h:n≤m):Cur a M0 M b A V l m:=⟨c.w,c.b,c.g.mono h⟩
def nxP (ms:List Str) (x:Str):Int:=(((iP (.str x) (ms.map D.str)).getD 0:Nat) + 1) % (ms.length:Int)
def fC (l:aM) (V:BdV) (z x:Str):List (Str × Int):=if (l.manner z == "turns")=true then jJ V.ps z (nxP (l.phonesOf z) x) else V.ps
def w9 (a:Ad):Sp3:=fun ds M Q=>∃ M0 b A V l n i z r,ds=[.ref b,.int (i:Nat),.ref r]∧Cur a M0 M b A V l n∧n≤900∧lstM M r=some [.tup [.str z,.tup []]]∧r ∉ A.foot∧∀ M' A' V',Cur a M0 M' b A' V' l (n + 1)→cz A M A' M'→V'.calls=V.calls→V'.ps=V.ps→Q .non M'
def uy (a:Ad):Sp3:=fun ds M Q=>∃ M0 b A V l n i c z ps x,ds=[.ref b,.int (i:Nat),.str z,.tup (ps.map D.str)]∧Cur a M0 M b A V l n∧n≤800∧V.calls[i]?=some c∧ps.head?=some x∧ps.length≤100∧x∈l.phonesOf z∧(l.phonesOf z).length≤100∧∀ M' A' V',Cur a M0 M' b A' V' l (n + 2)→cz A M A' M'→V'.ps=fC l V z x→V'.calls=V.calls.set i (c.ring ps)→Q .non M'
def wx (a:Ad):Sp3:=fun ds M Q=>∃ M0 b A V l n i c z ps x,ds=[.ref b,.int (i:Nat),.tup [.str "rings",.str z,.tup (ps.map D.str)]]∧Cur a M0 M b A V l n∧n≤800∧V.calls[i]?=some c∧ps.head?=some x∧ps.length≤100∧x∈l.phonesOf z∧(l.phonesOf z).length≤100∧∀ M' A' V',Cur a M0 M' b A' V' l (n + 2)→cz A M A' M'→V'.ps=fC l V z x→V'.calls=V.calls.set i (c.ring ps)→Q .non M'
def vg (a:Ad):Sp3:=fun ds M Q=>∃ M0 b A V l n i c z k x,ds=[.ref b,.int (i:Nat)]∧Cur a M0 M b A V l n∧n≤700∧V.calls[i]?=some c∧c.way=[z]∧Tgt l z∧gZ l V z k∧(cK l V c.cr z k).head?=some x∧∀ M' A' V',Cur a M0 M' b A' V' l (n + 3)→cz A M A' M'→V'.ps=fC l V z x→V'.calls=V.calls.set i (c.ring (cK l V c.cr z k))→Q .non M'
def ug (a:Ad):Sp3:=fun ds M Q=>∃ M0 b A V l n y z k x,ds=[.ref b,.str y,.str z]∧Cur a M0 M b A V l n∧n≤600∧Tgt l z∧gZ l V z k∧(cK l V y z k).head?=some x∧∀ M' A' V',Cur a M0 M' b A' V' l (n + 5)→cz A M A' M'→V'.ps=fC l V z x→(∃ c',V'.calls=V.calls ++ [c']∧c'.at_=cK l V y z k)→Q .non M'
theorem oJ {l:aM} {V:BdV} {c z:Str} {k:Nat}:(∀ x∈cK l V c z k,x∈l.phonesOf z)∧(cK l V c z k).length≤(l.phonesOf z).length:=by
 unfold cK
 split
 ·refine ⟨fun x hx=>?_,?_⟩
  ·have hx:=List.mem_of_mem_take hx
   have hx:=(List.mem_filter.mp hx).1
   unfold df at hx
   rcases List.mem_append.mp hx with z | z
   ·exact List.mem_of_mem_drop z
   ·exact List.mem_of_mem_take z
  ·cases e:(df (l.phonesOf z) k).filter fun x=>hasS (eO l V c z) x with
   | nil=>exact Nat.zero_le _
   | cons y r =>
    have hy:y∈df (l.phonesOf z) k:=(List.mem_filter.mp (by rw [e]; exact List.mem_cons_self)).1
    have hy:y∈l.phonesOf z:=by
     unfold df at hy
     rcases List.mem_append.mp hy with q | q
     ·exact List.mem_of_mem_drop q
     ·exact List.mem_of_mem_take q
    rw [List.length_take]
    have:=List.length_pos_of_mem hy
    omega
 ·exact ⟨fun x hx=>(List.mem_filter.mp hx).1,List.length_filter_le _ _⟩
theorem nO {x:Str} {ms:List Str} (h:x∈ms):∃ j,iP (.str x) (ms.map D.str)=some j:=by
 have:(iP (.str x) (ms.map D.str)).isSome=true:=by
  rw [pC,List.any_map,List.any_eq_true]
  exact ⟨x,h,by show (x == x)=true; exact beq_self_eq_true x⟩
 exact Option.isSome_iff_exists.mp this
theorem uJ {l:aM} {V V':BdV} {y z:Str} {w:List Str} (h:V'.calls=V.calls ++ [rW y w]):eO l V' y z=eO l V y z:=by
 unfold eO
 refine List.filter_congr fun x _=>?_
 cases e:x == y with
 | true=>rfl
 | false =>
  have:d3 l V' x=d3 l V x:=by
   unfold d3 oQ
   rw [h,List.filter_append,List.filter_cons_of_neg]
   ·rw [List.filter_nil,List.append_nil]
   ·show ¬ ((x == y) || false)=true
    rw [e]
    exact Bool.false_ne_true
  rw [this]
theorem uW {l:aM} {V V':BdV} {y z:Str} {k:Nat} {w:List Str} (h:V'.calls=V.calls ++ [rW y w]):cK l V' y z k=cK l V y z k:=by
 unfold cK
 rw [uJ h]
section
variable {P:Program} {w:World} {K:PySem.W.Frag} {mg:Str→Option Value} {base:Heap} {a:Ad}
theorem wu (G:Gl K mg a):Fn3 P w K mg base 4 a.f_take_steps a.fd_take_steps ["board","number","steps"] (w9 a):=by
 have C_Board_apply:=fB (P:=P) (w:=w) (base:=base) G
 refine aR G.fn_take_steps dX (fun ds M Q h=>?_) (fun cdv A outer s H E hr=>⟨_,(aj (aG (i:=3) dX.nd rfl (Or.inl rfl) eB)
 (ak (ie PassesOwn.never rfl (bM (aa 2 (pv 2))) (fQ (n:=2) rfl (bn (aF (i:=4) dX.nd rfl (Or.inl rfl)) (bn (aF (i:=5) dX.nd rfl (Or.inl rfl)) eX)))
 (aj (aL (aA (hu9 hr) (aa 3 (pv 3)) eB)
 (ak (aE (aS (R:=fun C sp=>C=a.c_Board∧sp=aQ a) (aa 0 (pv 0)) (fun C sp ⟨e1,e2⟩=>by subst e1 e2; exact ⟨G.cl_Board,_,_,_,G.mt_Board_apply,C_Board_apply,G.b_Board_apply⟩) (hr.mono (by first | decide | omega)) (ae (aK (ae ar (ae (aa 1 (pv 1)) (ae (aa 3 (pv 3)) (ae (aa 4 (pv 4)) (ae (aa 3 (pv 3)) ai)))))) ai))))
 aD)
 (aj (aE (aS (R:=fun C sp=>C=a.c_Board∧sp=aQ a) (aa 0 (pv 0)) (fun C sp ⟨e1,e2⟩=>by subst e1 e2; exact ⟨G.cl_Board,_,_,_,G.mt_Board_apply,C_Board_apply,G.b_Board_apply⟩) (hr.mono (by first | decide | omega)) (ae (aK (ae ar (ae (aa 1 (pv 1)) (ae (aa 4 (pv 4)) (ae (aa 5 (pv 5)) ai))))) ai)))
 (ak (aG (i:=3) dX.nd rfl (Or.inl rfl) (aa 4 (pv 4))))))))),?_⟩)
 ·obtain ⟨M0,b,A,V,l,n,i,z,r,rfl,_⟩:=h
  rfl
 ·rintro ds M Q ⟨M0,b,A,V,l,n,i,z,r,rfl,cu,hn,lr,nf,q⟩
  refine af lr (jI [.tup [.str z,.tup []]] (fun pre δ M'=>(pre=[]∧M'=M∧δ=[some (.ref b),some (.int (i:Nat)),some (.ref r),some .non,none,none])∨(pre=[.tup [.str z,.tup []]]∧∃ A' V',Cur a M0 M' b A' V' l (n + 1)∧cz A M A' M'∧V'.calls=V.calls∧V'.ps=V.ps)) (fun pre δ M' j=>?_) _ [] _ _ rfl (.inl ⟨rfl,rfl,rfl⟩) ?_ ?_)
  ·rcases j with ⟨_,rfl,_⟩ | ⟨_,A',V',c1,st,_⟩
   ·exact lr
   ·exact dB (st.1 r _ nf (bo lr))
  ·rintro pre d post e δ M' j nx hnx
   rcases j with ⟨rfl,rfl,rfl⟩ | ⟨rfl,_⟩
   ·cases e
    refine ⟨rfl,ap cu.at_ ⟨rfl,_,⟨rfl,rfl⟩,few rfl,b,A,V,_,_,rfl,cu.b,cu.w.bd,cu.g.lim (by omega),.asks _ _ _,fun M1 A1 eb st bd1=>?_⟩⟩
    have c1:=cu.after (.asks _ _ _) eb st bd1
    exact hnx _ _ (.inr ⟨rfl,A1,_,c1,st,rfl,rfl⟩)
   ·simp at e
  ·rintro δ M' j
   rcases j with ⟨e,_⟩ | ⟨_,A',V',c1,st,e1,e2⟩
   ·cases e
   ·exact ⟨M',.refl,q M' A' V' c1 st e1 e2⟩
theorem uQ (G:Gl K mg a):Fn3 P w K mg base 4 a.f_start_ringing a.fd_start_ringing ["board","number","target","phones"] (uy a):=by
 have C_Board_apply:=fB (P:=P) (w:=w) (base:=base) G
 have C_Plan_manner:=hJ (P:=P) (w:=w) (base:=base) G
 have C_Plan_phones_of:=eN (P:=P) (w:=w) (base:=base) G
 refine aR G.fn_start_ringing fg (fun ds M Q h=>?_) (fun cdv A outer s H E hr=>⟨_,(aj (aL (aA (hu9 hr) (aS (R:=fun C sp=>C=a.c_Plan∧sp=gq a) (aw (aa 0 (pv 0))) (fun C sp ⟨e1,e2⟩=>by subst e1 e2; exact ⟨G.cl_Plan,_,_,_,G.mt_Plan_manner,C_Plan_manner,G.b_Plan_manner⟩) (hr.mono (by first | decide | omega)) (ae (aa 2 (pv 2)) ai)) ar)
 (aj (aG (i:=4) fg.nd rfl (Or.inl rfl) (aS (R:=fun C sp=>C=a.c_Plan∧sp=dL a) (aw (aa 0 (pv 0))) (fun C sp ⟨e1,e2⟩=>by subst e1 e2; exact ⟨G.cl_Plan,_,_,_,G.mt_Plan_phones_of,C_Plan_phones_of,G.b_Plan_phones_of⟩) (hr.mono (by first | decide | omega)) (ae (aa 2 (pv 2)) ai)))
 (aj (aG (i:=5) fg.nd rfl (Or.inl rfl) (bt (bt (hZ (aa 4 (pv 4)) (ae (aC (aa 3 (pv 3)) ao) ai)) ao) (aP bW rfl G.no_len bL (ae (aa 4 (pv 4)) ai))))
 (ak (aE (aS (R:=fun C sp=>C=a.c_Board∧sp=aQ a) (aa 0 (pv 0)) (fun C sp ⟨e1,e2⟩=>by subst e1 e2; exact ⟨G.cl_Board,_,_,_,G.mt_Board_apply,C_Board_apply,G.b_Board_apply⟩) (hr.mono (by first | decide | omega)) (ae (aK (ae ar (ae (aa 2 (pv 2)) (ae (aa 5 (pv 5)) ai)))) ai))))))
 aD)
 (ak (aE (aS (R:=fun C sp=>C=a.c_Board∧sp=aQ a) (aa 0 (pv 0)) (fun C sp ⟨e1,e2⟩=>by subst e1 e2; exact ⟨G.cl_Board,_,_,_,G.mt_Board_apply,C_Board_apply,G.b_Board_apply⟩) (hr.mono (by first | decide | omega)) (ae (aK (ae ar (ae (aa 1 (pv 1)) (ae (aa 3 (pv 3)) ai)))) ai))))),?_⟩)
 ·obtain ⟨M0,b,A,V,l,n,i,c,z,ps,x,rfl,_⟩:=h
  rfl
 ·rintro ds M Q ⟨M0,b,A,V,l,n,i,c,z,ps,x,rfl,cu,hn,hc,hx,hps,hm,hml,q⟩
  obtain ⟨ph,gr,ws,pon,pr,gd,i1,_⟩:=cu.pl
  have pl:=cu.pl
  refine cut (t:=oM _ _ _) (fun δ M'=>(∃ A' V',Cur a M0 M' b A' V' l (n + 1)∧cz A M A' M'∧V'.ps=fC l V z x∧V'.calls=V.calls)∧∃ y1 y2,δ=[some (.ref b),some (.int (i:Nat)),some (.str z),some (.tup (ps.map D.str)),y1,y2]) (fun nx h=>?_) ?_
  ·refine ap cu.at_ (af rfl (ap i1 ⟨rfl,_,⟨rfl,rfl⟩,V.p,z,l,rfl,pl,?_⟩))
   refine dc (c:=l.manner z == "turns") (fun g=>?_) (fun g=>?_)
   ·refine ap cu.at_ (af rfl (ap i1 ⟨rfl,_,⟨rfl,rfl⟩,V.p,z,l,rfl,pl,fun p hp=>?_⟩))
    have t:=L3.Sub.new (c:=.lst ((l.phonesOf z).map D.str)) hp
    have lp:lstM (au M p (.lst ((l.phonesOf z).map D.str))) p=some ((l.phonesOf z).map D.str):=av
    have cu':=cu.sub t
    have st0:cz A M A (au M p (.lst ((l.phonesOf z).map D.str))):=.sub t
    generalize au M p (.lst ((l.phonesOf z).map D.str))=M1 at t lp cu' st0 ⊢
    obtain ⟨j,ej⟩:=nO hm
    obtain ⟨ps',rfl⟩:∃ ps',ps=x :: ps':=by
     cases ps with
     | nil=>cases hx
     | cons y r=>cases hx; exact ⟨r,rfl⟩
    have lpos:0 < (l.phonesOf z).length:=List.length_pos_of_mem hm
    have el:(((l.phonesOf z).map D.str).length:Int)=(l.phonesOf z).length:=by rw [List.length_map]
    refine ⟨by show (lstM M1 p).isSome=true; rw [lp]; rfl,af (qF _ _) (af lp ⟨rfl,cM _,af ej (af lp ⟨by rw [el]; omega,?_⟩)⟩)⟩
    rw [el]
    have en:(((j:Nat):Int) + 1) % ((l.phonesOf z).length:Int)=nxP (l.phonesOf z) x:=by
     unfold nxP
     rw [ej]
     rfl
    rw [en]
    refine ap cu'.at_ ⟨rfl,_,⟨rfl,rfl⟩,few rfl,b,A,V,_,_,rfl,cu'.b,cu'.w.bd,cu'.g.lim (by omega),.next z (nxP (l.phonesOf z) x),fun M2 A2 eb st bd2=>?_⟩
    have c2:=cu'.after (.next z (nxP (l.phonesOf z) x)) eb st bd2
    refine h _ _ ⟨⟨A2,_,c2,st0.trans st,?_,rfl⟩,_,_,rfl⟩
    unfold fC
    rw [if_pos g]
    rfl
   ·refine h _ _ ⟨⟨A,V,cu.mono (by omega),.refl,?_,rfl⟩,_,_,rfl⟩
    unfold fC
    rw [if_neg g]
  rintro δ M1 ⟨⟨A1,V1,c1,st1,e1,e2⟩,y1,y2,rfl⟩
  have hc1:V1.calls[i]?=some c:=by rw [e2]; exact hc
  refine ap c1.at_ ⟨rfl,_,⟨rfl,rfl⟩,few rfl,b,A1,V1,_,_,rfl,c1.b,c1.w.bd,c1.g.lim (by omega),.chg i c _ _ hc1 (.rings ps hps),fun M2 A2 eb st2 bd2=>?_⟩
  have c2:=c1.after (.chg i c _ _ hc1 (.rings ps hps)) eb st2 bd2
  refine ⟨M2,.refl,q M2 A2 _ c2 (st1.trans st2) e1 ?_⟩
  show V1.calls.set i (c.ring ps)=_
  rw [e2]
theorem wX (G:Gl K mg a):Fn3 P w K mg base 5 a.f_come_to_end a.fd_come_to_end ["board","number","end"] (wx a):=by
 have C_start_ringing:=uQ (P:=P) (w:=w) (base:=base) G
 have C_Board_apply:=fB (P:=P) (w:=w) (base:=base) G
 refine aR G.fn_come_to_end g9 (fun ds M Q h=>?_) (fun cdv A outer s H E hr=>⟨_,(aj (aG (i:=3) g9.nd rfl (Or.inl rfl) (aC (aa 2 (pv 2)) ao))
 (ak (aL (aA (hu9 hr) (aa 3 (pv 3)) ar)
 (ak (aE (ay C_start_ringing (hr.mono (by first | decide | omega)) rfl G.mg_start_ringing G.kp_start_ringing G.b_start_ringing (ae (aa 0 (pv 0)) (ae (aa 1 (pv 1)) (ae (aC (aa 2 (pv 2)) ao) (ae (aC (aa 2 (pv 2)) ao) ai)))))))
 (ak (aL (aA (hu9 hr) (aa 3 (pv 3)) ar)
 (ak (aE (aS (R:=fun C sp=>C=a.c_Board∧sp=aQ a) (aa 0 (pv 0)) (fun C sp ⟨e1,e2⟩=>by subst e1 e2; exact ⟨G.cl_Board,_,_,_,G.mt_Board_apply,C_Board_apply,G.b_Board_apply⟩) (hr.mono (by first | decide | omega)) (ae (aK (ae ar (ae (aa 1 (pv 1)) (ae (aC (aa 2 (pv 2)) ao) ai)))) ai))))
 (ak (aL (aA (hu9 hr) (aa 3 (pv 3)) ar)
 (ak dJ)
 (ak (aE (aS (R:=fun C sp=>C=a.c_Board∧sp=aQ a) (aa 0 (pv 0)) (fun C sp ⟨e1,e2⟩=>by subst e1 e2; exact ⟨G.cl_Board,_,_,_,G.mt_Board_apply,C_Board_apply,G.b_Board_apply⟩) (hr.mono (by first | decide | omega)) (ae (aK (ae ar (ae (aa 1 (pv 1)) (ae (aa 3 (pv 3)) ai)))) ai))))))))))),?_⟩)
 ·obtain ⟨M0,b,A,V,l,n,i,c,z,ps,x,rfl,_⟩:=h
  rfl
 ·rintro ds M Q ⟨M0,b,A,V,l,n,i,c,z,ps,x,rfl,cu,hn,hc,hx,hps,hm,hml,q⟩
  exact ⟨M0,b,A,V,l,n,i,c,z,ps,x,rfl,cu,hn,hc,hx,hps,hm,hml,fun M' A' V' c1 st e1 e2=>⟨M',.refl,q M' A' V' c1 st e1 e2⟩⟩
theorem wf (G:Gl K mg a):Fn3 P w K mg base 8 a.f_go_on a.fd_go_on ["board","number"] (vg a):=by
 have C_route:=oB (P:=P) (w:=w) (base:=base) G
 have C_take_steps:=wu (P:=P) (w:=w) (base:=base) G
 have C_come_to_end:=wX (P:=P) (w:=w) (base:=base) G
 have C_Board_apply:=fB (P:=P) (w:=w) (base:=base) G
 refine aR G.fn_go_on gy (fun ds M Q h=>?_) (fun cdv A outer s H E hr=>⟨_,(aj (aG (i:=2) gy.nd rfl (Or.inl rfl) (aC (aw (aa 0 (pv 0))) (aa 1 (pv 1))))
 (aj (aG (i:=3) gy.nd rfl (Or.inl rfl) (ay C_route (hr.mono (by first | decide | omega)) rfl G.mg_route G.kp_route G.b_route (ae (aa 0 (pv 0)) (ae (aw (aa 2 (pv 2))) (ae (aC (aw (aa 2 (pv 2))) (mI ao)) (ae (dh (aw (aa 2 (pv 2))) dN (dQ (mI ao))) ai))))))
 (aj (aG (i:=4) gy.nd rfl (Or.inl rfl) (aC (aa 3 (pv 3)) ao))
 (aj (aG (i:=5) gy.nd rfl (Or.inl rfl) (aC (aa 3 (pv 3)) ao))
 (aj (aE (ay C_take_steps (hr.mono (by first | decide | omega)) rfl G.mg_take_steps G.kp_take_steps G.b_take_steps (ae (aa 0 (pv 0)) (ae (aa 1 (pv 1)) (ae (aa 5 (pv 5)) ai)))))
 (aj (aL (W3.b3 (gN (aA (hu9 hr) (aC (aa 4 (pv 4)) ao) ar) (gM (aA (hu9 hr) (aP bW rfl G.no_len bL (ae (aa 5 (pv 5)) ai)) ao))))
 (aj (aG (i:=6) gy.nd rfl (Or.inl rfl) (aC (aC (aa 5 (pv 5)) (mI ao)) ao))
 (ak (aE (aS (R:=fun C sp=>C=a.c_Board∧sp=aQ a) (aa 0 (pv 0)) (fun C sp ⟨e1,e2⟩=>by subst e1 e2; exact ⟨G.cl_Board,_,_,_,G.mt_Board_apply,C_Board_apply,G.b_Board_apply⟩) (hr.mono (by first | decide | omega)) (ae (aK (ae ar (ae (aa 1 (pv 1)) (ae (aa 6 (pv 6)) (ae (aC (aC (aa 4 (pv 4)) ao) ao) (ae (aa 6 (pv 6)) ai)))))) ai)))))
 aD)
 (ak (aE (ay C_come_to_end (hr.mono (by first | decide | omega)) rfl G.mg_come_to_end G.kp_come_to_end G.b_come_to_end (ae (aa 0 (pv 0)) (ae (aa 1 (pv 1)) (ae (aa 4 (pv 4)) ai)))))))))))),?_⟩)
 ·obtain ⟨M0,b,A,V,l,n,i,c,z,k,x,rfl,_⟩:=h
  rfl
 ·rintro ds M Q ⟨M0,b,A,V,l,n,i,c,z,k,x,rfl,cu,hn,hc,hw,tg,nx,hx,q⟩
  obtain ⟨ka,ci⟩:=cu.call hc
  obtain ⟨ad,md,h1,h2,h3,h4,n1,n2⟩:=ci.cell
  rw [hw] at h2
  have h2:lstM M ka.wy=some [.str z]:=h2
  have hx0:cK l V c.cr z k ≠ []:=fun y=>by rw [y] at hx; cases hx
  have ee:iy l V c.cr z k=.tup [.str "rings",.str z,.tup ((cK l V c.cr z k).map D.str)]:=by
   unfold iy
   rw [if_neg hx0]
  refine cut (t:=gL _ _) (fun δ M'=>M=M'∧δ=[some (.ref b),some (.int (i:Nat)),some (.ref ka.p),none,none,none,none]) (fun nx0 h=>ap cu.at_ (af rfl (af rfl (af ci.bd.ca (af (fO ci.e1) (h _ _ ⟨rfl,rfl⟩)))))) ?_
  rintro δ _ ⟨rfl,rfl⟩
  refine cut (t:=gL _ _) (fun δ M'=>L3.Sub M M'∧∃ r,M r=none∧lstM M' r=some [.tup [.str z,.tup []]]∧δ=[some (.ref b),some (.int (i:Nat)),some (.ref ka.p),some (.tup [.tup [.str "rings",.str z,.tup ((cK l V c.cr z k).map D.str)],.ref r]),none,none,none]) (fun nx0 h=>?_) ?_
  ·refine ap h1 (af rfl (ap h1 (af rfl (af h2 (af rfl (ap h1 (af rfl (af h2 fun p hp=>?_))))))))
   have t:=L3.Sub.new (c:=.lst []) hp
   have lp:lstM (au M p (.lst [])) p=some []:=av
   refine ⟨A,V,l,c.cr,z,k,p,by rw [cu.b],(cu.rd (by omega)).sub t,tg,nx,lp,fun r M' s hr lr=>?_⟩
   rw [ee]
   exact h _ _ ⟨t.trans s,r,t.none hr,lr,rfl⟩
  rintro δ M1 ⟨s1,r,hr,lr,rfl⟩
  have cu1:=cu.sub s1
  refine ⟨M0,b,A,V,l,n,i,z,r,rfl,cu1,by omega,lr,cu.w.bd.notF hr,fun M2 A2 V2 c2 st2 f1 f2=>?_⟩
  have hc2:V2.calls[i]?=some c:=by rw [f1]; exact hc
  have rl:=(oJ (l:=l) (V:=V) (c:=c.cr) (z:=z) (k:=k))
  have tf:=tg.few
  refine ⟨M0,b,A2,V2,l,n + 1,i,c,z,cK l V c.cr z k,x,rfl,c2,by omega,hc2,hx,by omega,rl.1 x (List.mem_of_mem_head? hx),tf,fun M3 A3 V3 c3 st3 g1 g2=>⟨M3,.refl,q M3 A3 V3 c3 ((cz.sub s1).trans (st2.trans st3)) ?_ ?_⟩⟩
  ·rw [g1]
   unfold fC
   rw [f2]
  ·rw [g2,f1]
theorem ux (G:Gl K mg a):Fn3 P w K mg base 9 a.f_make_call a.fd_make_call ["board","phone","target"] (ug a):=by
 have C_go_on:=wf (P:=P) (w:=w) (base:=base) G
 have C_Board_apply:=fB (P:=P) (w:=w) (base:=base) G
 refine aR G.fn_make_call je (fun ds M Q h=>?_) (fun cdv A outer s H E hr=>⟨_,(aj (aG (i:=3) je.nd rfl (Or.inl rfl) (aP bW rfl G.no_len bL (ae (aw (aa 0 (pv 0))) ai)))
 (aj (aE (aS (R:=fun C sp=>C=a.c_Board∧sp=aQ a) (aa 0 (pv 0)) (fun C sp ⟨e1,e2⟩=>by subst e1 e2; exact ⟨G.cl_Board,_,_,_,G.mt_Board_apply,C_Board_apply,G.b_Board_apply⟩) (hr.mono (by first | decide | omega)) (ae (aK (ae ar (ae (aa 3 (pv 3)) (ae (aa 1 (pv 1)) ai)))) ai)))
 (aj (aE (aS (R:=fun C sp=>C=a.c_Board∧sp=aQ a) (aa 0 (pv 0)) (fun C sp ⟨e1,e2⟩=>by subst e1 e2; exact ⟨G.cl_Board,_,_,_,G.mt_Board_apply,C_Board_apply,G.b_Board_apply⟩) (hr.mono (by first | decide | omega)) (ae (aK (ae ar (ae (aa 3 (pv 3)) (ae (aa 1 (pv 1)) (ae (aa 2 (pv 2)) (ae (aa 1 (pv 1)) ai)))))) ai)))
 (ak (aE (ay C_go_on (hr.mono (by first | decide | omega)) rfl G.mg_go_on G.kp_go_on G.b_go_on (ae (aa 0 (pv 0)) (ae (aa 3 (pv 3)) ai)))))))),?_⟩)
 ·obtain ⟨M0,b,A,V,l,n,y,z,k,x,rfl,_⟩:=h
  rfl
 ·rintro ds M Q ⟨M0,b,A,V,l,n,y,z,k,x,rfl,cu,hn,tg,nx,hx,q⟩
  have lc:((A.cs.map fun k=>D.ref k.p).length:Int)=(V.calls.length:Nat):=by rw [List.length_map,cu.w.bd.len]
  refine ap cu.at_ (af rfl (af cu.w.bd.ca ?_))
  rw [lc]
  refine ap cu.at_ ⟨rfl,_,⟨rfl,rfl⟩,few rfl,b,A,V,_,_,rfl,cu.b,cu.w.bd,cu.g.lim (by omega),.new _ y,fun M1 A1 eb1 st1 bd1=>?_⟩
  have c1:=cu.after (.new _ y) eb1 st1 bd1
  have e1:(V.calls ++ [ls y])[V.calls.length]?=some (ls y):=by simp
  refine ap c1.at_ ⟨rfl,_,⟨rfl,rfl⟩,few rfl,b,A1,_,_,_,rfl,c1.b,c1.w.bd,c1.g.lim (by omega),.leg V.calls.length (ls y) _ z _ e1,fun M2 A2 eb2 st2 bd2=>?_⟩
  have c2:=c1.after (.leg V.calls.length (ls y) _ z _ e1) eb2 st2 bd2
  have es:(V.calls ++ [ls y]).set V.calls.length (mY (ls y) z)=V.calls ++ [rW y [z]]:=by
   rw [List.set_append_right _ _ (Nat.le_refl _),Nat.sub_self]
   rfl
  obtain ⟨V2,hV,hc,hp⟩:∃ V2:BdV,Cur a M0 M2 b A2 V2 l (n + 2)∧V2.calls=V.calls ++ [rW y [z]]∧V2.ps=V.ps:=⟨_,c2,by exact es,rfl⟩
  have e2:V2.calls[V.calls.length]?=some (rW y [z]):=by rw [hc]; simp
  have er:cK l V2 y z k=cK l V y z k:=uW hc
  have nx2:gZ l V2 z k:=fun g=>by rw [hp]; exact nx g
  refine ⟨M0,b,A2,V2,l,n + 2,V.calls.length,_,z,k,x,rfl,hV,by omega,e2,rfl,tg,nx2,by show (cK l V2 y z k).head?=some x; rw [er]; exact hx,fun M3 A3 V3 c3 st3 f1 f2=>⟨M3,.refl,q M3 A3 V3 c3 (st1.trans (st2.trans st3)) ?_ ⟨(rW y [z]).ring (cK l V2 y z k),?_,er⟩⟩⟩
  ·rw [f1]
   unfold fC
   rw [hp]
  ·rw [f2,hc,List.set_append_right _ _ (Nat.le_refl _),Nat.sub_self]
   rfl
end
end Z
namespace Z
open PySem PySem.Spec PyProof.Rows L2 L3
def wz (a:Ad):Sp3:=fun ds M Q=>∃ M0 b A V l n x i c,ds=[.ref b,.str x,.int (i:Nat)]∧Cur a M0 M b A V l n∧n≤800∧V.calls[i]?=some c∧∀ M' A' V',Cur a M0 M' b A' V' l (n + 2)→cz A M A' M'→V'.ps=V.ps→Q .non M'
def wk (a:Ad):Sp3:=fun ds M Q=>∃ M0 b A V l n x,ds=[.ref b,x]∧Cur a M0 M b A V l n∧Q (.tup []) M
def wt (a:Ad):Sp3:=fun ds M Q=>∃ M0 b A V l n,ds=[.ref b]∧Cur a M0 M b A V l n∧n≤800∧∀ M' A' V',Cur a M0 M' b A' V' l (n + 1)→cz A M A' M'→V'.ps=V.ps→Q .non M'
def tw (a:Ad):Sp3:=fun ds M Q=>∃ M0 b A V l n x i c,ds=[.ref b,.tup [.str "answer",.str x,.int (i:Nat)]]∧Cur a M0 M b A V l n∧V.calls[i]?=some c∧Q (.tup [.str "talks",.int (i:Nat),.tup [.str c.cr,.str x]]) M
def wS (a:Ad) (M0 M:Mp) (b:Addr) (A:BdA) (V:BdV) (l:aM) (n:Nat) (e:D) (Q:Mp→Prop):Prop :=
 (e=.tup [.str "turn"]∧∀ M' A' V',Cur a M0 M' b A' V' l (n + 5)→cz A M A' M'→V'.ps=V.ps→Q M') ∨
 (∃ y z k x v,e=.tup [.str "call",.str y,.str z]∧l.phone y=some v∧Tgt l z∧gZ l V z k∧(cK l V y z k).head?=some x∧∀ M' A' V',Cur a M0 M' b A' V' l (n + 5)→cz A M A' M'→V'.ps=fC l V z x→(∃ c',V'.calls=V.calls ++ [c']∧c'.at_=cK l V y z k)→Q M') ∨
 ∃ wd x i,e=.tup [.str wd,.str x,.int i]∧(wd="answer"∨wd="hang")∧∀ M' A' V',Cur a M0 M' b A' V' l (n + 5)→cz A M A' M'→V'.ps=V.ps→Q M'
def inR (V:BdV) (e:D):Prop:=∀ wd x i,e=.tup [.str wd,.str x,.int i]→0≤i∧i < V.calls.length
def uZ (a:Ad):Sp3:=fun ds M Q=>∃ M0 b A V l n e,ds=[.ref b,e]∧Cur a M0 M b A V l n∧n≤500∧inR V e∧wS a M0 M b A V l n e (Q .non)
def At (a:Ad):rn:=fun ds M Q R=>∃ M0 b A V l n e,ds=[.ref b,e]∧Cur a M0 M b A V l n∧n≤500∧l.phones.length≤100∧l.groups.length≤100∧wS a M0 M b A V l n e (fun M'=>∀ r,Q (.ref r) M')∧R a.c_NoDeed M
def wP (a:Ad):Sp3:=fun ds M Q=>∃ M0 b A V l n e,ds=[.ref b,e]∧Cur a M0 M b A V l n∧n≤500∧l.phones.length≤100∧l.groups.length≤100∧wS a M0 M b A V l n e (Q (.bl true))∧Q (.bl false) M
section
variable {P:Program} {w:World} {K:PySem.W.Frag} {mg:Str→Option Value} {base:Heap} {a:Ad}
theorem wF (G:Gl K mg a):Fn3 P w K mg base 4 a.f_hang_up a.fd_hang_up ["board","phone","number"] (wz a):=by
 have C_Board_apply:=fB (P:=P) (w:=w) (base:=base) G
 have C_Call_is_tried_by:=kB (P:=P) (w:=w) (base:=base) G
 refine aR G.fn_hang_up kF (fun ds M Q h=>?_) (fun cdv A outer s H E hr=>⟨_,(aj (aG (i:=3) kF.nd rfl (Or.inl rfl) (aC (aw (aa 0 (pv 0))) (aa 2 (pv 2))))
 (ak (aL (gR (aS (R:=fun C sp=>C=a.c_Call∧sp=dj a) (aa 3 (pv 3)) (fun C sp ⟨e1,e2⟩=>by subst e1 e2; exact ⟨G.cl_Call,_,_,_,G.mt_Call_is_tried_by,C_Call_is_tried_by,G.b_Call_is_tried_by⟩) (hr.mono (by first | decide | omega)) (ae (aa 1 (pv 1)) ai)))
 (ak (aE (aS (R:=fun C sp=>C=a.c_Board∧sp=aQ a) (aa 0 (pv 0)) (fun C sp ⟨e1,e2⟩=>by subst e1 e2; exact ⟨G.cl_Board,_,_,_,G.mt_Board_apply,C_Board_apply,G.b_Board_apply⟩) (hr.mono (by first | decide | omega)) (ae (aK (ae ar (ae (aa 2 (pv 2)) (ae ar ai)))) ai))))
 (ak (aL (aA (hu9 hr) (aa 1 (pv 1)) (aw (aa 3 (pv 3))))
 (aj (aE (aS (R:=fun C sp=>C=a.c_Board∧sp=aQ a) (aa 0 (pv 0)) (fun C sp ⟨e1,e2⟩=>by subst e1 e2; exact ⟨G.cl_Board,_,_,_,G.mt_Board_apply,C_Board_apply,G.b_Board_apply⟩) (hr.mono (by first | decide | omega)) (ae (aK (ae ar (ae (aa 2 (pv 2)) (ae (aa 1 (pv 1)) ai)))) ai)))
 (ak (aL (aA (hu9 hr) (aP bW rfl G.no_len bL (ae (aw (aa 3 (pv 3))) ai)) ao)
 (ak (aE (aS (R:=fun C sp=>C=a.c_Board∧sp=aQ a) (aa 0 (pv 0)) (fun C sp ⟨e1,e2⟩=>by subst e1 e2; exact ⟨G.cl_Board,_,_,_,G.mt_Board_apply,C_Board_apply,G.b_Board_apply⟩) (hr.mono (by first | decide | omega)) (ae (aK (ae ar (ae (aa 2 (pv 2)) (ae ar ai)))) ai))))
 aD)))
 (ak (aL (aA (hu9 hr) (aP bW rfl G.no_len bL (ae (aw (aa 3 (pv 3))) ai)) ao)
 (ak (aE (aS (R:=fun C sp=>C=a.c_Board∧sp=aQ a) (aa 0 (pv 0)) (fun C sp ⟨e1,e2⟩=>by subst e1 e2; exact ⟨G.cl_Board,_,_,_,G.mt_Board_apply,C_Board_apply,G.b_Board_apply⟩) (hr.mono (by first | decide | omega)) (ae (aK (ae ar (ae (aa 2 (pv 2)) (ae (aa 1 (pv 1)) ai)))) ai))))
 (ak (aE (aS (R:=fun C sp=>C=a.c_Board∧sp=aQ a) (aa 0 (pv 0)) (fun C sp ⟨e1,e2⟩=>by subst e1 e2; exact ⟨G.cl_Board,_,_,_,G.mt_Board_apply,C_Board_apply,G.b_Board_apply⟩) (hr.mono (by first | decide | omega)) (ae (aK (ae ar (ae (aa 2 (pv 2)) (ae ar ai)))) ai))))))))))),?_⟩)
 ·obtain ⟨M0,b,A,V,l,n,x,i,c,rfl,_⟩:=h
  rfl
 ·rintro ds M Q ⟨M0,b,A,V,l,n,x,i,c,rfl,cu,hn,hc,q⟩
  obtain ⟨ka,ci⟩:=cu.call hc
  obtain ⟨ad,md,h1,h2,h3,h4,n1,n2⟩:=ci.cell
  have nh:=cu.g.nh c (cZ hc)
  have lat:((c.at_.map D.str).length:Int)=c.at_.length:=by rw [List.length_map]
  refine ap cu.at_ (af rfl (af rfl (af ci.bd.ca (af (fO ci.e1) ?_))))
  refine ap h1 ⟨rfl,_,⟨rfl,rfl⟩,_,ka,c,x,rfl,ci.cell,nh,?_⟩
  have over:∀ (w0:Str) (M1:Mp) (A1:BdA),A1.b=A.b→cz A M A1 M1→az a M1 A1 (iK (dS V (.tup [.str "over",.int (i:Nat),.str w0])) i (c.over w0))→∃ M'',L3.Sub M'' M1∧Q .non M'':=fun w0 M1 A1 eb st bd=>⟨M1,.refl,q M1 A1 _ ((cu.after (.chg i c _ _ hc (.over w0)) eb st bd).mono (by omega)) st rfl⟩
  refine dc (c:=c.triedB x) (fun _=>?_) (fun _=>?_)
  ·exact ap cu.at_ ⟨rfl,_,⟨rfl,rfl⟩,few rfl,b,A,V,_,_,rfl,cu.b,cu.w.bd,cu.g.lim (by omega),.chg i c _ _ hc (.over "left"),over "left"⟩
  refine ap h1 (af rfl (af h3 ⟨rfl,cM _,?_⟩))
  refine dc (fun _=>?_) (fun _=>?_)
  ·refine ap cu.at_ ⟨rfl,_,⟨rfl,rfl⟩,few rfl,b,A,V,_,_,rfl,cu.b,cu.w.bd,cu.g.lim (by omega),.chg i c _ _ hc (.leaves x),fun M1 A1 eb st bd=>?_⟩
   have c1:=cu.after (.chg i c _ _ hc (.leaves x)) eb st bd
   generalize hV:iK (dS V (.tup [.str "leaves",.int (i:Nat),.str x])) i (c.drop x)=V1 at c1 bd
   have hp:V1.ps=V.ps:=by rw [← hV]; rfl
   have hi:=(List.getElem?_eq_some_iff.mp hc).1
   have hc1:V1.calls[i]?=some (c.drop x):=by
    rw [← hV]
    show (V.calls.set i (c.drop x))[i]?=_
    rw [List.getElem?_set_self hi]
   have ek:=st.2.2 i ka ci.e1
   obtain ⟨ad',md',g1,g2,g3,g4,_⟩:=c1.w.bd.cs i ka _ ek hc1
   refine ap g1 (af rfl (af g3 ?_))
   refine dc (fun _=>?_) (fun _=>?_)
   ·refine ap c1.at_ ⟨rfl,_,⟨rfl,rfl⟩,few rfl,b,A1,V1,_,_,rfl,c1.b,c1.w.bd,c1.g.lim (by omega),.chg i (c.drop x) _ _ hc1 (.over "refused"),fun M2 A2 eb2 st2 bd2=>?_⟩
    exact ⟨M2,.refl,q M2 A2 _ (c1.after (.chg i (c.drop x) _ _ hc1 (.over "refused")) eb2 st2 bd2) (st.trans st2) hp⟩
   ·exact ⟨M1,.refl,q M1 A1 V1 (c1.mono (by omega)) st hp⟩
  ·refine ap h1 (af rfl (af h4 ?_))
   refine dc (fun _=>?_) (fun _=>?_)
   ·refine ap cu.at_ ⟨rfl,_,⟨rfl,rfl⟩,few rfl,b,A,V,_,_,rfl,cu.b,cu.w.bd,cu.g.lim (by omega),.chg i c _ _ hc (.leaves x),fun M1 A1 eb st bd=>?_⟩
    exact ⟨M1,.refl,q M1 A1 _ ((cu.after (.chg i c _ _ hc (.leaves x)) eb st bd).mono (by omega)) st rfl⟩
   ·exact ap cu.at_ ⟨rfl,_,⟨rfl,rfl⟩,few rfl,b,A,V,_,_,rfl,cu.b,cu.w.bd,cu.g.lim (by omega),.chg i c _ _ hc (.over "done"),over "done"⟩
theorem wW (G:Gl K mg a):Fn3 P w K mg base 1 a.f_due_wishes a.fd_due_wishes ["board","call"] (wk a):=by
 refine aR G.fn_due_wishes iE (fun ds M Q h=>?_) (fun cdv A outer s H E hr=>⟨_,(aj (aG (i:=2) iE.nd rfl (Or.inr rfl) (aw (aw (aa 0 (pv 0)))))
 (ak (aB (ba eS rfl G.no_tuple eL (ae (bV rfl (c9 (ix:=[none,none,some 2,some 1]) (N':=["i","on","wishes","call"]) (by kernel_rfl)) (fL rfl G.no_enumerate (ae (aw (aa 0 (pv 0))) ai)) (fun C s0 H0 ex=>(fQ (n:=2) rfl (bn (aF (i:=0) (show List.Nodup (["i","on","wishes","call"]:List Str) by decide +kernel) rfl (Or.inl rfl)) (bn (aF (i:=1) (show List.Nodup (["i","on","wishes","call"]:List Str) by decide +kernel) rfl (Or.inl rfl)) eX)))) (fun C s0 H0 ex=>oy) (fun C s0 H0 ex=>(aa 0 (pv 0)))) ai))))),?_⟩)
 ·obtain ⟨M0,b,A,V,l,n,x,rfl,_⟩:=h
  rfl
 ·rintro ds M Q ⟨M0,b,A,V,l,n,x,rfl,cu,q⟩
  obtain ⟨ph,gr,ws,pon,pr,gd,i1,_⟩:=cu.pl
  refine ap cu.at_ (af rfl (ap i1 (af rfl ?_)))
  refine ap cu.at_ (af rfl (af cu.w.bd.on ?_))
  exact ⟨Nat.zero_le _,fun p hp=>af av ⟨M,.new hp,q⟩⟩
theorem ww (G:Gl K mg a):Fn3 P w K mg base 4 a.f_let_turn_pass a.fd_let_turn_pass ["board"] (wt a):=by
 have C_Board_apply:=fB (P:=P) (w:=w) (base:=base) G
 have C_due_wishes:=wW (P:=P) (w:=w) (base:=base) G
 refine aR G.fn_let_turn_pass dO (fun ds M Q h=>?_) (fun cdv A outer s H E hr=>⟨_,(aj (aE (aS (R:=fun C sp=>C=a.c_Board∧sp=aQ a) (aa 0 (pv 0)) (fun C sp ⟨e1,e2⟩=>by subst e1 e2; exact ⟨G.cl_Board,_,_,_,G.mt_Board_apply,C_Board_apply,G.b_Board_apply⟩) (hr.mono (by first | decide | omega)) (ae (aK (ae ar ai)) ai)))
 (ak (ie PassesOwn.never rfl (fL rfl G.no_enumerate (ae (ba fk rfl G.no_list fm (ae (aw (aa 0 (pv 0))) ai)) ai)) (fQ (n:=2) rfl (bn (aF (i:=1) dO.nd rfl (Or.inl rfl)) (bn (aF (i:=2) dO.nd rfl (Or.inl rfl)) eX)))
 (ak (aL (aA (hu9 hr) (aw (aa 2 (pv 2))) ar)
 (aj (aG (i:=3) dO.nd rfl (Or.inl rfl) (ay C_due_wishes (hr.mono (by first | decide | omega)) rfl G.mg_due_wishes G.kp_due_wishes G.b_due_wishes (ae (aa 0 (pv 0)) (ae (aa 2 (pv 2)) ai))))
 (ak (aL (aA (hu9 hr) (aP bW rfl G.no_len bL (ae (aa 3 (pv 3)) ai)) ao)
 (ak dJ)
 aD)))
 aD))))),?_⟩)
 ·obtain ⟨M0,b,A,V,l,n,rfl,_⟩:=h
  rfl
 ·rintro ds M Q ⟨M0,b,A,V,l,n,rfl,cu,hn,q⟩
  refine ap cu.at_ ⟨rfl,_,⟨rfl,rfl⟩,few rfl,b,A,V,_,_,rfl,cu.b,cu.w.bd,cu.g.lim (by omega),.turn,fun M1 A1 eb st bd=>?_⟩
  have c1:=cu.after .turn eb st bd
  refine ap c1.at_ (af rfl (af c1.w.bd.ca fun r hr=>af av ?_))
  have t:=L3.Sub.new (c:=.lst (A1.cs.map fun k=>D.ref k.p)) hr
  have lr:lstM (au M1 r (.lst (A1.cs.map fun k=>D.ref k.p))) r=some (A1.cs.map fun k=>D.ref k.p):=av
  have c2:=c1.sub t
  generalize au M1 r (.lst (A1.cs.map fun k=>D.ref k.p))=M2 at t lr c2 ⊢
  refine jI (fY 0 (A1.cs.map fun k=>D.ref k.p)) (fun pre δ M'=>M2=M'∧∃ y1 y2 y3,δ=[some (.ref b),y1,y2,y3]) (fun _ _ M' j=>by rw [← j.1]; exact lr) _ [] _ _ rfl ⟨rfl,none,none,none,rfl⟩ ?_ ?_
  ·rintro pre d post e δ M' ⟨rfl,y1,y2,y3,rfl⟩ nx hnx
   have ed:(fY 0 (A1.cs.map fun k=>D.ref k.p))[pre.length]?=some d:=by rw [← e]; simp
   rw [jl,List.getElem?_map] at ed
   cases ek:A1.cs[pre.length]? with
   | none=>rw [ek] at ed; cases ed
   | some k =>
    rw [ek] at ed
    have ed:D.tup [.int ((0 + pre.length:Nat):Int),.ref k.p]=d:=Option.some.inj ed
    subst ed
    have hi:pre.length < (va (dS V (.tup [.str "turn"]))).calls.length:=by rw [← c2.w.bd.len]; exact (List.getElem?_eq_some_iff.mp ek).1
    obtain ⟨ad,md,g1,_⟩:=c2.w.bd.cs _ k _ ek (List.getElem?_eq_getElem hi)
    refine ⟨rfl,ap g1 (af rfl ?_)⟩
    refine dc (fun _=>?_) (fun _=>hnx _ _ ⟨rfl,_,_,_,rfl⟩)
    exact ⟨M0,b,A1,_,l,n + 1,_,rfl,c2,hnx _ _ ⟨rfl,_,_,_,rfl⟩⟩
  ·rintro δ M' ⟨rfl,y1,y2,y3,rfl⟩
   exact ⟨M2,.refl,q M2 A1 _ c2 (st.trans (.sub t)) rfl⟩
theorem uI (G:Gl K mg a):Fn3 P w K mg base 1 a.f_event_of a.fd_event_of ["board","deed"] (tw a):=by
 refine aR G.fn_event_of eG (fun ds M Q h=>?_) (fun cdv A outer s H E hr=>⟨_,(aj (aG (i:=2) eG.nd rfl (Or.inl rfl) (aC (aa 1 (pv 1)) ao))
 (aj (aL (aA (hu9 hr) (aa 2 (pv 2)) (aK (ae ar (ae ar ai))))
 (ak (aB (aK (ae (aa 2 (pv 2)) (ae (aC (aa 1 (pv 1)) ao) ai)))))
 aD)
 (aj (aG (i:=3) eG.nd rfl (Or.inl rfl) (aC (aa 1 (pv 1)) ao))
 (aj (aG (i:=4) eG.nd rfl (Or.inl rfl) (aC (aa 1 (pv 1)) ao))
 (aj (aG (i:=5) eG.nd rfl (Or.inl rfl) (aC (aw (aa 0 (pv 0))) (aa 4 (pv 4))))
 (aj (aL (aA (hu9 hr) (aa 2 (pv 2)) ar)
 (ak (aB (aK (ae ar (ae (aa 4 (pv 4)) (ae (aK (ae (aw (aa 5 (pv 5))) (ae (aa 3 (pv 3)) ai))) ai))))))
 aD)
 (aj (aL (aA (hu9 hr) (aa 2 (pv 2)) ar)
 (ak (aB (aK (ae ar (ae (aa 4 (pv 4)) (ae (aa 3 (pv 3)) ai))))))
 aD)
 (aj (aL (aA (hu9 hr) (aa 2 (pv 2)) ar)
 (ak (aB (aK (ae ar (ae (aa 4 (pv 4)) (ae (ba eS rfl G.no_tuple eL (ae (aw (aa 5 (pv 5))) ai)) ai))))))
 aD)
 (aj (aG (i:=6) eG.nd rfl (Or.inl rfl) (aC (aa 1 (pv 1)) ao))
 (aj dJ
 (aj (aL (aA (hu9 hr) (aa 2 (pv 2)) ar)
 (ak (aB (aK (ae ar (ae (aa 4 (pv 4)) (ae (aa 6 (pv 6)) (ae (aa 7 (pv 7)) ai)))))))
 aD)
 (ak (aB (aK (ae ar (ae (aa 4 (pv 4)) (ae (aa 6 (pv 6)) (ae (bt (aK (ae (aa 3 (pv 3)) ai)) (aa 7 (pv 7))) ai)))))))))))))))))),?_⟩)
 ·obtain ⟨M0,b,A,V,l,n,x,i,c,rfl,_⟩:=h
  rfl
 ·rintro ds M Q ⟨M0,b,A,V,l,n,x,i,c,rfl,cu,hc,q⟩
  obtain ⟨ka,ci⟩:=cu.call hc
  obtain ⟨ad,md,h1,h2,h3,h4,n1,n2⟩:=ci.cell
  refine ⟨few rfl,rfl,rfl,?_⟩
  refine ap cu.at_ (af rfl (af rfl (af ci.bd.ca (af (fO ci.e1) ?_))))
  exact ap h1 (af rfl ⟨few rfl,few rfl,M,.refl,q⟩)
theorem yC (G:Gl K mg a):Fn3 P w K mg base 10 a.f_act a.fd_act ["board","deed"] (uZ a):=by
 have C_Board_apply:=fB (P:=P) (w:=w) (base:=base) G
 have C_let_turn_pass:=ww (P:=P) (w:=w) (base:=base) G
 have C_event_of:=uI (P:=P) (w:=w) (base:=base) G
 have C_make_call:=ux (P:=P) (w:=w) (base:=base) G
 have C_hang_up:=wF (P:=P) (w:=w) (base:=base) G
 refine aR G.fn_act uC (fun ds M Q h=>?_) (fun cdv A outer s H E hr=>⟨_,(aj (aG (i:=2) uC.nd rfl (Or.inl rfl) (aC (aa 1 (pv 1)) ao))
 (ak (aL (aA (hu9 hr) (aa 2 (pv 2)) ar)
 (ak (aE (ay C_make_call (hr.mono (by first | decide | omega)) rfl G.mg_make_call G.kp_make_call G.b_make_call (ae (aa 0 (pv 0)) (ae (aC (aa 1 (pv 1)) ao) (ae (aC (aa 1 (pv 1)) ao) ai))))))
 (ak (aL (aA (hu9 hr) (aa 2 (pv 2)) ar)
 (ak (aE (ay C_hang_up (hr.mono (by first | decide | omega)) rfl G.mg_hang_up G.kp_hang_up G.b_hang_up (ae (aa 0 (pv 0)) (ae (aC (aa 1 (pv 1)) ao) (ae (aC (aa 1 (pv 1)) ao) ai))))))
 (ak (aL (aA (hu9 hr) (aa 2 (pv 2)) ar)
 (ak (aE (ay C_let_turn_pass (hr.mono (by first | decide | omega)) rfl G.mg_let_turn_pass G.kp_let_turn_pass G.b_let_turn_pass (ae (aa 0 (pv 0)) ai))))
 (ak (aE (aS (R:=fun C sp=>C=a.c_Board∧sp=aQ a) (aa 0 (pv 0)) (fun C sp ⟨e1,e2⟩=>by subst e1 e2; exact ⟨G.cl_Board,_,_,_,G.mt_Board_apply,C_Board_apply,G.b_Board_apply⟩) (hr.mono (by first | decide | omega)) (ae (ay C_event_of (hr.mono (by first | decide | omega)) rfl G.mg_event_of G.kp_event_of G.b_event_of (ae (aa 0 (pv 0)) (ae (aa 1 (pv 1)) ai))) ai))))))))))),?_⟩)
 ·obtain ⟨M0,b,A,V,l,n,e,rfl,_⟩:=h
  rfl
 ·rintro ds M Q ⟨M0,b,A,V,l,n,e,rfl,cu,hn,hr0,hd⟩
  rcases hd with ⟨rfl,q⟩ | ⟨y,z,k,x,v,rfl,hv,tg,nx,hx,q⟩ | ⟨wd,x,i,rfl,hw,q⟩
  ·exact ⟨M0,b,A,V,l,n,rfl,cu,by omega,fun M' A' V' c1 st e=>⟨M',.refl,q M' A' V' (c1.mono (by omega)) st e⟩⟩
  ·exact ⟨M0,b,A,V,l,n,y,z,k,x,rfl,cu,by omega,tg,nx,hx,fun M' A' V' c1 st e1 e2=>⟨M',.refl,q M' A' V' c1 st e1 e2⟩⟩
  ·obtain ⟨i0,i1⟩:=hr0 wd x i rfl
   obtain ⟨j,rfl⟩:=Int.eq_ofNat_of_zero_le i0
   have hj:j < V.calls.length:=by omega
   have hc:V.calls[j]?=some V.calls[j]:=List.getElem?_eq_getElem hj
   generalize V.calls[j]=c at hc
   rcases hw with rfl | rfl
   ·refine ap cu.at_ ⟨rfl,_,⟨rfl,rfl⟩,M0,b,A,V,l,n,x,j,c,rfl,cu,hc,b,A,V,_,_,rfl,cu.b,cu.w.bd,cu.g.lim (by omega),.chg j c _ _ hc (.talks [c.cr,x] (by show 2≤100; decide)),fun M1 A1 eb st bd=>?_⟩
    exact ⟨M1,.refl,q M1 A1 _ ((cu.after (.chg j c _ _ hc (.talks [c.cr,x] (by show 2≤100; decide))) eb st bd).mono (by omega)) st rfl⟩
   ·exact ⟨M0,b,A,V,l,n,x,j,c,rfl,cu,by omega,hc,fun M' A' V' c1 st e=>⟨M',.refl,q M' A' V' (c1.mono (by omega)) st e⟩⟩
end
end Z
namespace Z
open PySem PySem.Spec PyProof.Rows L2 L3
section
variable {P:Program} {w:World} {K:PySem.W.Frag} {mg:Str→Option Value} {base:Heap} {a:Ad}
theorem rZ (G:Gl K mg a):iw P w K mg base (CX1 P w) 1 a.f_NoDeed_init a.fd_NoDeed_init ["self","word"] (ic K "word") :=
 uO G.fn_NoDeed_init lD fun cdv A outer s H E=>qL (wo (pv 0) (pv 1))
theorem z7 (G:Gl K mg a):zh P w K mg base 11 a.f_do a.fd_do ["board","deed"] (At a):=by
 have C_refusal:=pT (P:=P) (w:=w) (base:=base) G
 have C_act:=yC (P:=P) (w:=w) (base:=base) G
 have C_NoDeed_init:=rZ (P:=P) (w:=w) (base:=base) G
 refine zZ G.fn_do sS (fun ds M Q R h=>?_) (fun cdv A outer s H E R hr hR=>⟨_,(aj (aG (i:=2) sS.nd rfl (Or.inl rfl) (ay C_refusal (hr.mono (by first | decide | omega)) rfl G.mg_refusal G.kp_refusal G.b_refusal (ae (aa 0 (pv 0)) (ae (aa 1 (pv 1)) ai))))
 (aj (aL (aA (hu9 hr) (aa 2 (pv 2)) eB)
 (ak (rJ G.xn_NoDeed C_NoDeed_init (hr.mono (by first | decide | omega)) G.b_NoDeed_init G.xs_NoDeed G.xf_NoDeed rfl G.mg_NoDeed hR (ae (aa 2 (pv 2)) ai)))
 aD)
 (aj (aG (i:=3) sS.nd rfl (Or.inl rfl) (aP bW rfl G.no_len bL (ae (aw (aa 0 (pv 0))) ai)))
 (aj (aE (ay C_act (hr.mono (by first | decide | omega)) rfl G.mg_act G.kp_act G.b_act (ae (aa 0 (pv 0)) (ae (aa 1 (pv 1)) ai))))
 (ak (aB (dh (aw (aa 0 (pv 0))) (dQ (aa 3 (pv 3))) dN))))))),?_⟩)
 ·obtain ⟨M0,b,A,V,l,n,e,rfl,_⟩:=h
  rfl
 ·rintro ds M Q ⟨M0,b,A,V,l,n,e,rfl,cu,hn,hp,hg,hd,rr⟩
  refine ⟨A,V,l,e,by rw [cu.b],cu.rd (by omega),cu.g.nw,hp,hg,?_⟩
  have deed:∀ Q':Mp→Prop,(∀ M' A' V',Cur a M0 M' b A' V' l (n + 5)→(∀ r,Q (.ref r) M')→Q' M')→wS a M0 M b A V l n e Q':=fun Q' hq=>by
   rcases hd with ⟨e1,q⟩ | ⟨y,z,k,x,v,e1,hv,tg,nx,hx,q⟩ | ⟨wd,x,i,e1,hw,q⟩
   ·exact .inl ⟨e1,fun M' A' V' c1 st e=>hq M' A' V' c1 (q M' A' V' c1 st e)⟩
   ·exact .inr (.inl ⟨y,z,k,x,v,e1,hv,tg,nx,hx,fun M' A' V' c1 st e f=>hq M' A' V' c1 (q M' A' V' c1 st e f)⟩)
   ·exact .inr (.inr ⟨wd,x,i,e1,hw,fun M' A' V' c1 st e=>hq M' A' V' c1 (q M' A' V' c1 st e)⟩)
  have okc:inR V e→fE (gL (oh ze (mH (zx "log" (v3 0)) om)) (hW 3)) (fE (xf (oh (uZ a) (mH (v3 0) (mH (v3 1) om)))) (zJ (s3 (zx "log" (v3 0)) (xk (v3 3)) qB))) { nx:=fun _ M'=>∃ M'',L3.Sub M'' M'∧Q .non M'',rt:=fun d M'=>∃ M'',L3.Sub M'' M'∧Q d M'' } [some (.ref b),some e,some .non,none] M:=fun hr0=>by
   refine ap cu.at_ (af rfl (af cu.w.bd.lo ?_))
   refine ⟨M0,b,A,V,l,n,e,rfl,cu,hn,hr0,deed _ fun M' A' V' c1 q=>?_⟩
   exact ap c1.at_ (af rfl (af c1.w.bd.lo fun p hp=>⟨M',.new hp,q p⟩))
  rcases id hd with ⟨rfl,q⟩ | ⟨y,z,k,x,v,rfl,hv,tg,nx,hx,q⟩ | ⟨wd,x,i,rfl,hw,q⟩
  ·exact .inl ⟨rfl,okc fun _ _ _ h=>by cases h⟩
  ·exact .inr (.inl ⟨y,z,v,rfl,hv,okc (fun wd x i h=>by cases h),fun w0=>⟨rfl,rr⟩⟩)
  ·refine .inr (.inr ⟨wd,x,i,rfl,hw,fun w0=>⟨rfl,rr⟩,fun c i0 hc _=>okc fun wd' x' i' h=>?_⟩)
   cases h
   have:=(List.getElem?_eq_some_iff.mp hc).1
   exact ⟨i0,by omega⟩
theorem wq (G:Gl K mg a):Fn3 P w K mg base 12 a.f_law_done a.fd_law_done ["_law_board","_law_deed"] (wP a):=by
 have C_do:=z7 (P:=P) (w:=w) (base:=base) G
 refine aR G.fn_law_done ib (fun ds M Q h=>?_) (fun cdv A outer s H E hr=>⟨_,(aj (aG (i:=2) ib.nd rfl (Or.inl rfl) kI)
 (aj (we (tN C_do (hr.mono (by first | decide | omega)) rfl G.mg_do G.kp_do G.b_do (ae (aa 0 (pv 0)) (ae (aa 1 (pv 1)) ai))) rfl rfl rfl G.mg_NoDeed (fun ev E' =>
 (ak (aG (i:=2) ib.nd rfl (Or.inl rfl) kI))))
 (ak (aB (aa 2 (pv 2)))))),?_⟩)
 ·obtain ⟨M0,b,A,V,l,n,e,rfl,_⟩:=h
  rfl
 ·rintro ds M Q ⟨M0,b,A,V,l,n,e,rfl,cu,hn,hp,hg,hd,qf⟩
  refine ⟨fun C M'=>C=a.c_NoDeed∧M=M',?_,?_⟩
  ·refine ⟨M0,b,A,V,l,n,e,rfl,cu,hn,hp,hg,?_,rfl,rfl⟩
   rcases hd with ⟨e1,q⟩ | ⟨y,z,k,x,v,e1,hv,tg,nx,hx,q⟩ | ⟨wd,x,i,e1,hw,q⟩
   ·exact .inl ⟨e1,fun M' A' V' c1 st e r=>⟨M',.refl,q M' A' V' c1 st e⟩⟩
   ·exact .inr (.inl ⟨y,z,k,x,v,e1,hv,tg,nx,hx,fun M' A' V' c1 st e f r=>⟨M',.refl,q M' A' V' c1 st e f⟩⟩)
   ·exact .inr (.inr ⟨wd,x,i,e1,hw,fun M' A' V' c1 st e r=>⟨M',.refl,q M' A' V' c1 st e⟩⟩)
  ·rintro C M' ⟨rfl,rfl⟩
   exact ⟨G.ex_NoDeed_NoDeed,M,.refl,qf⟩
end
end Z
namespace Z
open PySem PySem.Spec PyProof.Rows L2 L3
def fJ (g:dl):Bool:=g.2.1 == ("turns":Str)
def ge (l:aM):List (Str × Int):=(l.groups.filter fJ).map fun g=>(g.1,0)
def V0 (p:Addr) (h:Int) (l:aM):BdV:=⟨p,h,0,[],[],ge l,[]⟩
def m9 (a:Ad):Sp3:=fun ds M Q=>∃ b p h,∃ l:aM,ds=[.ref b,.ref p,.int h]∧M b=some (.ins a.c_Board [])∧dR a M p l∧nK l∧p ≠ b∧∀ M' A,A.b=b→dm b M M'→(∀ x∈A.foot,x=b∨M x=none)→az a M' A (V0 p h l)→Q .non M'
def uu (g:D):Bool:=match g with
 | .tup (_ :: .str m :: _)=>m == "turns"
 | _=>false
def qR (d:D):D:=.tup [nG d,.int 0]
theorem pI (gs:List dl):((gs.map br).filter uu).map qR=(gs.filter fJ).map fun g=>D.tup [.str g.1,.int 0]:=by
 rw [List.filter_map,List.map_map]
 rfl
theorem rX (l:aM):((l.groups.filter fJ).map fun g=>((Sum.inr g.1:Key),D.int 0))=bC (ge l):=by
 unfold bC ge
 rw [List.map_map]
 rfl
section
variable {P:Program} {w:World} {K:PySem.W.Frag} {mg:Str→Option Value} {base:Heap} {a:Ad}
theorem uH (G:Gl K mg a):Fn3 P w K mg base 1 a.f_Board_init a.fd_Board_init ["self","plan","hour"] (m9 a):=by
 refine aR G.fn_Board_init lM (fun ds M Q h=>?_) (fun cdv A outer s H E hr=>⟨_,(aj (bc (aa 0 (pv 0)) (aa 1 (pv 1)))
 (aj (bc (aa 0 (pv 0)) (aa 2 (pv 2)))
 (aj (bc (aa 0 (pv 0)) ao)
 (aj (bc (aa 0 (pv 0)) (de ai))
 (aj (bc (aa 0 (pv 0)) (de ai))
 (aj (bc (aa 0 (pv 0)) (ba (kg rfl) rfl G.no_dict ki (ae (bV rfl (c9 (ix:=[none]) (N':=["group"]) (by kernel_rfl)) (bM (aw (aa 1 (pv 1)))) (fun C s0 H0 ex=>(aF (i:=0) (show List.Nodup (["group"]:List Str) by decide +kernel) rfl (Or.inl rfl))) (fun C s0 H0 ex=>(gK (aA (hu9 hr) (aC (aa 0 (pv 0)) ao) ar))) (fun C s0 H0 ex=>(aK (ae (aC (aa 0 (pv 0)) ao) (ae ao ai))))) ai)))
 (aj (bc (aa 0 (pv 0)) (ba fk rfl G.no_list fm (ae (aw (aa 1 (pv 1))) ai)))
 (ak (bc (aa 0 (pv 0)) (de ai)))))))))),?_⟩)
 ·obtain ⟨b,p,h,l,rfl,_⟩:=h
  rfl
 ·rintro ds M Q ⟨b,p,h,l,rfl,hb,⟨ph,gr,ws,on,pr,gd,i1,i2,i3,i4,i5,i6,i7⟩,ok,nbp,q⟩
  have hz:sizeLine=16777216:=sizeLine_eq
  have l2:=ok.g3
  refine ap hb ⟨G.na_Board_plan,by show 0 < 1000; decide,?_⟩
  have k1:dm b M (au M b (.ins a.c_Board [("plan",.ref p)])):=.put
  have b1:au M b (.ins a.c_Board [("plan",.ref p)]) b=some (.ins a.c_Board [("plan",.ref p)]):=aZ
  show fE _ _ _ _ (au M b (.ins a.c_Board [("plan",.ref p)]))
  generalize au M b (.ins a.c_Board [("plan",.ref p)])=N1 at k1 b1 ⊢
  refine ap b1 ⟨G.na_Board_hour,by show 1 < 1000; decide,?_⟩
  have k2:=k1.trans (dm.put (p:=b) (c:=.ins a.c_Board [("plan",.ref p),("hour",.int h)]))
  have b2:au N1 b (.ins a.c_Board [("plan",.ref p),("hour",.int h)]) b=some (.ins a.c_Board [("plan",.ref p),("hour",.int h)]):=aZ
  show fE _ _ _ _ (au N1 b (.ins a.c_Board [("plan",.ref p),("hour",.int h)]))
  generalize au N1 b (.ins a.c_Board [("plan",.ref p),("hour",.int h)])=N2 at k2 b2 ⊢
  refine ap b2 ⟨G.na_Board_turn,by show 2 < 1000; decide,?_⟩
  have k3:=k2.trans (dm.put (p:=b) (c:=.ins a.c_Board [("plan",.ref p),("hour",.int h),("turn",.int 0)]))
  have b3:au N2 b (.ins a.c_Board [("plan",.ref p),("hour",.int h),("turn",.int 0)]) b=some (.ins a.c_Board [("plan",.ref p),("hour",.int h),("turn",.int 0)]):=aZ
  show fE _ _ _ _ (au N2 b (.ins a.c_Board [("plan",.ref p),("hour",.int h),("turn",.int 0)]))
  generalize au N2 b (.ins a.c_Board [("plan",.ref p),("hour",.int h),("turn",.int 0)])=N3 at k3 b3 ⊢
  clear k1 k2 b1 b2
  refine ⟨few rfl,fun ca hca=>?_⟩
  obtain ⟨n4,e4,k4,c4,b4⟩:=dF (fs':=[("plan",.ref p),("hour",.int h),("turn",.int 0),("calls",.ref ca)]) (c:=.lst []) b3 hca
  refine ap e4 ⟨G.na_Board_calls,by show 3 < 1000; decide,?_⟩
  show fE _ _ _ _ (au (au N3 ca (.lst [])) b (.ins a.c_Board [("plan",.ref p),("hour",.int h),("turn",.int 0),("calls",.ref ca)]))
  generalize au (au N3 ca (.lst [])) b (.ins a.c_Board [("plan",.ref p),("hour",.int h),("turn",.int 0),("calls",.ref ca)])=N4 at k4 c4 b4 ⊢
  have kk4:=k3.trans k4
  have z1:M ca=none:=cI k3 b3 hca
  have lc4:lstM N4 ca=some []:=dB c4
  refine ⟨few rfl,fun le hle=>?_⟩
  obtain ⟨n5,e5,k5,c5,b5⟩:=dF (fs':=[("plan",.ref p),("hour",.int h),("turn",.int 0),("calls",.ref ca),("legs",.ref le)]) (c:=.lst []) b4 hle
  refine ap e5 ⟨G.na_Board_legs,by show 4 < 1000; decide,?_⟩
  show fE _ _ _ _ (au (au N4 le (.lst [])) b (.ins a.c_Board [("plan",.ref p),("hour",.int h),("turn",.int 0),("calls",.ref ca),("legs",.ref le)]))
  generalize au (au N4 le (.lst [])) b (.ins a.c_Board [("plan",.ref p),("hour",.int h),("turn",.int 0),("calls",.ref ca),("legs",.ref le)])=N5 at k5 c5 b5 ⊢
  have kk5:=kk4.trans k5
  have z2:M le=none:=cI kk4 b4 hle
  have le5:lstM N5 le=some []:=dB c5
  have mcl:le ≠ ca:=fun z=>by rw [z,bo lc4] at hle; cases hle
  have lc5:=k5.lst (aI lc4 b4) lc4
  have p5:=kk5 _ _ nbp i1
  have g5:=kk5.lst (aI i3 hb) i3
  clear k3 k4 k5 kk4 lc4 c4 c5 e4 e5 b3 b4
  refine ap p5 (af rfl (af g5 ?_))
  refine dP (f:=qR) (t:=uu) g5 _ [] _ (by rw [List.length_map]; simp only [List.length_nil]; omega) (fun d hd k hk=>?_) (fun d hd _ k hk=>?_) fun q1 hq1=>?_
  ·obtain ⟨v,_,rfl⟩:=List.mem_map.mp hd
   exact hk
  ·obtain ⟨v,_,rfl⟩:=List.mem_map.mp hd
   exact ⟨few rfl,hk⟩
  rw [List.nil_append,pI]
  have sq1:=L3.Sub.new (c:=.lst ((l.groups.filter fJ).map fun g=>D.tup [.str g.1,.int 0])) hq1
  refine af av (af (fM (fun g:dl=>g.1) (fun _=>D.int 0) _) ⟨gH (List.Nodup.sublist (List.Sublist.map _ List.filter_sublist) (List.Nodup.sublist (List.sublist_append_right _ _) ok.nd)),fun nx hnx=>?_⟩)
  have z3:M nx=none:=cI kk5 b5 (sq1.none hnx)
  obtain ⟨n6,e6,k6,c6,b6⟩:=dF (fs':=[("plan",.ref p),("hour",.int h),("turn",.int 0),("calls",.ref ca),("legs",.ref le),("nexts",.ref nx)]) (c:=.dk ((l.groups.filter fJ).map fun g=>((Sum.inr g.1:Key),D.int 0))) (sq1 _ _ b5) hnx
  refine ap e6 ⟨G.na_Board_nexts,by show 5 < 1000; decide,?_⟩
  have k6:=sq1.keep.trans k6
  have eput:putD "nexts" (.ref nx) [("plan",.ref p),("hour",.int h),("turn",.int 0),("calls",.ref ca),("legs",.ref le)]=([("plan",.ref p),("hour",.int h),("turn",.int 0),("calls",.ref ca),("legs",.ref le),("nexts",.ref nx)]:List (Str × D)):=rfl
  rw [eput]
  generalize au (au (au N5 q1 (.lst ((l.groups.filter fJ).map fun g=>D.tup [.str g.1,.int 0]))) nx (.dk ((l.groups.filter fJ).map fun g=>((Sum.inr g.1:Key),D.int 0)))) b (.ins a.c_Board [("plan",.ref p),("hour",.int h),("turn",.int 0),("calls",.ref ca),("legs",.ref le),("nexts",.ref nx)])=N6 at k6 b6 c6 ⊢
  have x6:dkM N6 nx=some ((l.groups.filter fJ).map fun g=>((Sum.inr g.1:Key),D.int 0)):=iF c6
  have kk6:=kk5.trans k6
  have lc6:=k6.lst (aI lc5 b5) lc5
  have le6:=k6.lst (aI le5 b5) le5
  have p6:=kk6 _ _ nbp i1
  have o6:=kk6.lst (aI i5 hb) i5
  clear kk5 k6 lc5 p5 g5 e6 c6
  refine ap p6 (af rfl (af o6 fun on2 hon=>?_))
  have z4:M on2=none:=cI kk6 b6 hon
  obtain ⟨n7,e7,k7,c7,b7⟩:=dF (fs':=[("plan",.ref p),("hour",.int h),("turn",.int 0),("calls",.ref ca),("legs",.ref le),("nexts",.ref nx),("on",.ref on2)]) (c:=.lst []) b6 hon
  refine ap e7 ⟨G.na_Board_on,by show 6 < 1000; decide,?_⟩
  have eput:putD "on" (.ref on2) [("plan",.ref p),("hour",.int h),("turn",.int 0),("calls",.ref ca),("legs",.ref le),("nexts",.ref nx)]=([("plan",.ref p),("hour",.int h),("turn",.int 0),("calls",.ref ca),("legs",.ref le),("nexts",.ref nx),("on",.ref on2)]:List (Str × D)):=rfl
  rw [eput]
  generalize au (au N6 on2 (.lst [])) b (.ins a.c_Board [("plan",.ref p),("hour",.int h),("turn",.int 0),("calls",.ref ca),("legs",.ref le),("nexts",.ref nx),("on",.ref on2)])=N7 at k7 b7 c7 ⊢
  have kk7:=kk6.trans k7
  have lc7:=k7.lst (aI lc6 b6) lc6
  have le7:=k7.lst (aI le6 b6) le6
  have x7:=k7.dk (kY x6 b6) x6
  have lo7:lstM N7 on2=some []:=dB c7
  refine ⟨few rfl,fun lg hlg=>?_⟩
  obtain ⟨n8,e8,k8,c8,b8⟩:=dF (fs':=gF (.ref p) h 0 ca le nx on2 lg) (c:=.lst []) b7 hlg
  refine ap e8 ⟨G.na_Board_log,by show 7 < 1000; decide,_,.refl,?_⟩
  have apart:∀ {N:Mp} {x y:Addr} {ds:List D},N x=none→lstM N y=some ds→x ≠ y:=fun {N x y ds} h1 h2 z=>by
   have:=bo h2
   rw [← z,h1] at this
   cases this
  have y5:=cI kk7 b7 hlg
  refine q _ ⟨b,ca,le,nx,on2,lg,[]⟩ rfl (kk7.trans k8) (fun x hx=>?_) ⟨b8,k8.lst (aI lc7 b7) lc7,k8.lst (aI le7 b7) le7,?_,k8.lst (aI lo7 b7) lo7,dB c8,rfl,fun i k c e=>by simp at e,?_,List.nodup_cons.mpr ⟨List.not_mem_nil,List.nodup_nil⟩⟩
  ·have hx:x∈[b,nx,ca,le,on2,lg]:=by
    unfold BdA.foot BdA.lists at hx
    simpa using hx
   simp only [List.mem_cons,List.not_mem_nil,or_false] at hx
   rcases hx with rfl | rfl | rfl | rfl | rfl | rfl
   ·exact .inl rfl
   ·exact .inr z3
   ·exact .inr z1
   ·exact .inr z2
   ·exact .inr z4
   ·exact .inr y5
  ·show dkM _ nx=some (bC (ge l))
   rw [← rX]
   exact k8.dk (kY x7 b7) x7
  ·have m1:=apart hlg lc7
   have m2:=apart hlg le7
   have m3:=apart hlg lo7
   have m4:=apart hon lc6
   have m5:=apart hon le6
   show [ca,le,on2,lg].Nodup
   simp only [List.nodup_cons,List.mem_cons,List.not_mem_nil,or_false,not_or,not_false_eq_true,List.nodup_nil,and_true]
   exact ⟨⟨Ne.symm mcl,Ne.symm m4,Ne.symm m1⟩,⟨Ne.symm m5,Ne.symm m2⟩,Ne.symm m3⟩
end
end Z
namespace Z
open PySem PySem.Spec PyProof.Rows L2 L3
def vM:List Int:=[1,1,2,2,3]
def vG:List Int:=[0,1,1,2,5,9]
def o4 (t:List Int) (i:Int):Int:=t.getD i.toNat 0
def gl (s:Int) (i:Nat):fh:=(fV s (0 + (i:Nat)),o4 vM (fj (s + 17 * (0 + (i:Nat)) * (0 + (i:Nat))) 16807 5),o4 vG (fj (s + 17 * (0 + (i:Nat)) * (0 + (i:Nat))) 39373 6))
def eM (s m:Int):Nat:=(2 + fj s 48271 (m - 1)).toNat
def fz (s m:Int):List fh:=(List.range (eM s m)).map (gl s)
theorem oV {ts:List Int} {i:Int} (h0:0≤i) (h1:i < ts.length):atI (ts.map D.int) i=some (D.int (o4 ts i)):=by
 obtain ⟨n,rfl⟩:=Int.eq_ofNat_of_zero_le h0
 have hn':n < ts.length:=by omega
 refine io ?_
 rw [List.getElem?_map,List.getElem?_eq_getElem hn']
 simp [o4,hn']
theorem tO {n:Nat} {pre post:List D} {d:D} (e:pre ++ d :: post=(List.range n).map fun i=>D.int (0 + (i:Nat))):d=.int (0 + (pre.length:Nat))∧pre.length < n:=by
 have h:((List.range n).map fun i=>D.int (0 + (i:Nat)))[pre.length]?=some d:=by rw [← e]; simp
 have hl:pre.length < n:=by
  have:=(List.getElem?_eq_some_iff.mp h).1
  simpa using this
 rw [List.getElem?_map,List.getElem?_range hl] at h
 exact ⟨(Option.some.inj h).symm,hl⟩
theorem uc {α β:Type} (f:Nat→α) (g:α→β) (n:Nat):((List.range n).map f).map g ++ [g (f n)]=((List.range (n + 1)).map f).map g:=by
 rw [List.range_succ,List.map_append,List.map_append]
 rfl
def qe:Sp3:=fun ds M Q=>∃ s m,ds=[.int s,.int m]∧2≤m∧m≤100∧∀ q,M q=none→Q (.ref q) (au M q (.lst ((fz s m).map bI)))
theorem pX {s m:Int} (h2:2≤m) (h:m≤100):eM s m≤100∧2≤eM s m:=by
 have d0:=dD (c:=s) (f:=48271) (m:=m - 1) (by omega)
 have d1:=dC (c:=s) (f:=48271) (m:=m - 1) (by omega)
 unfold eM
 omega
section
variable {P:Program} {w:World} {K:PySem.W.Frag} {mg:Str→Option Value} {base:Heap} {a:Ad}
theorem pP (G:Gl K mg a):Fn3 P w K mg base 2 a.f_law_phones a.fd_law_phones ["_law_seed","_law_most"] qe:=by
 have C_law_draw:=kq (P:=P) (w:=w) (base:=base) G
 have C_law_word:=qM (P:=P) (w:=w) (base:=base) G
 refine aR G.fn_law_phones fA (fun ds M Q h=>?_) (fun cdv A outer s H E hr=>⟨_,(aj (aG (i:=2) fA.nd rfl (Or.inl rfl) (de ai))
 (aj (ie PassesOwn.never rfl (mF rfl G.no_range (ae (bt ao (ay C_law_draw (hr.mono (by first | decide | omega)) rfl G.mg_law_draw G.kp_law_draw G.b_law_draw (ae (aa 0 (pv 0)) (ae ao (ae (bt (aa 1 (pv 1)) ao) ai))))) ai)) (aF (i:=3) fA.nd rfl (Or.inl rfl))
 (aj (aG (i:=4) fA.nd rfl (Or.inl rfl) (aC (aK (ae ao (ae ao (ae ao (ae ao (ae ao ai)))))) (ay C_law_draw (hr.mono (by first | decide | omega)) rfl G.mg_law_draw G.kp_law_draw G.b_law_draw (ae (bt (aa 0 (pv 0)) (bt (bt ao (aa 3 (pv 3))) (aa 3 (pv 3)))) (ae ao (ae ao ai))))))
 (ak (aE (cP (aa 2 (pv 2)) (ae (aK (ae (ay C_law_word (hr.mono (by first | decide | omega)) rfl G.mg_law_word G.kp_law_word G.b_law_word (ae (aa 0 (pv 0)) (ae (aa 3 (pv 3)) ai))) (ae (aa 4 (pv 4)) (ae (aC (aK (ae ao (ae ao (ae ao (ae ao (ae ao (ae ao ai))))))) (ay C_law_draw (hr.mono (by first | decide | omega)) rfl G.mg_law_draw G.kp_law_draw G.b_law_draw (ae (bt (aa 0 (pv 0)) (bt (bt ao (aa 3 (pv 3))) (aa 3 (pv 3)))) (ae ao (ae ao ai))))) ai)))) ai))))))
 (ak (aB (aa 2 (pv 2)))))),?_⟩)
 ·obtain ⟨s,m,rfl,_⟩:=h
  rfl
 ·rintro ds M Q ⟨s,m,rfl,h2,h100,q⟩
  have hz:sizeLine=16777216:=sizeLine_eq
  have d0:=dD (c:=s) (f:=48271) (m:=m - 1) (by omega)
  have d1:=dC (c:=s) (f:=48271) (m:=m - 1) (by omega)
  have nl:=(pX (s:=s) h2 h100).1
  refine ⟨few rfl,fun r hr=>⟨s,_,_,rfl,by show 0 < m - 1; omega,rfl,⟨?_,?_⟩,?_⟩⟩
  ·show -(2 ^ 62)≤2 + fj s 48271 (m - 1)
   omega
  ·show 2 + fj s 48271 (m - 1) < 2 ^ 62
   omega
  refine jI ((List.range (eM s m)).map fun i=>D.int (0 + (i:Nat))) (fun pre δ M'=>M'=au M r (.lst (((List.range pre.length).map (gl s)).map bI))∧∃ x y,δ=[some (.int s),some (.int m),some (.ref r),x,y]) (fun _ _ _ _=>trivial) _ [] _ _ rfl ⟨rfl,none,none,rfl⟩ ?_ ?_
  ·rintro pre d post e δ M' ⟨rfl,x,y,rfl⟩ nx hnx
   obtain ⟨rfl,hlt⟩:=tO e
   generalize hi:pre.length=i at hlt hnx ⊢
   have cm:oR (17 * (0 + (i:Int))) (0 + (i:Int)):=.inr ⟨by omega,by omega⟩
   have c17:oR 17 (0 + (i:Int)):=.inl ⟨by decide,by decide⟩
   have t5:atI [D.int 1,.int 1,.int 2,.int 2,.int 3] (fj (s + 17 * (0 + (i:Int)) * (0 + (i:Int))) 16807 5)=some (.int (gl s i).2.1):=oV (ts:=vM) (dD (by decide)) (dC (by decide))
   have t6:atI [D.int 0,.int 1,.int 1,.int 2,.int 5,.int 9] (fj (s + 17 * (0 + (i:Int)) * (0 + (i:Int))) 39373 6)=some (.int (gl s i).2.2):=oV (ts:=vG) (dD (by decide)) (dC (by decide))
   refine ⟨few rfl,c17,cm,_,_,_,rfl,by decide,af t5 ?_⟩
   refine ⟨by show (lstM _ r).isSome=true; rw [av]; rfl,s,_,rfl,few rfl,c17,cm,_,_,_,rfl,by decide,af t6 ⟨few rfl,af av ⟨?_,?_⟩⟩⟩
   ·rw [List.length_map,List.length_map,List.length_range]
    omega
   ·refine hnx _ _ ⟨?_,_,_,rfl⟩
    rw [sA,List.length_append,hi]
    show au M r (.lst (_ ++ [bI (gl s i)]))=_
    rw [uc]
    rfl
  ·rintro δ M' ⟨rfl,x,y,rfl⟩
   refine ⟨_,.refl,?_⟩
   rw [List.length_map,List.length_range]
   exact q r hr
end
theorem kt (x:Array Nat):∀ (n:Nat) (acc:Array Nat),((List.replicate n x).foldl (· ++ ·) acc).toList=acc.toList ++ (List.replicate n x.toList).flatten
 | 0,acc=>by simp
 | n + 1,acc=>by
  rw [List.replicate_succ,List.foldl_cons,kt x n (acc ++ x),List.replicate_succ,List.flatten_cons,Array.toList_append,List.append_assoc]
theorem nN (c:Nat):∀ n:Nat,(List.replicate n [c]).flatten=List.replicate n c
 | 0=>rfl
 | n + 1=>by rw [List.replicate_succ,List.flatten_cons,nN c n,List.replicate_succ]; rfl
theorem mh (i n:Int):(iU (eD i) n).cps.toList=List.replicate n.toNat (97 + i.toNat):=by
 show ((List.replicate n.toNat (eD i).cps).foldl (· ++ ·) #[]:Array Nat).toList=_
 rw [kt]
 show [] ++ (List.replicate n.toNat [97 + i.toNat]).flatten=_
 rw [List.nil_append,nN]
theorem ik (s v:Int):(fV s v).cps.toList=List.replicate (eP s).toNat (97 + (s / 36 % 26).toNat) ++ (97 + ((s / 936 + v) % 26).toNat) :: List.replicate (size s - 1 - eP s).toNat (97 + (s / 36 % 26).toNat):=by
 show ((iU (eD (s / 36 % 26)) (eP s)).cps ++ (eD ((s / 936 + v) % 26)).cps ++ (iU (eD (s / 36 % 26)) (size s - 1 - eP s)).cps).toList=_
 rw [Array.toList_append,Array.toList_append,mh,mh]
 show _ ++ [97 + ((s / 936 + v) % 26).toNat] ++ _=_
 rw [List.append_assoc]
 rfl
theorem jh (s v:Int):1≤(fV s v).length∧(fV s v).length≤6:=by
 have e:(fV s v).length=(fV s v).cps.toList.length:=by simp [Str.length]
 rw [e,ik,List.length_append,List.length_cons,List.length_replicate,List.length_replicate]
 have h1:=nR s
 have h2:=qu s
 have h3:0≤eP s:=Int.emod_nonneg _ (by omega)
 have h4:eP s < size s:=Int.emod_lt_of_pos _ h1
 omega
theorem tW {i:Int} (h0:0≤i) (h1:i < 26):lK ⟨#[97 + i.toNat]⟩ eV=true:=by
 obtain ⟨n,rfl⟩:=Int.eq_ofNat_of_zero_le h0
 have hn:n < 26:=by omega
 have key:∀ n:_root_.Fin 26,lK ⟨#[97 + n.val]⟩ eV=true:=by decide +kernel
 exact key ⟨n,hn⟩
theorem jC (s v:Int):eQ (fV s v)=true:=by
 obtain ⟨h1,h2⟩:=jh s v
 unfold eQ
 rw [decide_eq_true (show (1:Int)≤(fV s v).length by omega),decide_eq_true (show ((fV s v).length:Int)≤6 by omega),Bool.true_and,Bool.true_and,List.all_eq_true]
 intro c hc
 rw [ik] at hc
 have k1:=tW (Int.emod_nonneg (s / 36) (show (26:Int) ≠ 0 by decide)) (Int.emod_lt_of_pos (s / 36) (by decide))
 have k2:=tW (Int.emod_nonneg (s / 936 + v) (show (26:Int) ≠ 0 by decide)) (Int.emod_lt_of_pos (s / 936 + v) (by decide))
 rcases List.mem_append.mp hc with z | z
 ·rw [List.eq_of_mem_replicate z]; exact k1
 ·rcases List.mem_cons.mp z with z | z
  ·rw [z]; exact k2
  ·rw [List.eq_of_mem_replicate z]; exact k1
theorem kG {s u v:Int} (hu:0≤u) (hu':u < 26) (hv:0≤v) (hv':v < 26) (e:fV s u=fV s v):u=v:=by
 have e':(fV s u).cps.toList=(fV s v).cps.toList:=by rw [e]
 rw [ik,ik] at e'
 have:=(List.append_cancel_left e')
 have:=(List.cons.inj this).1
 have a1:=Int.emod_nonneg (s / 936 + u) (show (26:Int) ≠ 0 by decide)
 have a2:=Int.emod_nonneg (s / 936 + v) (show (26:Int) ≠ 0 by decide)
 have h:(s / 936 + u) % 26=(s / 936 + v) % 26:=by omega
 omega
theorem tH {ss:List Str} {x:Str} (h:x∈ss):Bk ss x:=List.any_eq_true.mpr ⟨x,h,by simp⟩
theorem nB {row:List Str} {i:Int} (h0:0≤i) (h1:i < row.length):at0 row i∈row:=by
 obtain ⟨n,rfl⟩:=Int.eq_ofNat_of_zero_le h0
 have hn:n < row.length:=by omega
 have:at0 row (n:Int)=row[n]:=by simp [at0,hn]
 rw [this]
 exact List.getElem_mem hn
theorem vn {row:List Str} {i j:Int} (nd:row.Nodup) (h0:0≤i) (h1:i < row.length) (g0:0≤j) (g1:j < row.length) (e:at0 row i=at0 row j):i=j:=by
 obtain ⟨n,rfl⟩:=Int.eq_ofNat_of_zero_le h0
 obtain ⟨k,rfl⟩:=Int.eq_ofNat_of_zero_le g0
 have hn:n < row.length:=by omega
 have hk:k < row.length:=by omega
 have e1:at0 row (n:Int)=row[n]:=by simp [at0,hn]
 have e2:at0 row (k:Int)=row[k]:=by simp [at0,hk]
 rw [e1,e2] at e
 have pw:=List.pairwise_iff_getElem.mp nd
 rcases Nat.lt_trichotomy n k with z | z | z
 ·exact absurd e (pw n k hn hk z)
 ·rw [z]
 ·exact absurd e.symm (pw k n hk hn z)
theorem jE {α:Type} (f:Nat→α) (n:Nat) (h:∀ i j,i < n→j < n→f i=f j→i=j):((List.range n).map f).Nodup:=by
 refine List.pairwise_iff_getElem.mpr fun i j hi hj hlt e=>?_
 rw [List.length_map,List.length_range] at hi hj
 rw [List.getElem_map,List.getElem_map,List.getElem_range,List.getElem_range] at e
 have:=h i j hi hj e
 omega
theorem jm {row:List Str} {c m:Int} (hr:row ≠ []) (hm:0 < m):1≤gg row c m∧(gg row c m:Int)≤m∧gg row c m≤row.length:=by
 have hl:0 < row.length:=List.length_pos_iff.mpr hr
 have d0:=dD (c:=c) (f:=40692) (m:=if (row.length:Int) < m then (row.length:Int) else m) (by split <;> omega)
 have d1:=dC (c:=c) (f:=40692) (m:=if (row.length:Int) < m then (row.length:Int) else m) (by split <;> omega)
 unfold gg
 by_cases h:(row.length:Int) < m
 ·rw [if_pos h] at d0 d1 ⊢
  omega
 ·rw [if_neg h] at d0 d1 ⊢
  omega
theorem jq {row:List Str} {c:Int} (hr:row ≠ []) (j:Nat):0≤(fj c 69621 row.length + (0 + (j:Nat))) % (row.length:Int)∧(fj c 69621 row.length + (0 + (j:Nat))) % (row.length:Int) < row.length:=by
 have hl:0 < row.length:=List.length_pos_iff.mpr hr
 exact ⟨Int.emod_nonneg _ (by omega),Int.emod_lt_of_pos _ (by omega)⟩
theorem wV {d n i j:Int} (hn:0 < n) (hi:0≤i) (hi':i < n) (hj:0≤j) (hj':j < n) (e:(d + i) % n=(d + j) % n):i=j:=by
 have h1:=Int.emod_add_mul_ediv (d + i) n
 have h2:=Int.emod_add_mul_ediv (d + j) n
 generalize (d + i) / n=a at h1
 generalize (d + j) / n=b at h2
 have h3:i - j=n * (a - b):=by rw [Int.mul_sub]; omega
 rcases Int.lt_trichotomy (a - b) 0 with z | z | z
 ·have:n * (a - b)≤n * (-1):=Int.mul_le_mul_of_nonneg_left (by omega) (by omega)
  omega
 ·rw [z] at h3; omega
 ·have:n * 1≤n * (a - b):=Int.mul_le_mul_of_nonneg_left (by omega) (by omega)
  omega
theorem qm {row:List Str} {c m:Int} (nd:row.Nodup) (hr:row ≠ []) (hm:0 < m):(eI row c m).Nodup:=by
 have hl:0 < row.length:=List.length_pos_iff.mpr hr
 obtain ⟨_,_,l3⟩:=jm (c:=c) hr hm
 refine jE _ _ fun i j hi hj e=>?_
 obtain ⟨a0,a1⟩:=jq (c:=c) hr i
 obtain ⟨b0,b1⟩:=jq (c:=c) hr j
 have e':=vn nd a0 a1 b0 b1 e
 have:=wV (d:=fj c 69621 row.length) (n:=row.length) (i:=0 + (i:Nat)) (j:=0 + (j:Nat)) (by omega) (by omega) (by omega) (by omega) (by omega) e'
 omega
theorem pc {row:List Str} {c m k:Int} (nd:row.Nodup) (hr:row ≠ []) (hm:0 < m) (hk:m≤k):d4 (eI row c m) row k=true:=by
 obtain ⟨l1,l2,l3⟩:=jm (c:=c) hr hm
 have el:(eI row c m).length=gg row c m:=by unfold eI; rw [List.length_map,List.length_range]
 unfold d4
 rw [el,decide_eq_true (show (1:Int)≤gg row c m by omega),decide_eq_true (show (gg row c m:Int)≤k by omega),jv (qm nd hr hm),Bool.true_and,Bool.true_and,Bool.true_and,List.all_eq_true]
 intro x hx
 unfold eI at hx
 obtain ⟨j,_,rfl⟩:=List.mem_map.mp hx
 obtain ⟨a0,a1⟩:=jq (c:=c) hr j
 exact tH (nB a0 a1)
theorem tS {row:List Str} {c m:Int} (hr:row ≠ []) (hm:0 < m) (h:m≤100):(eI row c m).length < 4000:=by
 obtain ⟨l1,l2,l3⟩:=jm (c:=c) hr hm
 have el:(eI row c m).length=gg row c m:=by unfold eI; rw [List.length_map,List.length_range]
 omega
theorem uN (s:Int) (i:Nat):nz (gl s i):=by
 have t0:=dD (c:=s + 17 * (0 + (i:Nat)) * (0 + (i:Nat))) (f:=16807) (m:=5) (by decide)
 have t1:=dC (c:=s + 17 * (0 + (i:Nat)) * (0 + (i:Nat))) (f:=16807) (m:=5) (by decide)
 have u0:=dD (c:=s + 17 * (0 + (i:Nat)) * (0 + (i:Nat))) (f:=39373) (m:=6) (by decide)
 have u1:=dC (c:=s + 17 * (0 + (i:Nat)) * (0 + (i:Nat))) (f:=39373) (m:=6) (by decide)
 have a:1≤(gl s i).2.1∧(gl s i).2.1≤3:=by
  show 1≤o4 vM (fj (s + 17 * (0 + (i:Nat)) * (0 + (i:Nat))) 16807 5)∧o4 vM (fj (s + 17 * (0 + (i:Nat)) * (0 + (i:Nat))) 16807 5)≤3
  generalize fj (s + 17 * (0 + (i:Nat)) * (0 + (i:Nat))) 16807 5=d at t0 t1
  have:d=0∨d=1∨d=2∨d=3∨d=4:=by omega
  rcases this with z | z | z | z | z <;> (subst z; decide)
 have b:0≤(gl s i).2.2∧(gl s i).2.2≤9:=by
  show 0≤o4 vG (fj (s + 17 * (0 + (i:Nat)) * (0 + (i:Nat))) 39373 6)∧o4 vG (fj (s + 17 * (0 + (i:Nat)) * (0 + (i:Nat))) 39373 6)≤9
  generalize fj (s + 17 * (0 + (i:Nat)) * (0 + (i:Nat))) 39373 6=d at u0 u1
  have:d=0∨d=1∨d=2∨d=3∨d=4∨d=5:=by omega
  rcases this with z | z | z | z | z | z <;> (subst z; decide)
 exact ⟨Nat.le_trans (jh s (0 + (i:Nat))).2 (by decide),jC _ _,a.1,a.2,b.1,b.2⟩
theorem tI (s m:Int):(fz s m).map (·.1)=(List.range (eM s m)).map fun i=>fV s (0 + (i:Nat)):=by
 unfold fz
 rw [List.map_map]
 rfl
def cO (s:Int):List Str:=(fz s 8).map (·.1)
def cJ (s:Int):List dl:=[(fV s 8,("turns":Str),eI (cO s) s 4),(fV s 9,("all":Str),(cO s).take 4)] ++ if (s % 2 == 0)=true then [(fV s 10,("turns":Str),eI (cO s) (s + 11) 4)] else []
def bj (s:Int):aM:=⟨fz s 8,cJ s⟩
theorem jM (s:Int):(cO s).Nodup∧2≤(cO s).length∧(cO s).length≤8:=by
 have d1:=dC (c:=s) (f:=48271) (m:=8 - 1) (by decide)
 have d0:=dD (c:=s) (f:=48271) (m:=8 - 1) (by decide)
 have p8:eM s 8≤8∧2≤eM s 8:=by unfold eM; omega
 have e:=tI s 8
 unfold cO
 rw [e]
 refine ⟨jE _ _ fun i j hi hj e=>?_,?_,?_⟩
 ·have:=kG (by omega) (by omega) (by omega) (by omega) e
  omega
 ·rw [List.length_map,List.length_range]; omega
 ·rw [List.length_map,List.length_range]; omega
theorem oj {row:List Str} (nd:row.Nodup) (h:2≤row.length):d4 (row.take 4) row 4=true:=by
 unfold d4
 rw [decide_eq_true (show (1:Int)≤((row.take 4).length:Nat) by rw [List.length_take]; omega),decide_eq_true (show (((row.take 4).length:Nat):Int)≤4 by rw [List.length_take]; omega),jv (List.Nodup.sublist (List.take_sublist 4 row) nd),Bool.true_and,Bool.true_and,Bool.true_and,List.all_eq_true]
 exact fun x hx=>tH (List.mem_of_mem_take hx)
theorem pb (s:Int):∀ g∈cJ s,km (cO s) g∧g.2.2 ≠ []∧g.2.2.length≤4∧∀ x∈g.2.2,x∈cO s:=by
 obtain ⟨nd,o2,o8⟩:=jM s
 have ne:cO s ≠ []:=fun z=>by rw [z] at o2; cases o2
 have so:∀ c v:Int,0≤v→km (cO s) (fV s v,"turns",eI (cO s) c 4)∧eI (cO s) c 4 ≠ []∧(eI (cO s) c 4).length≤4∧∀ x∈eI (cO s) c 4,x∈cO s:=fun c v _=>by
  have sl:=jm (row:=cO s) (c:=c) (m:=4) ne (by decide)
  have lw:(eI (cO s) c 4).length=gg (cO s) c 4:=by unfold eI; rw [List.length_map,List.length_range]
  refine ⟨⟨Nat.le_trans (jh s v).2 (by decide),jC _ _,.inr rfl,tS ne (by decide) (by decide),pc nd ne (by decide) (by decide)⟩,fun z=>?_,by omega,fun x hx=>?_⟩
  ·rw [z] at lw
   have:0=gg (cO s) c 4:=lw
   omega
  ·obtain ⟨j,_,rfl⟩:=List.mem_map.mp hx
   obtain ⟨i0,i1⟩:=jq (c:=c) ne j
   exact nB i0 i1
 intro g hg
 unfold cJ at hg
 rcases List.mem_append.mp hg with z | z
 ·simp only [List.mem_cons,List.not_mem_nil,or_false] at z
  rcases z with rfl | rfl
  ·exact so s 8 (by decide)
  ·refine ⟨⟨Nat.le_trans (jh s 9).2 (by decide),jC _ _,.inl rfl,?_,oj nd o2⟩,fun z=>?_,?_,fun x hx=>List.mem_of_mem_take hx⟩
   ·show ((cO s).take 4).length < 4000
    rw [List.length_take]; omega
   ·have z1:((cO s).take 4).length=0:=congrArg List.length z
    rw [List.length_take] at z1
    omega
   ·show ((cO s).take 4).length≤4
    rw [List.length_take]; omega
 ·split at z
  ·simp only [List.mem_cons,List.not_mem_nil,or_false] at z
   subst z
   exact so (s + 11) 10 (by decide)
  ·cases z
theorem pG (s:Int):(cJ s).map (·.1)=(List.range (if (s % 2 == 0)=true then 3 else 2)).map fun i=>fV s (8 + (i:Nat)):=by
 unfold cJ
 split <;> rfl
theorem nX (s:Int):nK (bj s):=by
 obtain ⟨nd,o2,o8⟩:=jM s
 have ol:(cO s).length=(fz s 8).length:=by unfold cO; rw [List.length_map]
 have g3:(cJ s).length≤3:=by
  have:=congrArg List.length (pG s)
  rw [List.length_map,List.length_map,List.length_range] at this
  rw [this]
  split <;> omega
 refine ⟨by show 1≤(fz s 8).length; omega,by show (fz s 8).length≤8; omega,fun p hp=>?_,g3,fun g hg=>(pb s g hg).1,?_⟩
 ·obtain ⟨i,_,rfl⟩:=List.mem_map.mp hp
  exact uN _ i
 ·show (cO s ++ (cJ s).map (·.1)).Nodup
  have d1:=dC (c:=s) (f:=48271) (m:=8 - 1) (by decide)
  have p8:eM s 8≤8:=by unfold eM; omega
  rw [List.nodup_append]
  refine ⟨nd,?_,fun x hx y hy e=>?_⟩
  ·rw [pG]
   refine jE _ _ fun i j hi hj e=>?_
   have h3:(if (s % 2 == 0)=true then 3 else 2)≤3:=by split <;> omega
   have:=kG (by omega) (by omega) (by omega) (by omega) e
   omega
  ·rw [pG] at hy
   unfold cO at hx
   rw [tI] at hx
   obtain ⟨i,hi,rfl⟩:=List.mem_map.mp hx
   obtain ⟨j,hj,rfl⟩:=List.mem_map.mp hy
   have hi:=List.mem_range.mp hi
   have hj:=List.mem_range.mp hj
   have h3:(if (s % 2 == 0)=true then 3 else 2)≤3:=by split <;> omega
   have:=kG (by omega) (by omega) (by omega) (by omega) e
   omega
end Z
namespace Z
open PySem PySem.Spec PyProof.Rows L2 L3
def yQ (a:Ad):Sp3:=fun ds M Q=>∃ L k c x,ds=[.ref k.p,.str x]∧dA a M L k c∧xZ c∧Q (.bl (c.hasB x)) M
def sI (a:Ad):Sp3:=fun ds M Q=>∃ M0 b A V l n x v r,ds=[.ref b,.ref r,.str x]∧Cur a M0 M b A V l n∧n≤900∧lstM M r=some (l.phones.map bI)∧l.phones.length≤100∧l.phone x=some v∧Q (.bl (d3 l V x)) M
def xc (a:Ad):Sp3:=fun ds M Q=>∃ M0 b A V l n r g pd qs y k,ds=[.ref b,.ref r,br g,.ref pd,.str y]∧Cur a M0 M b A V l n∧n≤900∧lstM M r=some (l.phones.map bI)∧l.phones.length≤100∧g.2.2.length≤100∧(∀ x∈g.2.2,∃ v,l.phone x=some v)∧l.phonesOf g.1=g.2.2∧l.manner g.1=g.2.1∧dkM M pd=some (bC qs)∧((g.2.1 == "turns")=true→eE (bC qs) (.inr g.1)=some (.int (k:Nat))∧k≤g.2.2.length)∧Q (iy l V y g.1 k) M
def Bg (e:D):Prop:=e=.tup [.str "turn"]∨∃ wd x i,e=.tup [.str wd,.str x,.int i]∧(wd="answer"∨wd="hang")
def rE (a:Ad):Sp3:=fun ds M Q=>∃ M0 b A V l n c o own,ds=[.ref b,.int c,.ref o]∧Cur a M0 M b A V l n∧n≤900∧lstM M o=some (List.map D.str own)∧own ≠ []∧∀ e,Bg e→Q e M
theorem pz {ps:List fh} {x:Str} {v:fh} (h:ps.find? (fun p=>decide (p.1=x))=some v):∃ r,(ps.filter fun p=>p.1 == x).map (fun p=>D.int p.2.1)=.int v.2.1 :: r:=by
 induction ps with
 | nil=>cases h
 | cons p r ih =>
  by_cases e:p.1=x
  ·rw [List.find?_cons,decide_eq_true e] at h
   cases h
   rw [List.filter_cons_of_pos (by simpa using e)]
   exact ⟨_,rfl⟩
  ·rw [List.find?_cons,decide_eq_false e] at h
   rw [List.filter_cons_of_neg (by simpa using e)]
   exact ih h
def uj (x:Str):D→Bool
 | .tup (.str y :: _)=>y == x
 | _=>false
def ue:D→D
 | .tup [_,n,_]=>n
 | _=>.non
def xl (l:aM) (V:BdV) (c:Str):D→Bool
 | .str x=>!(x == c) && d3 l V x
 | _=>false
theorem qg (l:aM) (V:BdV) (c z:Str) (n:Nat):((df (l.phonesOf z) n).filter fun x=>hasS (eO l V c z) x)=(df (l.phonesOf z) n).filter fun x=>!(x == c) && d3 l V x:=by
 refine List.filter_congr fun x hx=>?_
 have hm:x∈l.phonesOf z:=by
  unfold df at hx
  rcases List.mem_append.mp hx with q | q
  ·exact List.mem_of_mem_drop q
  ·exact List.mem_of_mem_take q
 unfold hasS eO
 rw [Bool.eq_iff_iff,List.any_eq_true]
 constructor
 ·rintro ⟨y,hy,e⟩
  have e:y=x:=by simpa using e
  subst e
  exact (List.mem_filter.mp hy).2
 ·exact fun h=>⟨x,List.mem_filter.mpr ⟨hm,h⟩,by simp⟩
section
variable {P:Program} {w:World} {K:PySem.W.Frag} {mg:Str→Option Value} {base:Heap} {a:Ad}
theorem zc (G:Gl K mg a):Fn3 P w K mg base 1 a.f_law_in a.fd_law_in ["_law_call","_law_phone"] (yQ a):=by
 refine aR G.fn_law_in rC (fun ds M Q h=>?_) (fun cdv A outer s H E hr=>⟨_,(aj (aL (aA (hu9 hr) (aw (aa 0 (pv 0))) ar)
 (ak (aB (qS (bN (hu9 hr) (aa 1 (pv 1)) (aw (aa 0 (pv 0)))) (gm (bN (hu9 hr) (aa 1 (pv 1)) (aw (aa 0 (pv 0))))))))
 aD)
 (aj (aL (aA (hu9 hr) (aw (aa 0 (pv 0))) ar)
 (ak (aB (bN (hu9 hr) (aa 1 (pv 1)) (aw (aa 0 (pv 0))))))
 aD)
 (ak (aB (bN (hu9 hr) (aa 1 (pv 1)) (aw (aa 0 (pv 0)))))))),?_⟩)
 ·obtain ⟨L,k,c,x,rfl,_⟩:=h
  rfl
 ·rintro ds M Q ⟨L,k,c,x,rfl,⟨ad,md,h1,h2,h3,h4,_⟩,st,q⟩
  unfold aH.hasB at q
  refine ap h1 (af rfl ?_)
  refine dc (c:=c.st == "rings") (fun g=>?_) (fun g=>?_)
  ·rw [if_pos g] at q
   refine ap h1 (af rfl (dc (c:=x == c.cr) (fun g2=>?_) (fun g2=>?_)))
   ·rw [g2] at q
    exact ⟨M,.refl,q⟩
   ·rw [show (x == c.cr)=false from Bool.eq_false_iff.mpr g2,Bool.false_or] at q
    exact ap h1 (af rfl (jQ h3 ⟨M,.refl,q⟩))
  ·rw [if_neg g] at q
   have nw:(c.st == "waits")=false:=by
    rcases st with e | e | ⟨e,_⟩ <;> rw [e] <;> rfl
   rw [nw] at q
   refine ap h1 (af rfl (qc (c:=c.st == "waits") nw ?_))
   refine ap h1 (af rfl (jQ h4 ⟨M,.refl,?_⟩))
   rcases st with e | e | ⟨e,e2⟩
   ·exact absurd (by rw [e]; rfl) g
   ·rw [e] at q
    exact q
   ·rw [e2]
    rw [e,e2] at q
    exact q
theorem sK (G:Gl K mg a):Fn3 P w K mg base 2 a.f_law_free a.fd_law_free ["_law_board","_law_phones_here","_law_name"] (sI a):=by
 have C_law_in:=zc (P:=P) (w:=w) (base:=base) G
 refine aR G.fn_law_free jR (fun ds M Q h=>?_) (fun cdv A outer s H E hr=>⟨_,(aj (aG (i:=3) jR.nd rfl (Or.inl rfl) (aC (bV rfl (c9 (ix:=[none,some 2]) (N':=["_law_phone","_law_name"]) (by kernel_rfl)) (bM (aa 1 (pv 1))) (fun C s0 H0 ex=>(aF (i:=0) (show List.Nodup (["_law_phone","_law_name"]:List Str) by decide +kernel) rfl (Or.inl rfl))) (fun C s0 H0 ex=>(gK (aA (hu9 hr) (aC (aa 0 (pv 0)) ao) (aa 1 (pv 1))))) (fun C s0 H0 ex=>(aC (aa 0 (pv 0)) ao))) ao))
 (ak (aB (bN (hu9 hr) (aP bW rfl G.no_len bL (ae (bV rfl (c9 (ix:=[none,some 2]) (N':=["_law_call","_law_name"]) (by kernel_rfl)) (bM (aw (aa 0 (pv 0)))) (fun C s0 H0 ex=>(aF (i:=0) (show List.Nodup (["_law_call","_law_name"]:List Str) by decide +kernel) rfl (Or.inl rfl))) (fun C s0 H0 ex=>(gK (gR (ay C_law_in (hr.mono (by first | decide | omega)) rfl G.mg_law_in G.kp_law_in G.b_law_in (ae (aa 0 (pv 0)) (ae (aa 1 (pv 1)) ai)))))) (fun C s0 H0 ex=>(aa 0 (pv 0)))) ai)) (aa 3 (pv 3)))))),?_⟩)
 ·obtain ⟨M0,b,A,V,l,n,x,v,r,rfl,_⟩:=h
  rfl
 ·rintro ds M Q ⟨M0,b,A,V,l,n,x,v,r,rfl,cu,hn,lr,hp,hv,q⟩
  have hz:sizeLine=16777216:=sizeLine_eq
  obtain ⟨r0,er⟩:=pz hv
  have bd:=cu.w.bd
  refine af lr (dP (f:=ue) (t:=uj x) lr _ [] _ (by rw [List.length_map]; simp only [List.length_nil]; omega) (fun d hd k hk=>?_) (fun d hd _ k hk=>?_) fun p hp1=>?_)
  ·obtain ⟨y,hy,rfl⟩:=List.mem_map.mp hd
   exact hk
  ·obtain ⟨y,hy,rfl⟩:=List.mem_map.mp hd
   exact hk
  have ef:[] ++ (List.filter (uj x) (l.phones.map bI)).map ue=.int v.2.1 :: r0:=by
   rw [List.nil_append,List.filter_map,List.map_map]
   exact er
  rw [ef]
  have t:=L3.Sub.new (c:=.lst (.int v.2.1 :: r0)) hp1
  refine af av (af (qF _ _) ?_)
  have cu':=cu.sub t
  generalize au M p (.lst (.int v.2.1 :: r0))=M1 at t cu' ⊢
  have bd:=cu'.w.bd
  refine ap cu'.at_ (af rfl (af bd.ca ?_))
  have hc:=cu.g.ca
  refine il (A.cs.map fun k=>D.ref k.p) (fun pre acc δ M'=>M1=M'∧acc.length=((V.calls.take pre.length).filter (·.hasB x)).length∧∃ y,δ=[y,some (.str x)]) (fun _ _ _ M' j=>by rw [← j.1]; exact bd.ca) _ [] [] _ _ rfl ?_ ⟨rfl,rfl,none,rfl⟩ ?_ ?_
  ·rw [List.length_map,bd.len]
   simp only [List.length_nil]
   omega
  ·rintro pre d post e acc δ M' ⟨rfl,ha,y,rfl⟩ k k2 hk hk2
   obtain ⟨ka,c,e1,e2,rfl,hc,et⟩:=jg bd e
   rw [List.length_append,List.length_singleton,et,List.filter_append] at hk hk2
   refine ⟨_,ka,c,x,rfl,hc,cu.g.st c (cZ e2),?_⟩
   refine dc (c:=c.hasB x) (fun g=>?_) (fun g=>?_)
   ·refine hk _ _ _ ⟨rfl,?_,_,rfl⟩
    rw [List.length_append,List.length_append,ha,List.filter_cons_of_pos (by exact g)]
    rfl
   ·refine hk2 _ _ ⟨rfl,?_,_,rfl⟩
    rw [List.length_append,ha,List.filter_cons_of_neg (by exact g)]
    rfl
  ·rintro acc δ M' ⟨rfl,ha,y,rfl⟩ p2 hp2
   refine af av ⟨M,t.trans (.new hp2),?_⟩
   rw [List.length_map,bd.len,List.take_length] at ha
   rw [ha]
   have e:d3 l V x=decide ((oQ V x:Int) < v.2.1):=by
    unfold d3
    rw [hv]
    rfl
   rw [e] at q
   exact q
theorem v6 (G:Gl K mg a):Fn3 P w K mg base 3 a.f_law_due a.fd_law_due ["_law_board","_law_phones_here","_law_group","_law_places","_law_caller"] (xc a):=by
 have C_law_free:=sK (P:=P) (w:=w) (base:=base) G
 refine aR G.fn_law_due eC (fun ds M Q h=>?_) (fun cdv A outer s H E hr=>⟨_,(aj (tP (aa 2 (pv 2)) (fQ (n:=3) rfl (bn (aF (i:=5) eC.nd rfl (Or.inl rfl)) (bn (aF (i:=6) eC.nd rfl (Or.inl rfl)) (bn (aF (i:=7) eC.nd rfl (Or.inl rfl)) eX)))))
 (aj (aG (i:=8) eC.nd rfl (Or.inl rfl) (ba fk rfl G.no_list fm (ae (aa 7 (pv 7)) ai)))
 (aj (aL (aA (hu9 hr) (aa 6 (pv 6)) ar)
 (ak (aG (i:=8) eC.nd rfl (Or.inl rfl) (bt (dh (aa 8 (pv 8)) (dQ (im (hu9 hr) (aa 3 (pv 3)) (aa 5 (pv 5)))) dN) (dh (aa 8 (pv 8)) dN (dQ (im (hu9 hr) (aa 3 (pv 3)) (aa 5 (pv 5))))))))
 aD)
 (aj (fN (i:=9) eC.nd rfl (Or.inl rfl) rfl (c9 (ix:=[none,some 4,some 0,some 1]) (N':=["_law_member","_law_caller","_law_board","_law_phones_here"]) (by kernel_rfl)) (bM (aa 8 (pv 8))) (fun C s0 H0 ex=>(aF (i:=0) (show List.Nodup (["_law_member","_law_caller","_law_board","_law_phones_here"]:List Str) by decide +kernel) rfl (Or.inl rfl))) (fun C s0 H0 ex=>(gK (W3.b3 (gN (aA (hu9 hr) (aa 0 (pv 0)) (aa 1 (pv 1))) (gM (gR (ay C_law_free (hr.mono (by first | decide | omega)) rfl G.mg_law_free G.kp_law_free G.b_law_free (ae (aa 2 (pv 2)) (ae (aa 3 (pv 3)) (ae (aa 0 (pv 0)) ai)))))))))) (fun C s0 H0 ex=>(aa 0 (pv 0))))
 (aj (aL (aA (hu9 hr) (aa 9 (pv 9)) (de ai))
 (ak (aB (aK (ae ar (ae (aa 5 (pv 5)) ai)))))
 aD)
 (ak (aB (aK (ae ar (ae (aa 5 (pv 5)) (ae (ba eS rfl G.no_tuple eL (ae (Af (aA (hu9 hr) (aa 6 (pv 6)) ar) (dh (aa 9 (pv 9)) dN (dQ ao)) (aa 9 (pv 9))) ai)) ai))))))))))),?_⟩)
 ·obtain ⟨M0,b,A,V,l,n,r,g,pd,qs,y,k,rfl,_⟩:=h
  rfl
 ·rintro ds M Q ⟨M0,b,A,V,l,n,r,g,pd,qs,y,k,rfl,cu,hn,lr,hp,hg,hm,ep,em,dq,hk,q⟩
  have hz:sizeLine=16777216:=sizeLine_eq
  refine ⟨rfl,fun p hp1=>?_⟩
  dsimp only [hW,qo,uF]
  have t1:=L3.Sub.new (c:=.lst (g.2.2.map D.str)) hp1
  have l1:lstM (au M p (.lst (g.2.2.map D.str))) p=some (g.2.2.map D.str):=av
  generalize au M p (.lst (g.2.2.map D.str))=M1 at t1 l1 ⊢
  let row:List Str:=if (g.2.1 == "turns")=true then df g.2.2 k else g.2.2
  refine cut (t:=oM _ _ _) (fun δ M'=>L3.Sub M M'∧∃ p',lstM M' p'=some (row.map D.str)∧δ=[some (.ref b),some (.ref r),some (br g),some (.ref pd),some (.str y),some (.str g.1),some (.str g.2.1),some (.tup (g.2.2.map D.str)),some (.ref p'),none]) (fun nx h=>?_) ?_
  ·refine dc (c:=g.2.1 == "turns") (fun gt=>?_) (fun gt=>?_)
   ·obtain ⟨hk1,hk2⟩:=hk gt
    have er:row=df g.2.2 k:=if_pos gt
    refine af (t1.dk dq) (af hk1 (af l1 fun p2 hp2=>?_))
    rw [uz _ k (by rw [List.length_map]; exact hk2),← List.map_drop]
    have t2:=L3.Sub.new (c:=.lst ((g.2.2.drop k).map D.str)) hp2
    have l2:lstM (au M1 p2 (.lst ((g.2.2.drop k).map D.str))) p2=some ((g.2.2.drop k).map D.str):=av
    generalize au M1 p2 (.lst ((g.2.2.drop k).map D.str))=M2 at t2 l2 ⊢
    refine af (t2.dk (t1.dk dq)) (af hk1 (af (t2.lst l1) fun p3 hp3=>?_))
    rw [ju,← List.map_take]
    have t3:=L3.Sub.new (c:=.lst ((g.2.2.take k).map D.str)) hp3
    have l3:lstM (au M2 p3 (.lst ((g.2.2.take k).map D.str))) p3=some ((g.2.2.take k).map D.str):=av
    generalize au M2 p3 (.lst ((g.2.2.take k).map D.str))=M3 at t3 l3 ⊢
    refine af (t3.lst l2) (af l3 ⟨by rw [List.length_map,List.length_map,List.length_drop,List.length_take]; omega,fun p4 hp4=>?_⟩)
    rw [← List.map_append]
    refine h _ _ ⟨t1.trans (t2.trans (t3.trans (.new hp4))),p4,?_,rfl⟩
    rw [er]
    exact av
   ·have er:row=g.2.2:=if_neg gt
    refine h _ _ ⟨t1,p,?_,rfl⟩
    rw [er]
    exact l1
  rintro δ M2 ⟨s2,p',lp,rfl⟩
  have cu2:=cu.sub s2
  have rm:∀ x∈row,x∈g.2.2:=fun x hx=>by
   by_cases gt:(g.2.1 == "turns")=true
   ·have er:row=df g.2.2 k:=if_pos gt
    rw [er] at hx
    unfold df at hx
    rcases List.mem_append.mp hx with z | z
    ·exact List.mem_of_mem_drop z
    ·exact List.mem_of_mem_take z
   ·have er:row=g.2.2:=if_neg gt
    rw [er] at hx
    exact hx
  have rl:row.length≤200:=by
   by_cases gt:(g.2.1 == "turns")=true
   ·have er:row=df g.2.2 k:=if_pos gt
    rw [er]
    unfold df
    rw [List.length_append,List.length_drop,List.length_take]
    omega
   ·have er:row=g.2.2:=if_neg gt
    rw [er]
    omega
  have eR:cK l V y g.1 k=if (g.2.1 == "turns")=true then (row.filter fun x=>!(x == y) && d3 l V x).take 1 else row.filter fun x=>!(x == y) && d3 l V x:=by
   by_cases gt:(g.2.1 == "turns")=true
   ·have er:row=df g.2.2 k:=if_pos gt
    rw [if_pos gt]
    unfold cK
    rw [em,if_pos gt,qg,ep,er]
   ·have er:row=g.2.2:=if_neg gt
    rw [if_neg gt]
    unfold cK eO
    rw [em,if_neg gt,ep,er]
  clear_value row
  refine cut (t:=gL _ _) (fun δ M'=>L3.Sub M2 M'∧∃ f,lstM M' f=some ((row.filter fun x=>!(x == y) && d3 l V x).map D.str)∧δ=[some (.ref b),some (.ref r),some (br g),some (.ref pd),some (.str y),some (.str g.1),some (.str g.2.1),some (.tup (g.2.2.map D.str)),some (.ref p'),some (.ref f)]) (fun nx h=>?_) ?_
  ·refine af lp (dP (f:=id) (t:=xl l V y) lp _ [] _ (by rw [List.length_map]; simp only [List.length_nil]; omega) (fun d hd k0 hk0=>?_) (fun d hd _ k0 hk0=>?_) fun f hf=>?_)
   ·obtain ⟨x,hx,rfl⟩:=List.mem_map.mp hd
    obtain ⟨v,hv⟩:=hm x (rm x hx)
    have hk0:k0 (!(x == y) && d3 l V x) M2:=hk0
    cases e:x == y with
    | true =>
     rw [e] at hk0
     exact qc (c:=!(x == y)) (by rw [e]; rfl) hk0
    | false =>
     rw [e] at hk0
     exact o1 (c:=!(x == y)) (by rw [e]; rfl) ⟨M0,b,A,V,l,n,x,v,r,rfl,cu2,hn,s2.lst lr,hp,hv,hk0⟩
   ·obtain ⟨x,hx,rfl⟩:=List.mem_map.mp hd
    exact hk0
   ·have ef:[] ++ (List.filter (xl l V y) (row.map D.str)).map id=(row.filter fun x=>!(x == y) && d3 l V x).map D.str:=by
     rw [List.nil_append,List.map_id,List.filter_map]
     rfl
    rw [ef]
    exact h _ _ ⟨.new hf,f,av,rfl⟩
  rintro δ M3 ⟨s3,f,lf,rfl⟩
  generalize (row.filter fun x=>!(x == y) && d3 l V x)=FR at eR lf
  unfold iy at q
  rw [eR] at q
  refine ⟨few rfl,fun e0 he0=>?_⟩
  have t4:=L3.Sub.new (c:=.lst []) he0
  have l4:lstM (au M3 e0 (.lst [])) e0=some []:=av
  have lf4:=t4.lst lf
  generalize au M3 e0 (.lst [])=M4 at t4 l4 lf4 ⊢
  have s4:=s2.trans (s3.trans t4)
  cases FR with
  | nil =>
   have eq:eqD M4 9 (.ref f) (.ref e0)=some true:=jD lf4 l4 (fun d hd=>by cases hd)
   refine af eq (vQ ⟨few rfl,M,s4,?_⟩)
   have:(if (g.2.1 == "turns")=true then ([]:List Str).take 1 else [])=[]:=by split <;> rfl
   rw [this] at q
   exact q
  | cons x0 r0 =>
   have eq:eqD M4 9 (.ref f) (.ref e0)=some false:=by
    show ((lstM M4 f).bind fun i=>(lstM M4 e0).bind fun j=>if i.length=j.length then di (eqD M4 8) i j else some false)=some false
    rw [lf4,l4]
    rfl
   refine af eq (uL ?_)
   refine dc (c:=g.2.1 == "turns") (fun gt=>?_) (fun gt=>?_)
   ·rw [if_pos gt] at q
    refine af lf4 fun p5 hp5=>af av ⟨few rfl,M,s4.trans (.new hp5),?_⟩
    rw [show L3.gT ((x0 :: r0).map D.str) none (some (1:Int))=((x0 :: r0).take 1).map D.str from (ju _ 1).trans (List.map_take).symm]
    exact q
   ·rw [if_neg gt] at q
    exact af rfl (af lf4 ⟨few rfl,M,s4,q⟩)
theorem sj (G:Gl K mg a):Fn3 P w K mg base 2 a.f_law_other a.fd_law_other ["_law_board","_law_cell","_law_own"] (rE a):=by
 have C_law_draw:=kq (P:=P) (w:=w) (base:=base) G
 refine aR G.fn_law_other fH (fun ds M Q h=>?_) (fun cdv A outer s H E hr=>⟨_,(aj (aG (i:=3) fH.nd rfl (Or.inl rfl) (ay C_law_draw (hr.mono (by first | decide | omega)) rfl G.mg_law_draw G.kp_law_draw G.b_law_draw (ae (aa 1 (pv 1)) (ae ao (ae (bt (aP bW rfl G.no_len bL (ae (aw (aa 0 (pv 0))) ai)) ao) ai)))))
 (aj (aG (i:=4) fH.nd rfl (Or.inl rfl) (aC (aa 2 (pv 2)) (ay C_law_draw (hr.mono (by first | decide | omega)) rfl G.mg_law_draw G.kp_law_draw G.b_law_draw (ae (aa 1 (pv 1)) (ae ao (ae (aP bW rfl G.no_len bL (ae (aa 2 (pv 2)) ai)) ai))))))
 (aj (aL (W3.b3 (gN (aA (hu9 hr) (aa 3 (pv 3)) (aP bW rfl G.no_len bL (ae (aw (aa 0 (pv 0))) ai))) (gN (aA (hu9 hr) (aP bW rfl G.no_len bL (ae (aw (aC (aw (aa 0 (pv 0))) (aa 3 (pv 3)))) ai)) ao) (gM (aA (hu9 hr) (ay C_law_draw (hr.mono (by first | decide | omega)) rfl G.mg_law_draw G.kp_law_draw G.b_law_draw (ae (aa 1 (pv 1)) (ae ao (ae ao ai)))) ao)))))
 (ak (aG (i:=4) fH.nd rfl (Or.inl rfl) (aC (aw (aC (aw (aa 0 (pv 0))) (aa 3 (pv 3)))) ao)))
 aD)
 (ak (aB (aC (aK (ae (aK (ae ar (ae (aa 4 (pv 4)) (ae (aa 3 (pv 3)) ai)))) (ae (aK (ae ar (ae (aa 4 (pv 4)) (ae (aa 3 (pv 3)) ai)))) (ae (aK (ae ar ai)) (ae (aK (ae ar (ae (aa 4 (pv 4)) (ae (aa 3 (pv 3)) ai)))) ai))))) (ay C_law_draw (hr.mono (by first | decide | omega)) rfl G.mg_law_draw G.kp_law_draw G.b_law_draw (ae (aa 1 (pv 1)) (ae ao (ae ao ai)))))))))),?_⟩)
 ·obtain ⟨M0,b,A,V,l,n,c,o,own,rfl,_⟩:=h
  rfl
 ·rintro ds M Q ⟨M0,b,A,V,l,n,c,o,own,rfl,cu,hn,lo,hne,q⟩
  have bd:=cu.w.bd
  have lca:((A.cs.map fun k=>D.ref k.p).length:Int)=V.calls.length:=by rw [List.length_map,bd.len]
  have lown:((own.map D.str).length:Int)=own.length:=by rw [List.length_map]
  have pos:0 < own.length:=List.length_pos_iff.mpr hne
  refine cut (t:=gL _ _) (fun δ M'=>M=M'∧∃ i:Int,0≤i∧δ=[some (.ref b),some (.int c),some (.ref o),some (.int i),none]) (fun nx h=>ap cu.at_ (af rfl (af bd.ca ⟨_,_,_,rfl,by rw [lca]; omega,h _ _ ⟨rfl,_,dD (by rw [lca]; omega),rfl⟩⟩))) ?_
  rintro δ _ ⟨rfl,i,hi,rfl⟩
  refine cut (t:=gL _ _) (fun δ M'=>M=M'∧∃ x:Str,δ=[some (.ref b),some (.int c),some (.ref o),some (.int i),some (.str x)]) (fun nx h=>?_) ?_
  ·refine af lo ⟨_,_,_,rfl,by rw [lown]; omega,af lo ?_⟩
   rw [lown]
   exact af (uk (row:=own) (dD (by omega)) (dC (by omega))) (h _ _ ⟨rfl,_,rfl⟩)
  rintro δ _ ⟨rfl,x,rfl⟩
  refine cut (t:=oM _ _ _) (fun δ M'=>M=M'∧∃ x:Str,δ=[some (.ref b),some (.int c),some (.ref o),some (.int i),some (.str x)]) (fun nx h=>?_) ?_
  ·refine ap cu.at_ (af rfl (af bd.ca ?_))
   rw [lca]
   refine dc (fun g=>?_) (fun _=>h _ _ ⟨rfl,_,rfl⟩)
   have g:i < V.calls.length:=of_decide_eq_true g
   obtain ⟨j,rfl⟩:=Int.eq_ofNat_of_zero_le hi
   have hj:j < V.calls.length:=by omega
   have hc:V.calls[j]?=some V.calls[j]:=List.getElem?_eq_getElem hj
   generalize V.calls[j]=v at hc
   obtain ⟨ka,ci⟩:=cu.call hc
   obtain ⟨ad,md,h1,h2,h3,h4,n1,n2⟩:=ci.cell
   refine ap cu.at_ (af rfl (af rfl (af bd.ca (af (fO ci.e1) (ap h1 (af rfl (af h3 ?_)))))))
   refine dc (fun g2=>?_) (fun _=>h _ _ ⟨rfl,_,rfl⟩)
   have g2:(0:Int) < ((v.at_.map D.str).length:Int):=of_decide_eq_true g2
   refine ⟨_,_,_,rfl,by decide,dc (fun _=>?_) (fun _=>h _ _ ⟨rfl,_,rfl⟩)⟩
   cases ea:v.at_ with
   | nil=>rw [ea] at g2; exact absurd g2 (by decide)
   | cons x0 r0 =>
    rw [ea] at h3
    exact ap cu.at_ (af rfl (af rfl (af bd.ca (af (fO ci.e1) (ap h1 (af rfl (af h3 (af (qF _ _) (h _ _ ⟨rfl,_,rfl⟩)))))))))
  rintro δ _ ⟨rfl,x,rfl⟩
  have d0:=dD (c:=c) (f:=22695477) (m:=4) (by decide)
  have d1:=dC (c:=c) (f:=22695477) (m:=4) (by decide)
  refine ⟨few rfl,few rfl,few rfl,few rfl,few rfl,⟨_,_,_,rfl,by decide,?_⟩⟩
  generalize fj c 22695477 4=d at d0 d1 ⊢
  have hd:d=0∨d=1∨d=2∨d=3:=by omega
  rcases hd with rfl | rfl | rfl | rfl
  ·exact ⟨M,.refl,q _ (.inr ⟨_,_,_,rfl,.inr rfl⟩)⟩
  ·exact ⟨M,.refl,q _ (.inr ⟨_,_,_,rfl,.inl rfl⟩)⟩
  ·exact ⟨M,.refl,q _ (.inl rfl)⟩
  ·exact ⟨M,.refl,q _ (.inr ⟨_,_,_,rfl,.inr rfl⟩)⟩
end
end Z
namespace Z
open PySem PySem.Spec PyProof.Rows L2 L3
theorem gC (ps:List (Str × Int)) (y:Str):eE (bC ps) (.inr y)=(ps.find? fun p=>decide (p.1=y)).map fun p=>D.int p.2:=ir (fun p:Str × Int=>p.1) (fun p=>D.int p.2) y ps
theorem pe (ps:List (Str × Int)) (z:Str) (n:Int):eE (bC (jJ ps z n)) (.inr z)=some (.int n):=by
 rw [gC]
 unfold jJ
 by_cases h:(ps.any fun p=>decide (p.1=z))=true
 ·rw [if_pos h,List.find?_map]
  have hf:(fun p:Str × Int=>decide (p.1=z)) ∘ (fun p=>if p.1=z then (p.1,n) else p)=fun p=>decide (p.1=z):=by
   funext p
   show decide ((if p.1=z then (p.1,n) else p).1=z)=_
   split <;> rfl
  rw [hf]
  obtain ⟨p,hp,e⟩:=List.any_eq_true.mp h
  cases e2:ps.find? fun p=>decide (p.1=z) with
  | none=>exact absurd e (by have:=List.find?_eq_none.mp e2 p hp; simpa using this)
  | some q =>
   have hq:q.1=z:=by simpa using List.find?_some e2
   show some (D.int (if q.1=z then (q.1,n) else q).2)=_
   rw [if_pos hq]
 ·rw [if_neg h,List.find?_append]
  have:(ps.find? fun p=>decide (p.1=z))=none:=by
   rw [List.find?_eq_none]
   exact fun p hp hz=>h (List.any_eq_true.mpr ⟨p,hp,hz⟩)
  rw [this,Option.none_or,List.find?_cons,decide_eq_true (show (z,n).1=z from rfl)]
  rfl
theorem tX (ps:List (Str × Int)) {y z:Str} (n:Int) (hne:y ≠ z):eE (bC (jJ ps z n)) (.inr y)=eE (bC ps) (.inr y):=by
 rw [gC,gC]
 unfold jJ
 by_cases h:(ps.any fun p=>decide (p.1=z))=true
 ·rw [if_pos h,List.find?_map]
  have hf:(fun p:Str × Int=>decide (p.1=y)) ∘ (fun p=>if p.1=z then (p.1,n) else p)=fun p=>decide (p.1=y):=by
   funext p
   show decide ((if p.1=z then (p.1,n) else p).1=y)=_
   split <;> rfl
  rw [hf]
  cases e2:ps.find? fun p=>decide (p.1=y) with
  | none=>rfl
  | some q =>
   have hq:q.1=y:=by simpa using List.find?_some e2
   show some (D.int (if q.1=z then (q.1,n) else q).2)=some (D.int q.2)
   rw [if_neg (fun z'=>hne (hq.symm.trans z'))]
 ·rw [if_neg h,List.find?_append]
  have:([(z,n)]:List (Str × Int)).find? (fun p=>decide (p.1=y))=none:=by
   rw [List.find?_cons,decide_eq_false (show ¬ (z,n).1=y from fun e=>hne e.symm)]
   rfl
  rw [this,Option.or_none]
def oH (l:aM) (V:BdV) (qs:List (Str × Int)):Prop:=∀ g∈l.groups,(g.2.1 == "turns")=true→∃ k:Nat,eE (bC qs) (.inr g.1)=some (.int (k:Nat))∧eE (bC V.ps) (.inr g.1)=some (.int (k:Nat))∧k≤g.2.2.length
theorem wa {ms:List Str} (x:Str) (h:ms ≠ []):∃ k:Nat,nxP ms x=k∧k≤ms.length:=by
 have hl:0 < ms.length:=List.length_pos_iff.mpr h
 have h0:0≤nxP ms x:=Int.emod_nonneg _ (by omega)
 have h1:nxP ms x < ms.length:=Int.emod_lt_of_pos _ (by omega)
 obtain ⟨k,e⟩:=Int.eq_ofNat_of_zero_le h0
 exact ⟨k,e,by omega⟩
theorem r6 {l:aM} {V V':BdV} {qs:List (Str × Int)} {g:dl} {x:Str} (ag:oH l V qs) (nd:(l.groups.map (·.1)).Nodup) (hg:g∈l.groups) (hne:g.2.2 ≠ []) (ep:l.phonesOf g.1=g.2.2) (em:l.manner g.1=g.2.1) (e:V'.ps=fC l V g.1 x):oH l V' (jJ qs g.1 (nxP g.2.2 x)):=by
 intro g' hg' ht
 obtain ⟨k,k1,k2,k3⟩:=ag g' hg' ht
 rw [e]
 unfold fC
 by_cases eq:g'.1=g.1
 ·have:g'=g:=by
   obtain ⟨i,hi,ei⟩:=List.getElem_of_mem hg'
   obtain ⟨j,hj,ej⟩:=List.getElem_of_mem hg
   have:=nL nd (by rw [List.getElem?_eq_getElem hi,ei]) (by rw [List.getElem?_eq_getElem hj,ej]) eq
   subst this
   rw [← ei,← ej]
  subst this
  obtain ⟨m,m1,m2⟩:=wa x hne
  refine ⟨m,by rw [pe,m1],?_,m2⟩
  rw [em,if_pos ht,ep,pe,m1]
 ·refine ⟨k,by rw [tX _ _ eq]; exact k1,?_,k3⟩
  split
  ·rw [tX _ _ eq]; exact k2
  ·exact k2
theorem kz {l:aM} (nd:(l.groups.map (·.1)).Nodup) {g:dl} (hg:g∈l.groups):l.group g.1=some g:=by
 unfold aM.group
 cases e:l.groups.find? fun h=>decide (h.1=g.1) with
 | none=>exact absurd (List.find?_eq_none.mp e g hg) (by simp)
 | some g' =>
  have h1:g'.1=g.1:=by simpa using List.find?_some e
  have h2:=List.mem_of_find?_eq_some e
  obtain ⟨i,hi,ei⟩:=List.getElem_of_mem h2
  obtain ⟨j,hj,ej⟩:=List.getElem_of_mem hg
  have:=nL nd (by rw [List.getElem?_eq_getElem hi,ei]) (by rw [List.getElem?_eq_getElem hj,ej]) h1
  subst this
  rw [← ei,← ej]
theorem lb {l:aM} {x:Str} (h:x∈l.pn):∃ v,l.phone x=some v:=by
 unfold aM.phone
 cases e:l.phones.find? fun p=>decide (p.1=x) with
 | none =>
  obtain ⟨p,hp,rfl⟩:=List.mem_map.mp h
  exact absurd (List.find?_eq_none.mp e p hp) (by simp)
 | some v=>exact ⟨v,rfl⟩
theorem vq {xs:List D} {x:D}:atI (xs ++ [x]) (-1)=some x:=by
 have e:(xs ++ [x]).length=xs.length + 1:=by rw [List.length_append]; rfl
 have i:ixN (xs ++ [x]).length (-1)=some xs.length:=by
  unfold ixN
  rw [e,if_neg (by decide),if_pos (by omega)]
  congr 1
  omega
 unfold atI
 rw [i,Option.bind_some,List.getElem?_append_right (Nat.le_refl _),Nat.sub_self]
 rfl
theorem pF (s:Int) (p:Addr) (h:Int):oH (bj s) (V0 p h (bj s)) ((cJ s).map fun g=>(g.1,0)):=by
 intro g hg ht
 have nd:((bj s).groups.map (·.1)).Nodup:=List.Nodup.sublist (List.sublist_append_right _ _) (nX s).nd
 refine ⟨0,?_,?_,Nat.zero_le _⟩
 ·rw [gC,List.find?_map]
  have:=kz nd hg
  unfold aM.group at this
  have hf:((fun p:Str × Int=>decide (p.1=g.1)) ∘ fun g:dl=>(g.1,(0:Int)))=fun h=>decide (h.1=g.1):=rfl
  have this:(cJ s).find? (fun h=>decide (h.1=g.1))=some g:=this
  rw [hf,this]
  rfl
 ·show eE (bC (ge (bj s))) (.inr g.1)=_
  rw [gC]
  unfold ge
  rw [List.find?_map]
  have hf:((fun p:Str × Int=>decide (p.1=g.1)) ∘ fun g:dl=>(g.1,(0:Int)))=fun h=>decide (h.1=g.1):=rfl
  rw [hf]
  cases e:((bj s).groups.filter fJ).find? fun h=>decide (h.1=g.1) with
  | none=>exact absurd (List.find?_eq_none.mp e g (List.mem_filter.mpr ⟨hg,ht⟩)) (by simp)
  | some g'=>rfl
end Z
namespace Z
open PySem PySem.Spec PyProof.Rows L2 L3
seal L3.E3 L3.B3 L3.A3 L3.S3 L3.Ss3
def uq:Sp3:=fun ds M Q=>∃ ns:List Int,ds=[.rl (ns.map D.int)]∧ns.length≤63∧Q (.bl true) M
def g8 (ns:List Int) (sd:Int) (r1 r2 rg b pd:Option D) (y:List (Option D)):DSt:=some (.rl (ns.map D.int)) :: some (.int sd) :: r1 :: r2 :: rg :: b :: pd :: y
theorem v9 {es pre post:List D} {d:D} (e:pre ++ d :: post=fY 0 es):∃ x,es[pre.length]?=some x∧d=.tup [.int (pre.length:Nat),x]:=by
 have h:(fY 0 es)[pre.length]?=some d:=by rw [← e]; simp
 rw [jl] at h
 cases q:es[pre.length]? with
 | none=>rw [q] at h; cases h
 | some x =>
  rw [q] at h
  refine ⟨x,rfl,?_⟩
  have:=(Option.some.inj h).symm
  rw [Nat.zero_add] at this
  exact this
structure u7 (a:Ad) (M0 M:Mp) (b pd r5:Addr) (s:Int) (L:List D) (m:Nat):Prop where
 ex:∃ A V n qs,Cur a M0 M b A V (bj s) n∧n≤3 + 5 * m∧dkM M pd=some (bC qs)∧pd ∉ A.foot∧oH (bj s) V qs∧qs.length≤3 + m∧r5 ∉ A.foot
 l5:lstM M r5=some L
theorem iq {A A':BdA} {M M':Mp} {x:Addr} {c:gz} (st:cz A M A' M') (h:x ∉ A.foot) (hx:M x=some c):x ∉ A'.foot:=fun z=>by
 rcases st.2.1 x z with y | y
 ·exact h y
 ·rw [hx] at y; cases y
theorem az.putD {a:Ad} {M M':Mp} {A:BdA} {V:BdV} {x:Addr} {ds:List (Key × D)} (h:az a M A V) (kp:dm x M M') (hx:dkM M x=some ds) (hn:x ∉ A.foot):az a M' A V:=⟨kp _ _ (Ne.symm (kY hx h.at_)) h.at_,kp.lst (Ne.symm (dU hx h.ca)) h.ca,kp.lst (Ne.symm (dU hx h.le)) h.le,kp.dk (fun z=>hn (z ▸ A.in_foot.2.1)) h.nx,kp.lst (Ne.symm (dU hx h.on)) h.on,kp.lst (Ne.symm (dU hx h.lo)) h.lo,h.len,fun i k c e1 e2=>(h.cs i k c e1 e2).keepD kp hx,h.nl,h.np⟩
theorem sZ {M:Mp} {E:D} {q q2:Addr} {z:Str} (hE:js 7 E=true) (h1:lstM M q=some [.tup [.str z,.tup []]]) (h2:lstM M q2=some [.tup [.str z,.tup []]]):eqD M 9 (.tup [E,.ref q]) (.tup [E,.ref q2])=some true:=by
 have e1:eqD M 8 E E=some true:=jd 7 E hE
 have e2:eqD M 8 (.ref q) (.ref q2)=some true:=jD h1 h2 fun d hd=>by
  rw [List.mem_singleton] at hd
  subst hd
  exact jd 6 _ rfl
 show ((eqD M 8 E E).bind fun p=>((eqD M 8 (.ref q) (.ref q2)).bind fun p=>(some true).map fun q=>p && q).map fun q=>p && q).map (fun p=>p && true)=some true
 rw [e1,e2]
 rfl
theorem ml (n:Nat):∀ ss:List Str,(ss.map D.str).all (js (n + 1))=true
 | []=>rfl
 | _ :: r=>by
  rw [List.map_cons,List.all_cons,ml n r]
  rfl
theorem pO (z:Str) (ss:List Str):js 7 (.tup [.str "rings",.str z,.tup (ss.map D.str)])=true:=by
 show ([D.str "rings",.str z,.tup (ss.map D.str)].all (js 6))=true
 have:js 6 (.tup (ss.map D.str))=true:=ml 4 ss
 rw [List.all_cons,List.all_cons,List.all_cons,this]
 rfl
section
variable {P:Program} {w:World} {K:PySem.W.Frag} {mg:Str→Option Value} {base:Heap} {a:Ad}
theorem yK (G:Gl K mg a):Fn3 P w K mg base 13 a.f_law a.fd_law ["_law_script"] uq:=by
 have C_law_at:=Az (P:=P) (w:=w) (base:=base) G
 have C_law_draw:=kq (P:=P) (w:=w) (base:=base) G
 have C_law_word:=qM (P:=P) (w:=w) (base:=base) G
 have C_law_some:=ko (P:=P) (w:=w) (base:=base) G
 have C_law_phones:=pP (P:=P) (w:=w) (base:=base) G
 have C_law_done:=wq (P:=P) (w:=w) (base:=base) G
 have C_law_other:=sj (P:=P) (w:=w) (base:=base) G
 have C_law_due:=v6 (P:=P) (w:=w) (base:=base) G
 have C_route:=oB (P:=P) (w:=w) (base:=base) G
 have C_Board_init:=uH (P:=P) (w:=w) (base:=base) G
 have C_Plan_init:=wD (P:=P) (w:=w) (base:=base) G
 refine aR G.fn_law fi (fun ds M Q h=>?_) (fun cdv A outer s H E hr=>⟨_,(aj (aG (i:=1) fi.nd rfl (Or.inl rfl) (ay C_law_at (hr.mono (by first | decide | omega)) rfl G.mg_law_at G.kp_law_at G.b_law_at (ae (aa 0 (pv 0)) (ae ao ai))))
 (aj (aG (i:=2) fi.nd rfl (Or.inl rfl) (ay C_law_phones (hr.mono (by first | decide | omega)) rfl G.mg_law_phones G.kp_law_phones G.b_law_phones (ae (aa 1 (pv 1)) (ae ao ai))))
 (aj (fN (i:=3) fi.nd rfl (Or.inl rfl) rfl (c9 (ix:=[none]) (N':=["_law_phone"]) (by kernel_rfl)) (bM (aa 2 (pv 2))) (fun C s0 H0 ex=>(aF (i:=0) (show List.Nodup (["_law_phone"]:List Str) by decide +kernel) rfl (Or.inl rfl))) (fun C s0 H0 ex=>dI) (fun C s0 H0 ex=>(aC (aa 0 (pv 0)) ao)))
 (aj (aG (i:=4) fi.nd rfl (Or.inl rfl) (de (ae (aK (ae (ay C_law_word (hr.mono (by first | decide | omega)) rfl G.mg_law_word G.kp_law_word G.b_law_word (ae (aa 1 (pv 1)) (ae ao ai))) (ae ar (ae (ay C_law_some (hr.mono (by first | decide | omega)) rfl G.mg_law_some G.kp_law_some G.b_law_some (ae (aa 3 (pv 3)) (ae (aa 1 (pv 1)) (ae ao ai)))) ai)))) (ae (aK (ae (ay C_law_word (hr.mono (by first | decide | omega)) rfl G.mg_law_word G.kp_law_word G.b_law_word (ae (aa 1 (pv 1)) (ae ao ai))) (ae ar (ae (ba eS rfl G.no_tuple eL (ae (dh (aa 3 (pv 3)) dN (dQ ao)) ai)) ai)))) ai))))
 (aj (aL (aA (hu9 hr) (bt (aa 1 (pv 1)) ao) ao)
 (ak (aE (cP (aa 4 (pv 4)) (ae (aK (ae (ay C_law_word (hr.mono (by first | decide | omega)) rfl G.mg_law_word G.kp_law_word G.b_law_word (ae (aa 1 (pv 1)) (ae ao ai))) (ae ar (ae (ay C_law_some (hr.mono (by first | decide | omega)) rfl G.mg_law_some G.kp_law_some G.b_law_some (ae (aa 3 (pv 3)) (ae (bt (aa 1 (pv 1)) ao) (ae ao ai)))) ai)))) ai))))
 aD)
 (aj (aG (i:=5) fi.nd rfl (Or.inl rfl) (nv G.cl_Board G.mk_Board C_Board_init (hr.mono (by first | decide | omega)) rfl G.mg_Board G.b_Board_init (ae (nv G.cl_Plan G.mk_Plan C_Plan_init (hr.mono (by first | decide | omega)) rfl G.mg_Plan G.b_Plan_init (ae (aa 2 (pv 2)) (ae (aa 4 (pv 4)) (ae (de ai) ai)))) (ae (bt (aa 1 (pv 1)) ao) ai))))
 (aj (aG (i:=6) fi.nd rfl (Or.inl rfl) (ba (kg rfl) rfl G.no_dict ki (ae (bV rfl (c9 (ix:=[none]) (N':=["_law_group"]) (by kernel_rfl)) (bM (aa 4 (pv 4))) (fun C s0 H0 ex=>(aF (i:=0) (show List.Nodup (["_law_group"]:List Str) by decide +kernel) rfl (Or.inl rfl))) (fun C s0 H0 ex=>dI) (fun C s0 H0 ex=>(aK (ae (aC (aa 0 (pv 0)) ao) (ae ao ai))))) ai)))
 (aj (ie PassesOwn.never rfl (fL rfl G.no_enumerate (ae (bt (dh (aa 0 (pv 0)) dN (dQ ao)) (de (ae ao (ae ao ai)))) ai)) (fQ (n:=2) rfl (bn (aF (i:=7) fi.nd rfl (Or.inl rfl)) (bn (aF (i:=8) fi.nd rfl (Or.inl rfl)) eX)))
 (aj (aG (i:=8) fi.nd rfl (Or.inl rfl) (bt (aa 8 (pv 8)) (bt (bt ao (aa 7 (pv 7))) (aa 7 (pv 7)))))
 (aj (aL (aA (hu9 hr) (ay C_law_draw (hr.mono (by first | decide | omega)) rfl G.mg_law_draw G.kp_law_draw G.b_law_draw (ae (aa 8 (pv 8)) (ae ao (ae ao ai)))) ao)
 (aj (aE (ay C_law_done (hr.mono (by first | decide | omega)) rfl G.mg_law_done G.kp_law_done G.b_law_done (ae (aa 5 (pv 5)) (ae (ay C_law_other (hr.mono (by first | decide | omega)) rfl G.mg_law_other G.kp_law_other G.b_law_other (ae (aa 5 (pv 5)) (ae (aa 8 (pv 8)) (ae (aa 3 (pv 3)) ai)))) ai))))
 (ak ou))
 aD)
 (aj (aG (i:=9) fi.nd rfl (Or.inl rfl) (aC (aa 3 (pv 3)) (ay C_law_draw (hr.mono (by first | decide | omega)) rfl G.mg_law_draw G.kp_law_draw G.b_law_draw (ae (aa 8 (pv 8)) (ae ao (ae (aP bW rfl G.no_len bL (ae (aa 3 (pv 3)) ai)) ai))))))
 (aj (aG (i:=10) fi.nd rfl (Or.inl rfl) (aC (aa 4 (pv 4)) (ay C_law_draw (hr.mono (by first | decide | omega)) rfl G.mg_law_draw G.kp_law_draw G.b_law_draw (ae (aa 8 (pv 8)) (ae ao (ae (aP bW rfl G.no_len bL (ae (aa 4 (pv 4)) ai)) ai))))))
 (aj (aG (i:=11) fi.nd rfl (Or.inl rfl) (ay C_law_due (hr.mono (by first | decide | omega)) rfl G.mg_law_due G.kp_law_due G.b_law_due (ae (aa 5 (pv 5)) (ae (aa 2 (pv 2)) (ae (aa 10 (pv 10)) (ae (aa 6 (pv 6)) (ae (aa 9 (pv 9)) ai)))))))
 (aj (aL (aA (hu9 hr) (ay C_route (hr.mono (by first | decide | omega)) rfl G.mg_route G.kp_route G.b_route (ae (aa 5 (pv 5)) (ae (aa 9 (pv 9)) (ae (aC (aa 10 (pv 10)) ao) (ae (de ai) ai))))) (aK (ae (aa 11 (pv 11)) (ae (de (ae (aK (ae (aC (aa 10 (pv 10)) ao) (ae (aK ai) ai))) ai)) ai))))
 (ak (aB kI))
 aD)
 (ak (aL (W3.b3 (gN (aA (hu9 hr) (aC (aa 11 (pv 11)) ao) ar) (gM (gR (ay C_law_done (hr.mono (by first | decide | omega)) rfl G.mg_law_done G.kp_law_done G.b_law_done (ae (aa 5 (pv 5)) (ae (aK (ae ar (ae (aa 9 (pv 9)) (ae (aC (aa 10 (pv 10)) ao) ai)))) ai)))))))
 (aj (aL (aA (hu9 hr) (aw (aC (aw (aa 5 (pv 5))) (mI ao))) (ba fk rfl G.no_list fm (ae (aC (aa 11 (pv 11)) ao) ai)))
 (ak (aB kI))
 aD)
 (ak (qN (hu9 hr) (aa 6 (pv 6)) (aC (aa 10 (pv 10)) ao) (bt (bt (mV (aC (aa 10 (pv 10)) ao) (ae (aC (aC (aa 11 (pv 11)) ao) ao) ai)) ao) (aP bW rfl G.no_len bL (ae (aC (aa 10 (pv 10)) ao) ai))))))
 aD)))))))))
 (ak (aB kI)))))))))),?_⟩)
 ·obtain ⟨ns,rfl,_⟩:=h
  rfl
 ·rintro ds M Q ⟨ns,rfl,hl,q⟩
  have hz:sizeLine=16777216:=sizeLine_eq
  refine cut (t:=gL _ _) (fun δ M'=>M=M'∧∃ sd:Int,δ=g8 ns sd none none none none none [none,none,none,none,none]) (fun nx h=>⟨ns,0,rfl,h _ _ ⟨rfl,_,rfl⟩⟩) ?_
  rintro δ _ ⟨rfl,sd,rfl⟩
  obtain ⟨ond,o2,o8⟩:=jM sd
  have one:cO sd ≠ []:=fun z=>by rw [z] at o2; cases o2
  refine cut (t:=gL _ _) (fun δ M'=>L3.Sub M M'∧∃ r1,lstM M' r1=some ((fz sd 8).map bI)∧δ=g8 ns sd (some (.ref r1)) none none none none [none,none,none,none,none]) (fun nx h=>⟨sd,8,rfl,by decide,by decide,fun p hp=>h _ _ ⟨.new hp,p,av,rfl⟩⟩) ?_
  rintro δ M1 ⟨s1,r1,h1,rfl⟩
  refine cut (t:=gL _ _) (fun δ M'=>L3.Sub M1 M'∧∃ r2,lstM M' r2=some ((cO sd).map D.str)∧δ=g8 ns sd (some (.ref r1)) (some (.ref r2)) none none none [none,none,none,none,none]) (fun nx h=>?_) ?_
  ·have ol:(fz sd 8).length≤8:=by unfold cO at o8; rw [List.length_map] at o8; exact o8
   refine af h1 (cH (f:=nG) h1 _ [] _ (by rw [List.length_map]; simp only [List.length_nil]; omega) (fun d hd k hk=>?_) fun p hp=>?_)
   ·obtain ⟨x,_,rfl⟩:=List.mem_map.mp hd
    exact hk
   ·rw [List.nil_append,iW]
    exact h _ _ ⟨.new hp,p,av,rfl⟩
  rintro δ M2 ⟨s2,r2,h2,rfl⟩
  refine cut (t:=gL _ _) (fun δ M'=>L3.Sub M2 M'∧∃ rg,M2 rg=none∧lstM M' rg=some [br (fV sd 8,"turns",eI (cO sd) sd 4),br (fV sd 9,"all",(cO sd).take 4)]∧δ=g8 ns sd (some (.ref r1)) (some (.ref r2)) (some (.ref rg)) none none [none,none,none,none,none]) (fun nx h=>?_) ?_
  ·refine ⟨sd,8,rfl,r2,sd,4,cO sd,rfl,h2,one,by decide,by omega,few rfl,?_⟩
   refine ⟨sd,9,rfl,af h2 fun p hp=>?_⟩
   rw [show L3.gT ((cO sd).map D.str) none (some (4:Int))=((cO sd).take 4).map D.str from (ju _ 4).trans (List.map_take).symm]
   have t:=L3.Sub.new (c:=.lst (((cO sd).take 4).map D.str)) hp
   refine af av ⟨few rfl,few rfl,fun rg hrg=>h _ _ ⟨t.trans (.new hrg),rg,t.none hrg,av,rfl⟩⟩
  rintro δ M3 ⟨s3,rg,hrg,h3,rfl⟩
  refine cut (t:=oM _ _ _) (fun δ M'=>L3.Sub M2 M'∧lstM M' rg=some ((cJ sd).map br)∧δ=g8 ns sd (some (.ref r1)) (some (.ref r2)) (some (.ref rg)) none none [none,none,none,none,none]) (fun nx h=>?_) ?_
  ·refine ⟨by decide,dc (c:=sd % 2 == 0) (fun g=>?_) (fun g=>?_)⟩
   ·refine ⟨by show (lstM M3 rg).isSome=true; rw [h3]; rfl,sd,10,rfl,r2,sd + 11,4,cO sd,rfl,s3.lst h2,one,by decide,by omega,few rfl,af h3 ⟨by show 2 < sizeLine; omega,?_⟩⟩
    refine h _ _ ⟨fun x c hx=>by rw [fv (neM hx hrg)]; exact s3 x c hx,?_,rfl⟩
    rw [av]
    unfold cJ
    rw [if_pos g]
    rfl
   ·refine h _ _ ⟨s3,?_,rfl⟩
    rw [h3]
    unfold cJ
    rw [if_neg g]
    rfl
  rintro δ M4 ⟨s4,h4,rfl⟩
  have pok:=nX sd
  have h1':lstM M4 r1=some ((bj sd).phones.map bI):=s4.lst (s2.lst h1)
  have h4':lstM M4 rg=some ((bj sd).groups.map br):=h4
  have s04:L3.Sub M M4:=s1.trans (s2.trans s4)
  refine cut (t:=gL _ _) (fun δ M'=>∃ M0 A p b,Cur a M0 M' b A (V0 p (sd % 24) (bj sd)) (bj sd) 3∧L3.Sub M4 M0∧δ=g8 ns sd (some (.ref r1)) (some (.ref r2)) (some (.ref rg)) (some (.ref b)) none [none,none,none,none,none]) (fun nx h=>?_) ?_
  ·refine ⟨few rfl,fun r3 hr3=>fun p hp=>?_⟩
   have t5:=L3.Sub.new (c:=.lst []) hr3
   have l5:lstM (au M4 r3 (.lst [])) r3=some []:=av
   generalize au M4 r3 (.lst [])=M5 at t5 l5 hp ⊢
   have t6:=L3.Sub.new (c:=.ins a.c_Plan []) hp
   refine ⟨p,r1,rg,r3,bj sd,rfl,aZ,t6.lst (t5.lst h1'),t6.lst (t5.lst h4'),t6.lst l5,pok,fun M0 kp pl _=>⟨rfl,by decide,fun b hb=>?_⟩⟩
   have sM:L3.Sub M4 M0:=fun x c hx=>kp x c (neM (t5 x c hx) hp) (t6 x c (t5 x c hx))
   have t7:=L3.Sub.new (c:=.ins a.c_Board []) hb
   have npb:p ≠ b:=fun z=>by
    obtain ⟨_,_,_,_,_,_,i1,_⟩:=pl
    rw [z,hb] at i1
    cases i1
   refine ⟨b,p,sd % 24,bj sd,rfl,aZ,pl.sub t7,pok,npb,fun M' A eb k' fr bd=>⟨rfl,?_⟩⟩
   have g3:=pok.g3
   refine h _ _ ⟨M0,A,p,b,⟨⟨bd,pl,fun x c hx=>k' x c (neM hx hb) (t7 x c hx),fun x hx=>?_⟩,eb,⟨(fun c hc=>by cases hc),Nat.zero_le _,Nat.zero_le _,Nat.zero_le _,?_,(fun c hc=>by cases hc)⟩⟩,sM,rfl⟩
   ·rcases fr x hx with z | z
    ·rw [z]; exact hb
    ·exact t7.none z
   ·show (ge (bj sd)).length≤3
    unfold ge
    rw [List.length_map]
    exact Nat.le_trans (List.length_filter_le _ _) g3
  rintro δ M5 ⟨M0,A,p,b,cu,s0,rfl⟩
  have g1:∀ M',L3.Sub M0 M'→lstM M' r1=some ((bj sd).phones.map bI):=fun M' s=>s.lst (s0.lst h1')
  have g2:∀ M',L3.Sub M0 M'→lstM M' r2=some ((cO sd).map D.str):=fun M' s=>s.lst (s0.lst (s4.lst h2))
  have g4:∀ M',L3.Sub M0 M'→lstM M' rg=some ((bj sd).groups.map br):=fun M' s=>s.lst (s0.lst h4')
  have gnd:((bj sd).groups.map (·.1)).Nodup:=List.Nodup.sublist (List.sublist_append_right _ _) pok.nd
  have fin:∀ M',L3.Sub M0 M'→∃ M'',L3.Sub M'' M'∧Q (.bl true) M'':=fun M' s=>⟨M,s04.trans (s0.trans s),q⟩
  refine cut (t:=gL _ _) (fun δ M'=>L3.Sub M5 M'∧∃ pd,M5 pd=none∧dkM M' pd=some (bC ((cJ sd).map fun g=>(g.1,0)))∧δ=g8 ns sd (some (.ref r1)) (some (.ref r2)) (some (.ref rg)) (some (.ref b)) (some (.ref pd)) [none,none,none,none,none]) (fun nx h=>?_) ?_
  ·have lg:=g4 M5 cu.w.s0
   have g3:=pok.g3
   refine af lg (cH (f:=qR) lg _ [] _ (by rw [List.length_map]; simp only [List.length_nil]; omega) (fun d hd k hk=>?_) fun p1 hp1=>?_)
   ·obtain ⟨x,_,rfl⟩:=List.mem_map.mp hd
    exact ⟨few rfl,hk⟩
   ·have em:[] ++ ((bj sd).groups.map br).map qR=(cJ sd).map fun g=>D.tup [.str g.1,.int 0]:=by
     rw [List.nil_append,List.map_map]
     rfl
    rw [em]
    have t:=L3.Sub.new (c:=.lst ((cJ sd).map fun g=>D.tup [.str g.1,.int 0])) hp1
    refine af av (af (fM (fun g:dl=>g.1) (fun _=>D.int 0) _) ⟨gH gnd,fun pd hpd=>h _ _ ⟨t.trans (.new hpd),pd,t.none hpd,?_,rfl⟩⟩)
    rw [iF aZ]
    unfold bC
    rw [List.map_map]
    rfl
  rintro δ M6 ⟨s6,pd,hpd,d6,rfl⟩
  have cu6:=cu.sub s6
  refine cut (t:=z8 _ _ _) (fun δ M'=>L3.Sub M0 M') (fun nx h=>?_) fun δ M' s=>fin M' s
  intro sl hsl
  rw [show L3.gT (ns.map D.int) none (some (63:Int))=(ns.map D.int).take 63 from ju _ 63]
  have t7:=L3.Sub.new (c:=.lst ((ns.map D.int).take 63)) hsl
  have l7:lstM (au M6 sl (.lst ((ns.map D.int).take 63))) sl=some ((ns.map D.int).take 63):=av
  generalize au M6 sl (.lst ((ns.map D.int).take 63))=M7 at t7 l7 ⊢
  refine ⟨few rfl,fun p8 hp8=>?_⟩
  have t8:=L3.Sub.new (c:=.lst [D.int 1,.int 2]) hp8
  have l8:lstM (au M7 p8 (.lst [D.int 1,.int 2])) p8=some [D.int 1,.int 2]:=av
  generalize au M7 p8 (.lst [D.int 1,.int 2])=M8 at t8 l8 ⊢
  refine af (t8.lst l7) (af l8 ⟨by rw [List.length_take,List.length_map]; show min 63 ns.length + 2≤sizeLine; omega,fun r5 hr5=>af av ?_⟩)
  have hL:((ns.map D.int).take 63 ++ [D.int 1,.int 2]).length≤65:=by
   rw [List.length_append,List.length_take,List.length_map]
   show min 63 ns.length + 2≤65
   omega
  have hLi:∀ d∈(ns.map D.int).take 63 ++ [D.int 1,.int 2],∃ c,d=.int c:=fun d hd=>by
   rcases List.mem_append.mp hd with z | z
   ·obtain ⟨c,_,rfl⟩:=List.mem_map.mp (List.mem_of_mem_take z)
    exact ⟨c,rfl⟩
   ·simp only [List.mem_cons,List.not_mem_nil,or_false] at z
    rcases z with rfl | rfl
    ·exact ⟨1,rfl⟩
    ·exact ⟨2,rfl⟩
  generalize (ns.map D.int).take 63 ++ [D.int 1,.int 2]=L at hL hLi ⊢
  have t9:=L3.Sub.new (c:=.lst L) hr5
  have l9:lstM (au M8 r5 (.lst L)) r5=some L:=av
  have s9:=t7.trans (t8.trans t9)
  have cu9:=cu6.sub s9
  have n5:r5 ∉ A.foot:=(cu6.sub (t7.trans t8)).w.bd.notF hr5
  have npd:pd ∉ A.foot:=cu.w.bd.notF hpd
  generalize au M8 r5 (.lst L)=M9 at t9 l9 s9 cu9 ⊢
  have i9:u7 a M0 M9 b pd r5 sd L 0:=⟨⟨A,_,3,_,cu9,Nat.le_refl _,s9.dk d6,npd,pF sd p (sd % 24),by rw [List.length_map]; exact pok.g3,n5⟩,l9⟩
  refine jI (fY 0 L) (fun pre δ M'=>u7 a M0 M' b pd r5 sd L pre.length∧∃ y7 y8 y9 y10 y11,δ=g8 ns sd (some (.ref r1)) (some (.ref r2)) (some (.ref rg)) (some (.ref b)) (some (.ref pd)) [y7,y8,y9,y10,y11]) (fun _ _ M' j=>j.1.l5) _ [] _ _ rfl ⟨i9,none,none,none,none,none,rfl⟩ ?_ ?_
  rotate_left
  ·rintro δ M' ⟨⟨⟨A',V',n',qs',c',_⟩,_⟩,_⟩
   exact h _ _ c'.w.s0
  rintro pre d post e δ M' ⟨⟨⟨A',V,n,qs,cu',hn,dq,nq,ag,ql,nr⟩,l5⟩,y7,y8,y9,y10,y11,rfl⟩ nx2 hnx
  obtain ⟨dx,hx,rfl⟩:=v9 e
  have pl5:pre.length < 65:=Nat.lt_of_lt_of_le (List.getElem?_eq_some_iff.mp hx).1 hL
  obtain ⟨c0,rfl⟩:=hLi dx (cZ hx)
  have hln:(pre ++ [D.tup [.int (pre.length:Nat),.int c0]]).length=pre.length + 1:=by rw [List.length_append]; rfl
  rw [hln] at hnx
  clear hln
  have c13:oR 13 ((pre.length:Nat):Int):=.inl ⟨by decide,by decide⟩
  have c13':oR (13 * ((pre.length:Nat):Int)) ((pre.length:Nat):Int):=.inr ⟨by omega,by omega⟩
  have hp8':(bj sd).phones.length≤100:=Nat.le_trans pok.p8 (by decide)
  have hg3':(bj sd).groups.length≤100:=Nat.le_trans pok.g3 (by decide)
  have go:∀ M2 A2 V2 qs2,Cur a M0 M2 b A2 V2 (bj sd) (n + 5)→cz A' M' A2 M2→(∀ c,M' r5=some c→M2 r5=some c)→dkM M2 pd=some (bC qs2)→oH (bj sd) V2 qs2→qs2.length≤3 + (pre.length + 1)→u7 a M0 M2 b pd r5 sd L (pre.length + 1):=fun M2 A2 V2 qs2 c2 st k5 d2 ag2 q2=>⟨⟨A2,V2,n + 5,qs2,c2,by omega,d2,iq st nq (fK dq),ag2,q2,iq st nr (bo l5)⟩,dB (k5 _ (bo l5))⟩
  refine ⟨rfl,?_⟩
  dsimp only [hW,qo,uF]
  refine cut (t:=gL _ _) (fun δ M''=>M'=M''∧∃ c:Int,δ=g8 ns sd (some (.ref r1)) (some (.ref r2)) (some (.ref rg)) (some (.ref b)) (some (.ref pd)) [some (.int (pre.length:Nat)),some (.int c),y9,y10,y11]) (fun nx h=>⟨c13,c13',h _ _ ⟨rfl,_,rfl⟩⟩) ?_
  rintro δ _ ⟨rfl,c,rfl⟩
  refine cut (t:=oM _ _ _) (fun δ M''=>M'=M''∧δ=g8 ns sd (some (.ref r1)) (some (.ref r2)) (some (.ref rg)) (some (.ref b)) (some (.ref pd)) [some (.int (pre.length:Nat)),some (.int c),y9,y10,y11]) (fun nx h=>⟨_,_,_,rfl,by decide,dc (fun _=>?_) (fun _=>h _ _ ⟨rfl,rfl⟩)⟩) ?_
  ·refine ⟨M0,b,A',V,bj sd,n,c,r2,cO sd,rfl,cu',by omega,g2 M' cu'.w.s0,one,fun e0 he0=>?_⟩
   have last:∀ M2 A2 V2,Cur a M0 M2 b A2 V2 (bj sd) (n + 5)→cz A' M' A2 M2→V2.ps=V.ps→nx2 (g8 ns sd (some (.ref r1)) (some (.ref r2)) (some (.ref rg)) (some (.ref b)) (some (.ref pd)) [some (.int (pre.length:Nat)),some (.int c),y9,y10,y11]) M2:=fun M2 A2 V2 c2 st e2=>hnx _ _ ⟨go M2 A2 V2 qs c2 st (fun c hc=>st.1 r5 c nr hc) (iF (st.1 pd _ nq (fK dq))) (fun g hg ht=>by rw [e2]; exact ag g hg ht) (by omega),_,_,_,_,_,rfl⟩
   refine ⟨M0,b,A',V,bj sd,n,e0,rfl,cu',by omega,hp8',hg3',?_,last M' A' V (cu'.mono (by omega)) .refl rfl⟩
   rcases he0 with rfl | ⟨wd,x,i,rfl,hw⟩
   ·exact .inl ⟨rfl,last⟩
   ·exact .inr (.inr ⟨wd,x,i,rfl,hw,last⟩)
  rintro δ _ ⟨rfl,rfl⟩
  have lown:(((cO sd).map D.str).length:Int)=(cO sd).length:=by rw [List.length_map]
  refine cut (t:=gL _ _) (fun δ M''=>M'=M''∧∃ y:Str,y∈cO sd∧δ=g8 ns sd (some (.ref r1)) (some (.ref r2)) (some (.ref rg)) (some (.ref b)) (some (.ref pd)) [some (.int (pre.length:Nat)),some (.int c),some (.str y),y10,y11]) (fun nx h=>?_) ?_
  ·have lo:=g2 M' cu'.w.s0
   refine af lo ⟨_,_,_,rfl,by rw [lown]; omega,af lo ?_⟩
   rw [lown]
   have i0:=dD (c:=c) (f:=39373) (m:=((cO sd).length:Int)) (by omega)
   have i1:=dC (c:=c) (f:=39373) (m:=((cO sd).length:Int)) (by omega)
   exact af (uk i0 i1) (h _ _ ⟨rfl,_,nB i0 i1,rfl⟩)
  rintro δ _ ⟨rfl,y,hy,rfl⟩
  refine cut (t:=gL _ _) (fun δ M''=>M'=M''∧∃ g:dl,g∈cJ sd∧δ=g8 ns sd (some (.ref r1)) (some (.ref r2)) (some (.ref rg)) (some (.ref b)) (some (.ref pd)) [some (.int (pre.length:Nat)),some (.int c),some (.str y),some (br g),y11]) (fun nx h=>?_) ?_
  ·have lo:=g4 M' cu'.w.s0
   have gp:0 < (bj sd).groups.length:=by show 0 < (cJ sd).length; unfold cJ; rw [List.length_append]; show 0 < 2 + _; omega
   have lgr:(((bj sd).groups.map br).length:Int)=(bj sd).groups.length:=by rw [List.length_map]
   refine af lo ⟨_,_,_,rfl,by rw [lgr]; omega,af lo ?_⟩
   rw [lgr]
   have i0:=dD (c:=c) (f:=40692) (m:=((bj sd).groups.length:Int)) (by omega)
   have i1:=dC (c:=c) (f:=40692) (m:=((bj sd).groups.length:Int)) (by omega)
   generalize fj c 40692 ((bj sd).groups.length:Int)=i at i0 i1 ⊢
   obtain ⟨j,rfl⟩:=Int.eq_ofNat_of_zero_le i0
   have hj:j < (bj sd).groups.length:=by omega
   refine af (x:=br (bj sd).groups[j]) (io (by rw [List.getElem?_map,List.getElem?_eq_getElem hj]; rfl)) (h _ _ ⟨rfl,_,List.getElem_mem hj,rfl⟩)
  rintro δ _ ⟨rfl,g,hg,rfl⟩
  obtain ⟨gok,gne,gl4,gin⟩:=pb sd g hg
  have hg':g∈(bj sd).groups:=hg
  have gf:=kz gnd hg'
  have ep:(bj sd).phonesOf g.1=g.2.2:=by unfold aM.phonesOf; rw [gf]; rfl
  have em:(bj sd).manner g.1=g.2.1:=by unfold aM.manner; rw [gf]; rfl
  have hin:∀ x∈g.2.2,∃ v,(bj sd).phone x=some v:=fun x hx=>lb (gin x hx)
  obtain ⟨v0,hv0⟩:=lb (l:=bj sd) hy
  obtain ⟨k,hk⟩:∃ k:Nat,(g.2.1 == "turns")=true→eE (bC qs) (.inr g.1)=some (.int (k:Nat))∧eE (bC V.ps) (.inr g.1)=some (.int (k:Nat))∧k≤g.2.2.length:=by
   by_cases ht:(g.2.1 == "turns")=true
   ·obtain ⟨k,k1⟩:=ag g hg' ht
    exact ⟨k,fun _=>k1⟩
   ·exact ⟨0,fun z=>absurd z ht⟩
  have nxt:gZ (bj sd) V g.1 k:=fun z=>by
   rw [em] at z
   rw [ep]
   exact (hk z).2
  have tgt:Tgt (bj sd) g.1:=⟨by rw [ep]; exact hin,by rw [ep]; omega⟩
  refine cut (t:=gL _ _) (fun δ M''=>M'=M''∧δ=g8 ns sd (some (.ref r1)) (some (.ref r2)) (some (.ref rg)) (some (.ref b)) (some (.ref pd)) [some (.int (pre.length:Nat)),some (.int c),some (.str y),some (br g),some (iy (bj sd) V y g.1 k)]) (fun nx h=>⟨M0,b,A',V,bj sd,n,r1,g,pd,qs,y,k,rfl,cu',by omega,g1 M' cu'.w.s0,hp8',by omega,hin,ep,em,dq,fun z=>⟨(hk z).1,(hk z).2.2⟩,h _ _ ⟨rfl,rfl⟩⟩) ?_
  rintro δ _ ⟨rfl,rfl⟩
  have pur:js 7 (iy (bj sd) V y g.1 k)=true:=by
   unfold iy
   split
   ·rfl
   ·exact pO _ _
  refine cut (t:=oM _ _ _) (fun δ M''=>L3.Sub M' M''∧δ=g8 ns sd (some (.ref r1)) (some (.ref r2)) (some (.ref rg)) (some (.ref b)) (some (.ref pd)) [some (.int (pre.length:Nat)),some (.int c),some (.str y),some (br g),some (iy (bj sd) V y g.1 k)]) (fun nx h=>?_) ?_
  ·refine ⟨few rfl,fun p1 hp1=>?_⟩
   have u1:=L3.Sub.new (c:=.lst []) hp1
   have w1:lstM (au M' p1 (.lst [])) p1=some []:=av
   refine ⟨A',V,bj sd,y,g.1,k,p1,by rw [cu'.b],(cu'.rd (by omega)).sub u1,tgt,nxt,w1,fun q1 M2 u2 hq1 w2=>?_⟩
   refine ⟨few rfl,few rfl,few rfl,fun q2 hq2=>⟨few rfl,?_⟩⟩
   have u3:=L3.Sub.new (c:=.lst [.tup [.str g.1,.tup []]]) hq2
   refine af (sZ pur (u3.lst w2) av) (uL (h _ _ ⟨u1.trans (u2.trans u3),rfl⟩))
  rintro δ M2 ⟨u2,rfl⟩
  have cu2:=cu'.sub u2
  have skip:∀ M3:Mp,L3.Sub M' M3→nx2 (g8 ns sd (some (.ref r1)) (some (.ref r2)) (some (.ref rg)) (some (.ref b)) (some (.ref pd)) [some (.int (pre.length:Nat)),some (.int c),some (.str y),some (br g),some (iy (bj sd) V y g.1 k)]) M3:=fun M3 u=>hnx _ _ ⟨go M3 A' V qs ((cu'.sub u).mono (by omega)) (.sub u) (fun c hc=>u r5 c hc) (u.dk dq) ag (by omega),_,_,_,_,_,rfl⟩
  cases eR:cK (bj sd) V y g.1 k with
  | nil =>
   have ee:iy (bj sd) V y g.1 k=.tup [.str "engaged",.str g.1]:=by unfold iy; rw [if_pos eR]
   rw [ee] at skip ⊢
   exact skip M2 u2
  | cons x rr =>
   have ee:iy (bj sd) V y g.1 k=.tup [.str "rings",.str g.1,.tup ((x :: rr).map D.str)]:=by unfold iy; rw [eR,if_neg (List.cons_ne_nil _ _)]
   have hx':(cK (bj sd) V y g.1 k).head?=some x:=by rw [eR]; rfl
   have xin:x∈g.2.2:=by rw [← ep]; exact oJ.1 x (by rw [eR]; exact List.mem_cons_self)
   rw [ee] at skip ⊢
   refine ⟨few rfl,M0,b,A',V,bj sd,n,_,rfl,cu2,by omega,hp8',hg3',.inr (.inl ⟨y,g.1,k,x,v0,rfl,hv0,tgt,nxt,hx',fun M3 A3 V3 c3 st3 e3 ⟨c',e4,e5⟩=>?_⟩),skip M2 u2⟩
   have st03:cz A' M' A3 M3:=(cz.sub u2).trans st3
   have bd3:=c3.w.bd
   obtain ⟨ks,kl,eks⟩:∃ ks kl,A3.cs=ks ++ [kl]:=by
    have hl3:A3.cs.length=V.calls.length + 1:=by rw [bd3.len,e4,List.length_append]; rfl
    have hne:A3.cs ≠ []:=fun z=>by rw [z] at hl3; cases hl3
    exact ⟨A3.cs.dropLast,A3.cs.getLast hne,(List.dropLast_concat_getLast hne).symm⟩
   have kl3:ks.length=V.calls.length:=by
    have:=bd3.len
    rw [eks,e4,List.length_append,List.length_append] at this
    exact Nat.succ.inj this
   have ek:A3.cs[V.calls.length]?=some kl:=by rw [eks,← kl3]; simp
   have ec:V3.calls[V.calls.length]?=some c':=by rw [e4]; simp
   obtain ⟨ad,md,f1,f2,f3,f4,_⟩:=bd3.cs _ kl c' ek ec
   rw [e5,eR] at f3
   have lastE:atI (A3.cs.map fun k=>D.ref k.p) (-1)=some (.ref kl.p):=by
    rw [eks,List.map_append]
    exact vq
   refine cut (t:=oM _ _ _) (fun δ M''=>L3.Sub M3 M''∧δ=g8 ns sd (some (.ref r1)) (some (.ref r2)) (some (.ref rg)) (some (.ref b)) (some (.ref pd)) [some (.int (pre.length:Nat)),some (.int c),some (.str y),some (br g),some (.tup [.str "rings",.str g.1,.tup ((x :: rr).map D.str)])]) (fun nx h=>?_) ?_
   ·refine ap c3.at_ (af rfl (af bd3.ca (af lastE (ap f1 (af rfl fun p9 hp9=>?_)))))
    have u9:=L3.Sub.new (c:=.lst ((x :: rr).map D.str)) hp9
    have eq:eqD (au M3 p9 (.lst ((x :: rr).map D.str))) 9 (.ref ad) (.ref p9)=some true:=jD (u9.lst f3) av fun d hd=>by
     obtain ⟨z,_,rfl⟩:=List.mem_map.mp hd
     exact jd 7 _ rfl
    exact af eq (uL (h _ _ ⟨u9,rfl⟩))
   rintro δ M4 ⟨u4,rfl⟩
   obtain ⟨j,ej⟩:=nO xin
   have gpos:0 < g.2.2.length:=List.length_pos_of_mem xin
   have lg2:((g.2.2.map D.str).length:Int)=g.2.2.length:=by rw [List.length_map]
   have dq4:dkM M4 pd=some (bC qs):=u4.dk (iF (st03.1 pd _ nq (fK dq)))
   refine af (qF _ _) ⟨rfl,cM _,af ej ⟨by rw [lg2]; omega,af rfl (af dq4 ⟨by unfold bC; rw [List.length_map]; omega,?_⟩)⟩⟩
   rw [lg2]
   have en:(((j:Nat):Int) + 1) % (g.2.2.length:Int)=nxP g.2.2 x:=by
    unfold nxP
    rw [ej]
    rfl
   rw [en,kH]
   have kp:dm pd M4 (au M4 pd (.dk (bC (jJ qs g.1 (nxP g.2.2 x))))):=.put
   have npd3:pd ∉ A3.foot:=iq st03 nq (fK dq)
   have kn:M0 pd=none:=cu.w.s0.none hpd
   have c4:=c3.sub u4
   have r5':lstM M4 r5=some L:=u4.lst (dB (st03.1 r5 _ nr (bo l5)))
   refine hnx _ _ ⟨⟨⟨A3,V3,n + 5,_,⟨⟨c4.w.bd.putD kp dq4 npd3,c4.w.pl,fun x c hx=>kp x c (neM hx kn) (c4.w.s0 x c hx),c4.w.fr⟩,c4.b,c4.g⟩,by omega,iF aZ,npd3,r6 ag gnd hg' gne ep em e3,by have:=nY qs g.1 (nxP g.2.2 x); omega,iq st03 nr (bo l5)⟩,kp.lst (Ne.symm (dU dq4 r5')) r5'⟩,_,_,_,_,_,rfl⟩
end
end Z
namespace Z
open PySem PySem.Spec PyProof.Rows L2 L3
theorem xK {K:PySem.W.Frag} {h:Heap} {mg:Str→Option Value} (X:K.In h) (G:h.Ns mainGlobals mg)
  {ya yb:Option Addr} {yc:Array (Option Value)} {yd ye yf yg yh yi:Value} {yj:Addr}
  {yk yl:Option Addr} {ym:Array (Option Value)} {yn yo yp yq yr ys:Value} {yt:Addr}
  {yu yv:Option Addr} {yw:Array (Option Value)} {yx yy yz y0 y1 y2:Value} {y3:Addr}
  {y4 y5:Option Addr} {y6:Array (Option Value)} {y7 y8 y9 yba ybb ybc:Value} {ybd:Addr}
  {ybe ybf:Option Addr} {ybg:Array (Option Value)} {ybh ybi ybj ybk ybl ybm:Value} {ybn:Addr}
  {ybo ybp:Option Addr} {ybq:Array (Option Value)} {ybr ybs ybt ybu ybv ybw:Value} {ybx:Addr}
  {yby ybz:Option Addr} {yb0:Array (Option Value)} {yb1 yb2 yb3 yb4 yb5 yb6:Value} {yb7:Addr}
  {yb8 yb9:Option Addr} {yca:Array (Option Value)} {ycb ycc ycd yce ycf ycg:Value} {ych:Addr}
  {yci ycj:Option Addr} {yck:Array (Option Value)} {ycl ycm ycn yco ycp ycq:Value} {ycr:Addr}
  {ycs yct:Option Addr} {ycu:Array (Option Value)} {ycv ycw ycx ycy ycz yc0:Value} {yc1:Addr}
  {yc2 yc3:Option Addr} {yc4:Array (Option Value)} {yc5 yc6 yc7 yc8 yc9 yda:Value} {ydb:Addr}
  {ydc ydd:Option Addr} {yde:Array (Option Value)} {ydf ydg ydh ydi ydj ydk:Value} {ydl:Addr}
  {ydm ydn:Option Addr} {ydo:Array (Option Value)} {ydp ydq ydr yds ydt ydu:Value} {ydv:Addr}
  {ydw ydx:Option Addr} {ydy:Array (Option Value)} {ydz yd0 yd1 yd2 yd3 yd4:Value} {yd5:Addr}
  {yd6 yd7:Option Addr} {yd8:Array (Option Value)} {yd9 yea yeb yec yed yee:Value} {yef:Addr}
  {yeg yeh:Option Addr} {yei:Array (Option Value)} {yej yek yel yem yen yeo:Value} {yep:Addr}
  {yeq yer:Option Addr} {yes:Array (Option Value)} {yet yeu yev yew yex yey:Value} {yez:Addr}
  {ye0 ye1:Option Addr} {ye2:Array (Option Value)} {ye3 ye4 ye5 ye6 ye7 ye8:Value} {ye9:Addr}
  {yfa yfb:Option Addr} {yfc:Array (Option Value)} {yfd yfe yff yfg yfh yfi:Value} {yfj:Addr}
  {yfk yfl:Option Addr} {yfm:Array (Option Value)} {yfn yfo yfp yfq yfr yfs:Value} {yft:Addr}
  {yfu yfv:Option Addr} {yfw:Array (Option Value)} {yfx yfy yfz yf0 yf1 yf2:Value} {yf3:Addr}
  {yf4 yf5:Option Addr} {yf6:Array (Option Value)} {yf7 yf8 yf9 yga ygb ygc:Value} {ygd:Addr}
  {yge ygf:Option Addr} {ygg:Array (Option Value)} {ygh ygi ygj ygk ygl ygm:Value} {ygn:Addr}
  {ygo ygp:Option Addr} {ygq:Array (Option Value)} {ygr ygs ygt ygu ygv ygw:Value} {ygx:Addr}
  {ygy ygz:Option Addr} {yg0:Array (Option Value)} {yg1 yg2 yg3 yg4 yg5 yg6:Value} {yg7:Addr}
  {yg8 yg9:Option Addr} {yha:Array (Option Value)} {yhb yhc yhd yhe yhf yhg:Value} {yhh:Addr}
  {yhi yhj:Option Addr} {yhk:Array (Option Value)} {yhl yhm yhn yho yhp yhq:Value} {yhr:Addr}
  {yhs yht:Option Addr} {yhu:Array (Option Value)} {yhv yhw yhx yhy yhz yh0:Value} {yh1:Addr}
  {yh2 yh3:Option Addr} {yh4:Array (Option Value)} {yh5 yh6 yh7 yh8 yh9 yia:Value} {yib:Addr}
  {yic yid:Option Addr} {yie:Array (Option Value)} {yif yig yih yii yij yik:Value} {yil:Addr}
  {yim yin:Option Addr} {yio:Array (Option Value)} {yip yiq yir yis yit yiu:Value} {yiv:Addr}
  {yiw yix:Option Addr} {yiy:Array (Option Value)} {yiz yi0 yi1 yi2 yi3 yi4:Value} {yi5:Addr}
  {yi6 yi7:Option Addr} {yi8:Array (Option Value)} {yi9 yja yjb yjc yjd yje:Value} {yjf:Addr}
  {yjg yjh:Option Addr} {yji:Array (Option Value)} {yjj yjk yjl yjm yjn yjo:Value} {yjp:Addr}
  {yjq yjr:Option Addr} {yjs:Array (Option Value)} {yjt yju yjv yjw yjx yjy:Value} {yjz:Addr}
  {yj0 yj1:Option Addr} {yj2:Array (Option Value)} {yj3 yj4 yj5 yj6 yj7 yj8:Value} {yj9:Addr}
  {yka ykb:Option Addr} {ykc:Array (Option Value)} {ykd yke ykf ykg ykh yki:Value} {ykj:Addr}
  {ykk ykl:Option Addr} {ykm:Array (Option Value)} {ykn yko ykp ykq ykr yks:Value} {ykt:Addr}
  {yku ykv:Option Addr} {ykw:Array (Option Value)} {ykx yky ykz yk0 yk1 yk2:Value} {yk3:Addr}
  {yk4 yk5:Option Addr} {yk6:Array (Option Value)} {yk7 yk8 yk9 yla ylb ylc:Value} {yld:Addr}
  {yle ylf:Option Addr} {ylg:Array (Option Value)} {ylh yli ylj ylk yll ylm:Value} {yln:Addr}
  {ylo ylp:Option Addr} {ylq:Array (Option Value)} {ylr yls ylt ylu ylv ylw:Value} {ylx:Addr}
  {yly ylz:Option Addr} {yl0:Array (Option Value)} {yl1 yl2 yl3 yl4 yl5 yl6:Value} {yl7:Addr}
  {yl8 yl9:Option Addr} {yma:Array (Option Value)} {ymb ymc ymd yme ymf ymg:Value} {ymh:Addr}
  {ymi ymj:Option Addr} {ymk:Array (Option Value)} {yml ymm ymn ymo ymp ymq:Value} {ymr:Addr}
  {yms ymt:Option Addr} {ymu:Array (Option Value)} {ymv ymw ymx ymy ymz ym0:Value} {ym1:Addr}
  {ym2 ym3:Option Addr} {ym4:Array (Option Value)} {ym5 ym6 ym7 ym8 ym9 yna:Value} {ynb:Addr}
  {ync ynd:Option Addr} {yne:Array (Option Value)} {ynf yng ynh yni ynj ynk:Value} {ynl:Addr}
  {ynm ynn:Option Addr} {yno:Array (Option Value)} {ynp ynq ynr yns ynt ynu:Value} {ynv:Addr}
  {ynw ynx:Option Addr} {yny:Array (Option Value)} {ynz yn0 yn1 yn2 yn3 yn4:Value} {yn5:Addr}
  {yn6 yn7:Option Addr} {yn8:Array (Option Value)} {yn9 yoa yob yoc yod yoe:Value} {yof:Addr}
  {yog yoh:Option Addr} {yoi:Array (Option Value)} {yoj yok yol yom yon yoo:Value} {yop:Addr}
  {yoq yor:Option Addr} {yos:Array (Option Value)} {yot you yov yow yox yoy:Value} {yoz:Addr}
  {yo0 yo1:Option Addr} {yo2:Array (Option Value)} {yo3 yo4 yo5 yo6 yo7 yo8:Value} {yo9:Addr}
  {ypa ypb:Option Addr} {ypc:Array (Option Value)} {ypd ype ypf ypg yph ypi:Value} {ypj:Addr}
  {ypk ypl:Option Addr} {ypm:Array (Option Value)} {ypn ypo ypp ypq ypr yps:Value} {ypt:Addr}
  {ypu ypv:Option Addr} {ypw:Array (Option Value)} {ypx ypy ypz yp0 yp1 yp2:Value} {yp3:Addr}
  {yp4 yp5:Option Addr} {yp6:Array (Option Value)} {yp7 yp8 yp9 yqa yqb yqc:Value} {yqd:Addr}
  {yqe yqf:Option Addr} {yqg:Array (Option Value)} {yqh yqi yqj yqk yql yqm:Value} {yqn:Addr}
  {yqo yqp:Option Addr} {yqq:Array (Option Value)} {yqr yqs yqt yqu yqv yqw:Value} {yqx:Addr}
  {yqy yqz:Option Addr} {yq0:Array (Option Value)} {yq1 yq2 yq3 yq4 yq5 yq6:Value} {yq7:Addr}
  {yq8 yq9:Option Addr} {yra:Array (Option Value)} {yrb yrc yrd yre yrf yrg:Value} {yrh:Addr}
  {yri yrj:Option Addr} {yrk:Array (Option Value)} {yrl yrm yrn yro yrp yrq:Value} {yrr:Addr}
  {yrs yrt:Option Addr} {yru:Array (Option Value)} {yrv yrw yrx yry yrz yr0:Value} {yr1:Addr}
  {yr2 yr3:Option Addr} {yr4:Array (Option Value)} {yr5 yr6 yr7 yr8 yr9 ysa:Value} {ysb:Addr}
  {ysc ysd:Option Addr} {yse:Array (Option Value)} {ysf ysg ysh ysi ysj ysk:Value} {ysl:Addr}
  {ysm:Addr}
  {ysn:Addr}
  {yso:Addr}
  {ysp:Addr}
  {ysq:Addr}
  {ysr yss:Str} {yst:Addr} {ysu ysv:List Value} {ysw:Bool} {ysx:List Str} {ysy:Option Bool} {ysz ys0 ys1 ys2:Option Addr} {ys3 ys4 ys5 ys6 ys7:Option Value} {ys8 ys9 yta:Value} {ytb ytc:Array DictEntry} {ytd yte:Nat} {ytf ytg yth:Array (Option Value)} {yti:ClassData}
  {ytj:ClassData}
  {ytk:Tok}
  {ytl:Tok}
  {ytm:Tok}
  {ytn:Tok}
  {yto ytp:Nat} {ytq ytr:Tok} {yts:Array (Option Value)}
  {ytt:Tok}
  {ytu:Tok}
  {ytv:Tok}
  {ytw:Tok}
  (ytx:PySem.W.nsIn K mainGlobals "Call"=some (some (.ref ysm)))
  (yty:PySem.W.nsIn K mainGlobals "Board"=some (some (.ref ysn)))
  (ytz:PySem.W.nsIn K mainGlobals "Plan"=some (some (.ref yso)))
  (yt0:PySem.W.nsIn K mainGlobals "CallError"=some (some (.ref ysp)))
  (yt1:PySem.W.nsIn K mainGlobals "NoDeed"=some (some (.ref ysq)))
  (yt2:PySem.W.nsIn K mainGlobals "fitting"=some (some (.ref yj)))
  (yt3:K.lookup yj=some ⟨yd,ya,.func (PySem.W.fnOf "fitting" "fitting" (am du) (al du) (ah du) .none ye yf yg yb yh yi),yc⟩)
  (yt4:PySem.W.codeIn K yh "fitting"=true)
  (yt5:PySem.W.keepIn K (.ref yj)=true)
  (yt6:PySem.W.nsIn K mainGlobals "rung_phones"=some (some (.ref yt)))
  (yt7:K.lookup yt=some ⟨yn,yk,.func (PySem.W.fnOf "rung_phones" "rung_phones" (am bO) (al bO) (ah bO) .none yo yp yq yl yr ys),ym⟩)
  (yt8:PySem.W.codeIn K yr "rung_phones"=true)
  (yt9:PySem.W.keepIn K (.ref yt)=true)
  (yua:PySem.W.nsIn K mainGlobals "end_without_wish"=some (some (.ref y3)))
  (yub:K.lookup y3=some ⟨yx,yu,.func (PySem.W.fnOf "end_without_wish" "end_without_wish" (am aX) (al aX) (ah aX) .none yy yz y0 yv y1 y2),yw⟩)
  (yuc:PySem.W.codeIn K y1 "end_without_wish"=true)
  (yud:PySem.W.keepIn K (.ref y3)=true)
  (yue:PySem.W.nsIn K mainGlobals "route"=some (some (.ref ybd)))
  (yuf:K.lookup ybd=some ⟨y7,y4,.func (PySem.W.fnOf "route" "route" (am ft) (al ft) (ah ft) .none y8 y9 yba y5 ybb ybc),y6⟩)
  (yug:PySem.W.codeIn K ybb "route"=true)
  (yuh:PySem.W.keepIn K (.ref ybd)=true)
  (yui:PySem.W.nsIn K mainGlobals "place_of_true"=some (some (.ref ybn)))
  (yuj:K.lookup ybn=some ⟨ybh,ybe,.func (PySem.W.fnOf "place_of_true" "place_of_true" (am bv) (al bv) (ah bv) .none ybi ybj ybk ybf ybl ybm),ybg⟩)
  (yuk:PySem.W.codeIn K ybl "place_of_true"=true)
  (yul:PySem.W.keepIn K (.ref ybn)=true)
  (yum:PySem.W.nsIn K mainGlobals "end_call"=some (some (.ref ybx)))
  (yun:K.lookup ybx=some ⟨ybr,ybo,.func (PySem.W.fnOf "end_call" "end_call" (am cX) (al cX) (ah cX) .none ybs ybt ybu ybp ybv ybw),ybq⟩)
  (yuo:PySem.W.codeIn K ybv "end_call"=true)
  (yup:PySem.W.keepIn K (.ref ybx)=true)
  (yuq:PySem.W.nsIn K mainGlobals "drop_phone"=some (some (.ref yb7)))
  (yur:K.lookup yb7=some ⟨yb1,yby,.func (PySem.W.fnOf "drop_phone" "drop_phone" (am cj) (al cj) (ah cj) .none yb2 yb3 yb4 ybz yb5 yb6),yb0⟩)
  (yus:PySem.W.codeIn K yb5 "drop_phone"=true)
  (yut:PySem.W.keepIn K (.ref yb7)=true)
  (yuu:PySem.W.nsIn K mainGlobals "change_call"=some (some (.ref ych)))
  (yuv:K.lookup ych=some ⟨ycb,yb8,.func (PySem.W.fnOf "change_call" "change_call" (am bQ) (al bQ) (ah bQ) .none ycc ycd yce yb9 ycf ycg),yca⟩)
  (yuw:PySem.W.codeIn K ycf "change_call"=true)
  (yux:PySem.W.keepIn K (.ref ych)=true)
  (yuy:PySem.W.nsIn K mainGlobals "word_for_idling"=some (some (.ref ycr)))
  (yuz:K.lookup ycr=some ⟨ycl,yci,.func (PySem.W.fnOf "word_for_idling" "word_for_idling" (am bh) (al bh) (ah bh) .none ycm ycn yco ycj ycp ycq),yck⟩)
  (yu0:PySem.W.codeIn K ycp "word_for_idling"=true)
  (yu1:PySem.W.keepIn K (.ref ycr)=true)
  (yu2:PySem.W.nsIn K mainGlobals "word_for_call"=some (some (.ref yc1)))
  (yu3:K.lookup yc1=some ⟨ycv,ycs,.func (PySem.W.fnOf "word_for_call" "word_for_call" (am bu) (al bu) (ah bu) .none ycw ycx ycy yct ycz yc0),ycu⟩)
  (yu4:PySem.W.codeIn K ycz "word_for_call"=true)
  (yu5:PySem.W.keepIn K (.ref yc1)=true)
  (yu6:PySem.W.nsIn K mainGlobals "suits"=some (some (.ref ydb)))
  (yu7:K.lookup ydb=some ⟨yc5,yc2,.func (PySem.W.fnOf "suits" "suits" (am fq) (al fq) (ah fq) .none yc6 yc7 yc8 yc3 yc9 yda),yc4⟩)
  (yu8:PySem.W.codeIn K yc9 "suits"=true)
  (yu9:PySem.W.keepIn K (.ref ydb)=true)
  (yva:PySem.W.nsIn K mainGlobals "word_for_numbers"=some (some (.ref ydl)))
  (yvb:K.lookup ydl=some ⟨ydf,ydc,.func (PySem.W.fnOf "word_for_numbers" "word_for_numbers" (am aV) (al aV) (ah aV) .none ydg ydh ydi ydd ydj ydk),yde⟩)
  (yvc:PySem.W.codeIn K ydj "word_for_numbers"=true)
  (yvd:PySem.W.keepIn K (.ref ydl)=true)
  (yve:PySem.W.nsIn K mainGlobals "refusal"=some (some (.ref ydv)))
  (yvf:K.lookup ydv=some ⟨ydp,ydm,.func (PySem.W.fnOf "refusal" "refusal" (am dn) (al dn) (ah dn) .none ydq ydr yds ydn ydt ydu),ydo⟩)
  (yvg:PySem.W.codeIn K ydt "refusal"=true)
  (yvh:PySem.W.keepIn K (.ref ydv)=true)
  (yvi:PySem.W.nsIn K mainGlobals "take_steps"=some (some (.ref yd5)))
  (yvj:K.lookup yd5=some ⟨ydz,ydw,.func (PySem.W.fnOf "take_steps" "take_steps" (am cg) (al cg) (ah cg) .none yd0 yd1 yd2 ydx yd3 yd4),ydy⟩)
  (yvk:PySem.W.codeIn K yd3 "take_steps"=true)
  (yvl:PySem.W.keepIn K (.ref yd5)=true)
  (yvm:PySem.W.nsIn K mainGlobals "start_ringing"=some (some (.ref yef)))
  (yvn:K.lookup yef=some ⟨yd9,yd6,.func (PySem.W.fnOf "start_ringing" "start_ringing" (am bw) (al bw) (ah bw) .none yea yeb yec yd7 yed yee),yd8⟩)
  (yvo:PySem.W.codeIn K yed "start_ringing"=true)
  (yvp:PySem.W.keepIn K (.ref yef)=true)
  (yvq:PySem.W.nsIn K mainGlobals "come_to_end"=some (some (.ref yep)))
  (yvr:K.lookup yep=some ⟨yej,yeg,.func (PySem.W.fnOf "come_to_end" "come_to_end" (am bS) (al bS) (ah bS) .none yek yel yem yeh yen yeo),yei⟩)
  (yvs:PySem.W.codeIn K yen "come_to_end"=true)
  (yvt:PySem.W.keepIn K (.ref yep)=true)
  (yvu:PySem.W.nsIn K mainGlobals "go_on"=some (some (.ref yez)))
  (yvv:K.lookup yez=some ⟨yet,yeq,.func (PySem.W.fnOf "go_on" "go_on" (am fu) (al fu) (ah fu) .none yeu yev yew yer yex yey),yes⟩)
  (yvw:PySem.W.codeIn K yex "go_on"=true)
  (yvx:PySem.W.keepIn K (.ref yez)=true)
  (yvy:PySem.W.nsIn K mainGlobals "make_call"=some (some (.ref ye9)))
  (yvz:K.lookup ye9=some ⟨ye3,ye0,.func (PySem.W.fnOf "make_call" "make_call" (am cF) (al cF) (ah cF) .none ye4 ye5 ye6 ye1 ye7 ye8),ye2⟩)
  (yv0:PySem.W.codeIn K ye7 "make_call"=true)
  (yv1:PySem.W.keepIn K (.ref ye9)=true)
  (yv2:PySem.W.nsIn K mainGlobals "hang_up"=some (some (.ref yfj)))
  (yv3:K.lookup yfj=some ⟨yfd,yfa,.func (PySem.W.fnOf "hang_up" "hang_up" (am dv) (al dv) (ah dv) .none yfe yff yfg yfb yfh yfi),yfc⟩)
  (yv4:PySem.W.codeIn K yfh "hang_up"=true)
  (yv5:PySem.W.keepIn K (.ref yfj)=true)
  (yv6:PySem.W.nsIn K mainGlobals "due_wishes"=some (some (.ref yft)))
  (yv7:K.lookup yft=some ⟨yfn,yfk,.func (PySem.W.fnOf "due_wishes" "due_wishes" (am cw) (al cw) (ah cw) .none yfo yfp yfq yfl yfr yfs),yfm⟩)
  (yv8:PySem.W.codeIn K yfr "due_wishes"=true)
  (yv9:PySem.W.keepIn K (.ref yft)=true)
  (ywa:PySem.W.nsIn K mainGlobals "let_turn_pass"=some (some (.ref yf3)))
  (ywb:K.lookup yf3=some ⟨yfx,yfu,.func (PySem.W.fnOf "let_turn_pass" "let_turn_pass" (am bB) (al bB) (ah bB) .none yfy yfz yf0 yfv yf1 yf2),yfw⟩)
  (ywc:PySem.W.codeIn K yf1 "let_turn_pass"=true)
  (ywd:PySem.W.keepIn K (.ref yf3)=true)
  (ywe:PySem.W.nsIn K mainGlobals "event_of"=some (some (.ref ygd)))
  (ywf:K.lookup ygd=some ⟨yf7,yf4,.func (PySem.W.fnOf "event_of" "event_of" (am cU) (al cU) (ah cU) .none yf8 yf9 yga yf5 ygb ygc),yf6⟩)
  (ywg:PySem.W.codeIn K ygb "event_of"=true)
  (ywh:PySem.W.keepIn K (.ref ygd)=true)
  (ywi:PySem.W.nsIn K mainGlobals "act"=some (some (.ref ygn)))
  (ywj:K.lookup ygn=some ⟨ygh,yge,.func (PySem.W.fnOf "act" "act" (am iC) (al iC) (ah iC) .none ygi ygj ygk ygf ygl ygm),ygg⟩)
  (ywk:PySem.W.codeIn K ygl "act"=true)
  (ywl:PySem.W.keepIn K (.ref ygn)=true)
  (ywm:PySem.W.nsIn K mainGlobals "do"=some (some (.ref ygx)))
  (ywn:K.lookup ygx=some ⟨ygr,ygo,.func (PySem.W.fnOf "do" "do" (am lN) (al lN) (ah lN) .none ygs ygt ygu ygp ygv ygw),ygq⟩)
  (ywo:PySem.W.codeIn K ygv "do"=true)
  (ywp:PySem.W.keepIn K (.ref ygx)=true)
  (ywq:PySem.W.nsIn K mainGlobals "need"=some (some (.ref yg7)))
  (ywr:K.lookup yg7=some ⟨yg1,ygy,.func (PySem.W.fnOf "need" "need" (am gj) (al gj) (ah gj) .none yg2 yg3 yg4 ygz yg5 yg6),yg0⟩)
  (yws:PySem.W.codeIn K yg5 "need"=true)
  (ywt:PySem.W.keepIn K (.ref yg7)=true)
  (ywu:PySem.W.nsIn K mainGlobals "is_name"=some (some (.ref yhh)))
  (ywv:K.lookup yhh=some ⟨yhb,yg8,.func (PySem.W.fnOf "is_name" "is_name" (am dt) (al dt) (ah dt) .none yhc yhd yhe yg9 yhf yhg),yha⟩)
  (yww:PySem.W.codeIn K yhf "is_name"=true)
  (ywx:PySem.W.keepIn K (.ref yhh)=true)
  (ywy:PySem.W.nsIn K mainGlobals "all_unlike"=some (some (.ref yhr)))
  (ywz:K.lookup yhr=some ⟨yhl,yhi,.func (PySem.W.fnOf "all_unlike" "all_unlike" (am ck) (al ck) (ah ck) .none yhm yhn yho yhj yhp yhq),yhk⟩)
  (yw0:PySem.W.codeIn K yhp "all_unlike"=true)
  (yw1:PySem.W.keepIn K (.ref yhr)=true)
  (yw2:PySem.W.nsIn K mainGlobals "is_choice"=some (some (.ref yh1)))
  (yw3:K.lookup yh1=some ⟨yhv,yhs,.func (PySem.W.fnOf "is_choice" "is_choice" (am cA) (al cA) (ah cA) .none yhw yhx yhy yht yhz yh0),yhu⟩)
  (yw4:PySem.W.codeIn K yhz "is_choice"=true)
  (yw5:PySem.W.keepIn K (.ref yh1)=true)
  (yw6:PySem.W.nsIn K mainGlobals "check_phones"=some (some (.ref yib)))
  (yw7:K.lookup yib=some ⟨yh5,yh2,.func (PySem.W.fnOf "check_phones" "check_phones" (am bJ) (al bJ) (ah bJ) .none yh6 yh7 yh8 yh3 yh9 yia),yh4⟩)
  (yw8:PySem.W.codeIn K yh9 "check_phones"=true)
  (yw9:PySem.W.keepIn K (.ref yib)=true)
  (yxa:PySem.W.nsIn K mainGlobals "check_groups"=some (some (.ref yil)))
  (yxb:K.lookup yil=some ⟨yif,yic,.func (PySem.W.fnOf "check_groups" "check_groups" (am bK) (al bK) (ah bK) .none yig yih yii yid yij yik),yie⟩)
  (yxc:PySem.W.codeIn K yij "check_groups"=true)
  (yxd:PySem.W.keepIn K (.ref yil)=true)
  (yxe:PySem.W.nsIn K mainGlobals "check_wishes"=some (some (.ref yiv)))
  (yxf:K.lookup yiv=some ⟨yip,yim,.func (PySem.W.fnOf "check_wishes" "check_wishes" (am bF) (al bF) (ah bF) .none yiq yir yis yin yit yiu),yio⟩)
  (yxg:PySem.W.codeIn K yit "check_wishes"=true)
  (yxh:PySem.W.keepIn K (.ref yiv)=true)
  (yxi:PySem.W.nsIn K mainGlobals "check_plan"=some (some (.ref yi5)))
  (yxj:K.lookup yi5=some ⟨yiz,yiw,.func (PySem.W.fnOf "check_plan" "check_plan" (am bZ) (al bZ) (ah bZ) .none yi0 yi1 yi2 yix yi3 yi4),yiy⟩)
  (yxk:PySem.W.codeIn K yi3 "check_plan"=true)
  (yxl:PySem.W.keepIn K (.ref yi5)=true)
  (yxm:PySem.W.nsIn K mainGlobals "_law_at"=some (some (.ref yjf)))
  (yxn:K.lookup yjf=some ⟨yi9,yi6,.func (PySem.W.fnOf "_law_at" "_law_at" (am dZ) (al dZ) (ah dZ) .none yja yjb yjc yi7 yjd yje),yi8⟩)
  (yxo:PySem.W.codeIn K yjd "_law_at"=true)
  (yxp:PySem.W.keepIn K (.ref yjf)=true)
  (yxq:PySem.W.nsIn K mainGlobals "_law_draw"=some (some (.ref yjp)))
  (yxr:K.lookup yjp=some ⟨yjj,yjg,.func (PySem.W.fnOf "_law_draw" "_law_draw" (am cR) (al cR) (ah cR) .none yjk yjl yjm yjh yjn yjo),yji⟩)
  (yxs:PySem.W.codeIn K yjn "_law_draw"=true)
  (yxt:PySem.W.keepIn K (.ref yjp)=true)
  (yxu:PySem.W.nsIn K mainGlobals "_law_word"=some (some (.ref yjz)))
  (yxv:K.lookup yjz=some ⟨yjt,yjq,.func (PySem.W.fnOf "_law_word" "_law_word" (am cS) (al cS) (ah cS) .none yju yjv yjw yjr yjx yjy),yjs⟩)
  (yxw:PySem.W.codeIn K yjx "_law_word"=true)
  (yxx:PySem.W.keepIn K (.ref yjz)=true)
  (yxy:PySem.W.nsIn K mainGlobals "_law_some"=some (some (.ref yj9)))
  (yxz:K.lookup yj9=some ⟨yj3,yj0,.func (PySem.W.fnOf "_law_some" "_law_some" (am cW) (al cW) (ah cW) .none yj4 yj5 yj6 yj1 yj7 yj8),yj2⟩)
  (yx0:PySem.W.codeIn K yj7 "_law_some"=true)
  (yx1:PySem.W.keepIn K (.ref yj9)=true)
  (yx2:PySem.W.nsIn K mainGlobals "_law_phones"=some (some (.ref ykj)))
  (yx3:K.lookup ykj=some ⟨ykd,yka,.func (PySem.W.fnOf "_law_phones" "_law_phones" (am cq) (al cq) (ah cq) .none yke ykf ykg ykb ykh yki),ykc⟩)
  (yx4:PySem.W.codeIn K ykh "_law_phones"=true)
  (yx5:PySem.W.keepIn K (.ref ykj)=true)
  (yx6:PySem.W.nsIn K mainGlobals "_law_done"=some (some (.ref ykt)))
  (yx7:K.lookup ykt=some ⟨ykn,ykk,.func (PySem.W.fnOf "_law_done" "_law_done" (am cV) (al cV) (ah cV) .none yko ykp ykq ykl ykr yks),ykm⟩)
  (yx8:PySem.W.codeIn K ykr "_law_done"=true)
  (yx9:PySem.W.keepIn K (.ref ykt)=true)
  (yya:PySem.W.nsIn K mainGlobals "_law_in"=some (some (.ref yk3)))
  (yyb:K.lookup yk3=some ⟨ykx,yku,.func (PySem.W.fnOf "_law_in" "_law_in" (am dY) (al dY) (ah dY) .none yky ykz yk0 ykv yk1 yk2),ykw⟩)
  (yyc:PySem.W.codeIn K yk1 "_law_in"=true)
  (yyd:PySem.W.keepIn K (.ref yk3)=true)
  (yye:PySem.W.nsIn K mainGlobals "_law_free"=some (some (.ref yld)))
  (yyf:K.lookup yld=some ⟨yk7,yk4,.func (PySem.W.fnOf "_law_free" "_law_free" (am cT) (al cT) (ah cT) .none yk8 yk9 yla yk5 ylb ylc),yk6⟩)
  (yyg:PySem.W.codeIn K ylb "_law_free"=true)
  (yyh:PySem.W.keepIn K (.ref yld)=true)
  (yyi:PySem.W.nsIn K mainGlobals "_law_due"=some (some (.ref yln)))
  (yyj:K.lookup yln=some ⟨ylh,yle,.func (PySem.W.fnOf "_law_due" "_law_due" (am dw) (al dw) (ah dw) .none yli ylj ylk ylf yll ylm),ylg⟩)
  (yyk:PySem.W.codeIn K yll "_law_due"=true)
  (yyl:PySem.W.keepIn K (.ref yln)=true)
  (yym:PySem.W.nsIn K mainGlobals "_law_other"=some (some (.ref ylx)))
  (yyn:K.lookup ylx=some ⟨ylr,ylo,.func (PySem.W.fnOf "_law_other" "_law_other" (am cE) (al cE) (ah cE) .none yls ylt ylu ylp ylv ylw),ylq⟩)
  (yyo:PySem.W.codeIn K ylv "_law_other"=true)
  (yyp:PySem.W.keepIn K (.ref ylx)=true)
  (yyq:PySem.W.nsIn K mainGlobals "law"=some (some (.ref yl7)))
  (yyr:K.lookup yl7=some ⟨yl1,yly,.func (PySem.W.fnOf "law" "law" (am iD) (al iD) (ah iD) .none yl2 yl3 yl4 ylz yl5 yl6),yl0⟩)
  (yys:PySem.W.codeIn K yl5 "law"=true)
  (yyt:PySem.W.keepIn K (.ref yl7)=true)
  (yyu:PySem.W.findIn K (.ref ysq) "__init__"=some (some (.ref ymh)))
  (yyv:K.lookup ymh=some ⟨ymb,yl8,.func (PySem.W.fnOf "__init__" "NoDeed.__init__" (am bP) (al bP) (ah bP) .none ymc ymd yme yl9 ymf ymg),yma⟩)
  (yyw:PySem.W.codeIn K ymf "NoDeed.__init__"=true)
  (yyx:PySem.W.keepIn K (.ref ymh)=true)
  (yyy:PySem.W.findIn K (.ref ysn) "__init__"=some (some (.ref ymr)))
  (yyz:K.lookup ymr=some ⟨yml,ymi,.func (PySem.W.fnOf "__init__" "Board.__init__" (am ce) (al ce) (ah ce) .none ymm ymn ymo ymj ymp ymq),ymk⟩)
  (yy0:PySem.W.codeIn K ymp "Board.__init__"=true)
  (yy1:PySem.W.keepIn K (.ref ymr)=true)
  (yy2:PySem.W.findIn K (.ref yso) "__init__"=some (some (.ref ym1)))
  (yy3:K.lookup ym1=some ⟨ymv,yms,.func (PySem.W.fnOf "__init__" "Plan.__init__" (am cG) (al cG) (ah cG) .none ymw ymx ymy ymt ymz ym0),ymu⟩)
  (yy4:PySem.W.codeIn K ymz "Plan.__init__"=true)
  (yy5:PySem.W.keepIn K (.ref ym1)=true)
  (yy6:PySem.W.findIn K (.ref yso) "phone_names"=some (some (.ref ynb)))
  (yy7:K.lookup ynb=some ⟨ym5,ym2,.func (PySem.W.fnOf "phone_names" "Plan.phone_names" (am aW) (al aW) (ah aW) .none ym6 ym7 ym8 ym3 ym9 yna),ym4⟩)
  (yy8:PySem.W.codeIn K ym9 "Plan.phone_names"=true)
  (yy9:PySem.W.keepIn K (.ref ynb)=true)
  (yza:PySem.W.findIn K (.ref ysn) "apply"=some (some (.ref ynl)))
  (yzb:K.lookup ynl=some ⟨ynf,ync,.func (PySem.W.fnOf "apply" "Board.apply" (am bU) (al bU) (ah bU) .none yng ynh yni ynd ynj ynk),yne⟩)
  (yzc:PySem.W.codeIn K ynj "Board.apply"=true)
  (yzd:PySem.W.keepIn K (.ref ynl)=true)
  (yze:PySem.W.findIn K (.ref ysn) "ringable"=some (some (.ref ynv)))
  (yzf:K.lookup ynv=some ⟨ynp,ynm,.func (PySem.W.fnOf "ringable" "Board.ringable" (am bp) (al bp) (ah bp) .none ynq ynr yns ynn ynt ynu),yno⟩)
  (yzg:PySem.W.codeIn K ynt "Board.ringable"=true)
  (yzh:PySem.W.keepIn K (.ref ynv)=true)
  (yzi:PySem.W.findIn K (.ref yso) "manner"=some (some (.ref yn5)))
  (yzj:K.lookup yn5=some ⟨ynz,ynw,.func (PySem.W.fnOf "manner" "Plan.manner" (am bT) (al bT) (ah bT) .none yn0 yn1 yn2 ynx yn3 yn4),yny⟩)
  (yzk:PySem.W.codeIn K yn3 "Plan.manner"=true)
  (yzl:PySem.W.keepIn K (.ref yn5)=true)
  (yzm:PySem.W.findIn K (.ref yso) "phones_of"=some (some (.ref yof)))
  (yzn:K.lookup yof=some ⟨yn9,yn6,.func (PySem.W.fnOf "phones_of" "Plan.phones_of" (am bq) (al bq) (ah bq) .none yoa yob yoc yn7 yod yoe),yn8⟩)
  (yzo:PySem.W.codeIn K yod "Plan.phones_of"=true)
  (yzp:PySem.W.keepIn K (.ref yof)=true)
  (yzq:PySem.W.findIn K (.ref yso) "names"=some (some (.ref yop)))
  (yzr:K.lookup yop=some ⟨yoj,yog,.func (PySem.W.fnOf "names" "Plan.names" (am cb) (al cb) (ah cb) .none yok yol yom yoh yon yoo),yoi⟩)
  (yzs:PySem.W.codeIn K yon "Plan.names"=true)
  (yzt:PySem.W.keepIn K (.ref yop)=true)
  (yzu:PySem.W.findIn K (.ref ysn) "is_free"=some (some (.ref yoz)))
  (yzv:K.lookup yoz=some ⟨yot,yoq,.func (PySem.W.fnOf "is_free" "Board.is_free" (am bz) (al bz) (ah bz) .none you yov yow yor yox yoy),yos⟩)
  (yzw:PySem.W.codeIn K yox "Board.is_free"=true)
  (yzx:PySem.W.keepIn K (.ref yoz)=true)
  (yzy:PySem.W.findIn K (.ref ysm) "__init__"=some (some (.ref yo9)))
  (yzz:K.lookup yo9=some ⟨yo3,yo0,.func (PySem.W.fnOf "__init__" "Call.__init__" (am cD) (al cD) (ah cD) .none yo4 yo5 yo6 yo1 yo7 yo8),yo2⟩)
  (yz0:PySem.W.codeIn K yo7 "Call.__init__"=true)
  (yz1:PySem.W.keepIn K (.ref yo9)=true)
  (yz2:PySem.W.findIn K (.ref ysm) "waits_with"=some (some (.ref ypj)))
  (yz3:K.lookup ypj=some ⟨ypd,ypa,.func (PySem.W.fnOf "waits_with" "Call.waits_with" (am be) (al be) (ah be) .none ype ypf ypg ypb yph ypi),ypc⟩)
  (yz4:PySem.W.codeIn K yph "Call.waits_with"=true)
  (yz5:PySem.W.keepIn K (.ref ypj)=true)
  (yz6:PySem.W.findIn K (.ref ysm) "is_tried_by"=some (some (.ref ypt)))
  (yz7:K.lookup ypt=some ⟨ypn,ypk,.func (PySem.W.fnOf "is_tried_by" "Call.is_tried_by" (am aY) (al aY) (ah aY) .none ypo ypp ypq ypl ypr yps),ypm⟩)
  (yz8:PySem.W.codeIn K ypr "Call.is_tried_by"=true)
  (yz9:PySem.W.keepIn K (.ref ypt)=true)
  (y0a:PySem.W.findIn K (.ref ysn) "add_leg"=some (some (.ref yp3)))
  (y0b:K.lookup yp3=some ⟨ypx,ypu,.func (PySem.W.fnOf "add_leg" "Board.add_leg" (am bx) (al bx) (ah bx) .none ypy ypz yp0 ypv yp1 yp2),ypw⟩)
  (y0c:PySem.W.codeIn K yp1 "Board.add_leg"=true)
  (y0d:PySem.W.keepIn K (.ref yp3)=true)
  (y0e:PySem.W.findIn K (.ref ysn) "pass_turn"=some (some (.ref yqd)))
  (y0f:K.lookup yqd=some ⟨yp7,yp4,.func (PySem.W.fnOf "pass_turn" "Board.pass_turn" (am bg) (al bg) (ah bg) .none yp8 yp9 yqa yp5 yqb yqc),yp6⟩)
  (y0g:PySem.W.codeIn K yqb "Board.pass_turn"=true)
  (y0h:PySem.W.keepIn K (.ref yqd)=true)
  (y0i:PySem.W.findIn K (.ref ysn) "bound"=some (some (.ref yqn)))
  (y0j:K.lookup yqn=some ⟨yqh,yqe,.func (PySem.W.fnOf "bound" "Board.bound" (am bR) (al bR) (ah bR) .none yqi yqj yqk yqf yql yqm),yqg⟩)
  (y0k:PySem.W.codeIn K yql "Board.bound"=true)
  (y0l:PySem.W.keepIn K (.ref yqn)=true)
  (y0m:PySem.W.findIn K (.ref ysn) "calling"=some (some (.ref yqx)))
  (y0n:K.lookup yqx=some ⟨yqr,yqo,.func (PySem.W.fnOf "calling" "Board.calling" (am bA) (al bA) (ah bA) .none yqs yqt yqu yqp yqv yqw),yqq⟩)
  (y0o:PySem.W.codeIn K yqv "Board.calling"=true)
  (y0p:PySem.W.keepIn K (.ref yqx)=true)
  (y0q:PySem.W.findIn K (.ref ysn) "used"=some (some (.ref yq7)))
  (y0r:K.lookup yq7=some ⟨yq1,yqy,.func (PySem.W.fnOf "used" "Board.used" (am cc) (al cc) (ah cc) .none yq2 yq3 yq4 yqz yq5 yq6),yq0⟩)
  (y0s:PySem.W.codeIn K yq5 "Board.used"=true)
  (y0t:PySem.W.keepIn K (.ref yq7)=true)
  (y0u:PySem.W.findIn K (.ref yso) "lines"=some (some (.ref yrh)))
  (y0v:K.lookup yrh=some ⟨yrb,yq8,.func (PySem.W.fnOf "lines" "Plan.lines" (am cf) (al cf) (ah cf) .none yrc yrd yre yq9 yrf yrg),yra⟩)
  (y0w:PySem.W.codeIn K yrf "Plan.lines"=true)
  (y0x:PySem.W.keepIn K (.ref yrh)=true)
  (y0y:PySem.W.findIn K (.ref ysm) "can_be_left_by"=some (some (.ref yrr)))
  (y0z:K.lookup yrr=some ⟨yrl,yri,.func (PySem.W.fnOf "can_be_left_by" "Call.can_be_left_by" (am aO) (al aO) (ah aO) .none yrm yrn yro yrj yrp yrq),yrk⟩)
  (y00:PySem.W.codeIn K yrp "Call.can_be_left_by"=true)
  (y01:PySem.W.keepIn K (.ref yrr)=true)
  (y02:PySem.W.findIn K (.ref ysm) "binds"=some (some (.ref yr1)))
  (y03:K.lookup yr1=some ⟨yrv,yrs,.func (PySem.W.fnOf "binds" "Call.binds" (am b9) (al b9) (ah b9) .none yrw yrx yry yrt yrz yr0),yru⟩)
  (y04:PySem.W.codeIn K yrz "Call.binds"=true)
  (y05:PySem.W.keepIn K (.ref yr1)=true)
  (y06:PySem.W.findIn K (.ref ysm) "has"=some (some (.ref ysb)))
  (y07:K.lookup ysb=some ⟨yr5,yr2,.func (PySem.W.fnOf "has" "Call.has" (am cY) (al cY) (ah cY) .none yr6 yr7 yr8 yr3 yr9 ysa),yr4⟩)
  (y08:PySem.W.codeIn K yr9 "Call.has"=true)
  (y09:PySem.W.keepIn K (.ref ysb)=true)
  (y1a:PySem.W.findIn K (.ref ysm) "talks_with"=some (some (.ref ysl)))
  (y1b:K.lookup ysl=some ⟨ysf,ysc,.func (PySem.W.fnOf "talks_with" "Call.talks_with" (am bf) (al bf) (ah bf) .none ysg ysh ysi ysd ysj ysk),yse⟩)
  (y1c:PySem.W.codeIn K ysj "Call.talks_with"=true)
  (y1d:PySem.W.keepIn K (.ref ysl)=true)
  (y1e:PySem.W.plainGet K ysm Str.empty=true)
  (y1f:PySem.W.hasDictIn K ysm=true)
  (y1g:PySem.W.plainOver K ysm=true)
  (y1h:PySem.W.findIn K (.ref ysm) "__setattr__"=some (some (.builtin "object.__setattr__")))
  (y1i:PySem.W.plainGet K ysn Str.empty=true)
  (y1j:PySem.W.hasDictIn K ysn=true)
  (y1k:PySem.W.plainOver K ysn=true)
  (y1l:PySem.W.findIn K (.ref ysn) "__setattr__"=some (some (.builtin "object.__setattr__")))
  (y1m:PySem.W.plainGet K yso Str.empty=true)
  (y1n:PySem.W.hasDictIn K yso=true)
  (y1o:PySem.W.plainOver K yso=true)
  (y1p:PySem.W.findIn K (.ref yso) "__setattr__"=some (some (.builtin "object.__setattr__")))
  (y1q:PySem.W.makesIn K ysn=true)
  (y1r:PySem.W.findIn K (.ref ysn) "__init__"=some (some (.ref ymr)))
  (y1s:PySem.W.isFn K (.ref ymr)=true)
  (y1t:PySem.W.keepIn K (.ref ysn)=true)
  (y1u:PySem.W.makesIn K yso=true)
  (y1v:PySem.W.findIn K (.ref yso) "__init__"=some (some (.ref ym1)))
  (y1w:PySem.W.isFn K (.ref ym1)=true)
  (y1x:PySem.W.keepIn K (.ref yso)=true)
  (y1y:PySem.W.makesIn K ysm=true)
  (y1z:PySem.W.findIn K (.ref ysm) "__init__"=some (some (.ref yo9)))
  (y10:PySem.W.isFn K (.ref yo9)=true)
  (y11:PySem.W.keepIn K (.ref ysm)=true)
  (y12:PySem.W.findIn K (.ref yso) "phone_names"=some (some (.ref ynb)))
  (y13:PySem.W.isFn K (.ref ynb)=true)
  (y14:PySem.W.findIn K (.ref ysn) "apply"=some (some (.ref ynl)))
  (y15:PySem.W.isFn K (.ref ynl)=true)
  (y16:PySem.W.findIn K (.ref ysn) "ringable"=some (some (.ref ynv)))
  (y17:PySem.W.isFn K (.ref ynv)=true)
  (y18:PySem.W.findIn K (.ref yso) "manner"=some (some (.ref yn5)))
  (y19:PySem.W.isFn K (.ref yn5)=true)
  (y2a:PySem.W.findIn K (.ref yso) "phones_of"=some (some (.ref yof)))
  (y2b:PySem.W.isFn K (.ref yof)=true)
  (y2c:PySem.W.findIn K (.ref yso) "names"=some (some (.ref yop)))
  (y2d:PySem.W.isFn K (.ref yop)=true)
  (y2e:PySem.W.findIn K (.ref ysn) "is_free"=some (some (.ref yoz)))
  (y2f:PySem.W.isFn K (.ref yoz)=true)
  (y2g:PySem.W.findIn K (.ref ysm) "waits_with"=some (some (.ref ypj)))
  (y2h:PySem.W.isFn K (.ref ypj)=true)
  (y2i:PySem.W.findIn K (.ref ysm) "is_tried_by"=some (some (.ref ypt)))
  (y2j:PySem.W.isFn K (.ref ypt)=true)
  (y2k:PySem.W.findIn K (.ref ysn) "add_leg"=some (some (.ref yp3)))
  (y2l:PySem.W.isFn K (.ref yp3)=true)
  (y2m:PySem.W.findIn K (.ref ysn) "pass_turn"=some (some (.ref yqd)))
  (y2n:PySem.W.isFn K (.ref yqd)=true)
  (y2o:PySem.W.findIn K (.ref ysn) "bound"=some (some (.ref yqn)))
  (y2p:PySem.W.isFn K (.ref yqn)=true)
  (y2q:PySem.W.findIn K (.ref ysn) "calling"=some (some (.ref yqx)))
  (y2r:PySem.W.isFn K (.ref yqx)=true)
  (y2s:PySem.W.findIn K (.ref ysn) "used"=some (some (.ref yq7)))
  (y2t:PySem.W.isFn K (.ref yq7)=true)
  (y2u:PySem.W.findIn K (.ref yso) "lines"=some (some (.ref yrh)))
  (y2v:PySem.W.isFn K (.ref yrh)=true)
  (y2w:PySem.W.findIn K (.ref ysm) "can_be_left_by"=some (some (.ref yrr)))
  (y2x:PySem.W.isFn K (.ref yrr)=true)
  (y2y:PySem.W.findIn K (.ref ysm) "binds"=some (some (.ref yr1)))
  (y2z:PySem.W.isFn K (.ref yr1)=true)
  (y20:PySem.W.findIn K (.ref ysm) "has"=some (some (.ref ysb)))
  (y21:PySem.W.isFn K (.ref ysb)=true)
  (y22:PySem.W.findIn K (.ref ysm) "talks_with"=some (some (.ref ysl)))
  (y23:PySem.W.isFn K (.ref ysl)=true)
  (y24:PySem.W.findIn K (.ref ysn) "plan"=some none)
  (y25:PySem.W.findIn K (.ref ysn) "hour"=some none)
  (y26:PySem.W.findIn K (.ref ysn) "turn"=some none)
  (y27:PySem.W.findIn K (.ref ysn) "calls"=some none)
  (y28:PySem.W.findIn K (.ref ysn) "legs"=some none)
  (y29:PySem.W.findIn K (.ref ysn) "nexts"=some none)
  (y3a:PySem.W.findIn K (.ref ysn) "on"=some none)
  (y3b:PySem.W.findIn K (.ref ysn) "log"=some none)
  (y3c:PySem.W.findIn K (.ref yso) "phones"=some none)
  (y3d:PySem.W.findIn K (.ref yso) "groups"=some none)
  (y3e:PySem.W.findIn K (.ref yso) "wishes"=some none)
  (y3f:PySem.W.findIn K (.ref yso) "on"=some none)
  (y3g:PySem.W.findIn K (.ref yso) "phone_rows"=some none)
  (y3h:PySem.W.findIn K (.ref yso) "group_rows"=some none)
  (y3i:PySem.W.findIn K (.ref ysm) "state"=some none)
  (y3j:PySem.W.findIn K (.ref ysm) "caller"=some none)
  (y3k:PySem.W.findIn K (.ref ysm) "way"=some none)
  (y3l:PySem.W.findIn K (.ref ysm) "at"=some none)
  (y3m:PySem.W.findIn K (.ref ysm) "members"=some none)
  (y3n:PySem.W.findIn K (.ref ysm) "holder"=some none)
  (y3o:PySem.W.findIn K (.ref ysm) "since"=some none)
  (y3p:PySem.W.findIn K (.ref ysm) "word"=some none)
  (y3q:K.lookup ysq=some (excClassObj ysr yss ysq yst ysu (Value.ref ysp :: bmV) true ysx ysv ysw ysy ysz ys3 ys4 ys5 ys6 ys7 "ValueError.__new__"))
  (y3r:K.lookup yst=some ⟨ys8,ys0,.dict ytb ytd,ytf⟩)
  (y3s:ig ytb=true)
  (y3t:nsFind ytb "__init__"=some (.ref ymh))
  (y3u:K.lookup ysp=some ⟨yta,ys2,.cls yti,yth⟩)
  (y3v:K.lookup yti.ns=some ⟨ys9,ys1,.dict ytc yte,ytg⟩)
  (y3w:ig ytc=true)
  (y3x:nsFind ytc "__init__"=none)
  (y3y:PySem.W.isFn K (.ref ymh)=true)
  (y3z:PySem.W.findIn K (.ref ysq) "__setattr__"=some (some (.builtin "object.__setattr__")))
  (y30:PySem.W.findIn K (.ref ysq) "word"=some none)
  (y31:PySem.W.findIn K (.ref ysq) "__init__"=some (some (.ref ymh)))
  (y32:PySem.W.subIn K (.ref ysq) (.type "BaseException")=some true)
  (y33:PySem.W.subIn K (.ref ysq) (.ref ysq)=some true)
  (y34:PySem.W.clsIn K ysq=some ytj)
  (y35:PySem.W.typeIn K (.ref ysq)=some (.type "type"))
  (y36:PySem.W.nsIn K mainGlobals "tuple"=some none)
  (y37:PySem.W.nsIn K mainGlobals "dict"=some none)
  (y38:PySem.W.nsIn K mainGlobals "enumerate"=some none)
  (y39:PySem.W.nsIn K mainGlobals "len"=some none)
  (y4a:PySem.W.nsIn K mainGlobals "list"=some none)
  (y4b:PySem.W.nsIn K mainGlobals "range"=some none)
  (y4c:PySem.W.nsIn K mainGlobals "min"=some none)
  (y4d:PySem.W.nsIn K mainGlobals "set"=some none)
  (y4e:PySem.W.nsIn K mainGlobals "all"=some none)
  (y4f:PySem.W.nsIn K mainGlobals "MOST_PHONES"=some (some (.int 8 ytk)))
  (y4g:PySem.W.nsIn K mainGlobals "MOST_LINES"=some (some (.int 3 ytl)))
  (y4h:PySem.W.nsIn K mainGlobals "MOST_RANK"=some (some (.int 9 ytm)))
  (y4i:PySem.W.nsIn K mainGlobals "MOST_GROUPS"=some (some (.int 3 ytn)))
  (y4j:PySem.W.nsIn K mainGlobals "MANNERS"=some (some (.ref yto)))
  (y4k:K.lookup yto=some ⟨.type "tuple",none,.seq (List.toArray [.str "all" ytq,.str "turns" ytr]) ytp,yts⟩)
  (y4l:PySem.W.nsIn K mainGlobals "MOST_MEMBERS"=some (some (.int 4 ytt)))
  (y4m:PySem.W.nsIn K mainGlobals "MOST_WISHES"=some (some (.int 16 ytu)))
  (y4n:PySem.W.nsIn K mainGlobals "MOST_SIGNS"=some (some (.int 6 ytv)))
  (y4o:PySem.W.nsIn K mainGlobals "LETTERS"=some (some (.str "abcdefghijklmnopqrstuvwxyz" ytw))) :
  ∃ a:Ad,Gl K mg a∧∀ (s:Shared) (u:Value),BindsTo s a.fd_law ⟨[u],[]⟩ [("_law_script",u)]:=by
 refine ⟨⟨yj,(PySem.W.fnOf "fitting" "fitting" (am du) (al du) (ah du) .none ye yf yg yb yh yi),yt,(PySem.W.fnOf "rung_phones" "rung_phones" (am bO) (al bO) (ah bO) .none yo yp yq yl yr ys),y3,(PySem.W.fnOf "end_without_wish" "end_without_wish" (am aX) (al aX) (ah aX) .none yy yz y0 yv y1 y2),ybd,(PySem.W.fnOf "route" "route" (am ft) (al ft) (ah ft) .none y8 y9 yba y5 ybb ybc),ybn,(PySem.W.fnOf "place_of_true" "place_of_true" (am bv) (al bv) (ah bv) .none ybi ybj ybk ybf ybl ybm),ybx,(PySem.W.fnOf "end_call" "end_call" (am cX) (al cX) (ah cX) .none ybs ybt ybu ybp ybv ybw),yb7,(PySem.W.fnOf "drop_phone" "drop_phone" (am cj) (al cj) (ah cj) .none yb2 yb3 yb4 ybz yb5 yb6),ych,(PySem.W.fnOf "change_call" "change_call" (am bQ) (al bQ) (ah bQ) .none ycc ycd yce yb9 ycf ycg),ycr,(PySem.W.fnOf "word_for_idling" "word_for_idling" (am bh) (al bh) (ah bh) .none ycm ycn yco ycj ycp ycq),yc1,(PySem.W.fnOf "word_for_call" "word_for_call" (am bu) (al bu) (ah bu) .none ycw ycx ycy yct ycz yc0),ydb,(PySem.W.fnOf "suits" "suits" (am fq) (al fq) (ah fq) .none yc6 yc7 yc8 yc3 yc9 yda),ydl,(PySem.W.fnOf "word_for_numbers" "word_for_numbers" (am aV) (al aV) (ah aV) .none ydg ydh ydi ydd ydj ydk),ydv,(PySem.W.fnOf "refusal" "refusal" (am dn) (al dn) (ah dn) .none ydq ydr yds ydn ydt ydu),yd5,(PySem.W.fnOf "take_steps" "take_steps" (am cg) (al cg) (ah cg) .none yd0 yd1 yd2 ydx yd3 yd4),yef,(PySem.W.fnOf "start_ringing" "start_ringing" (am bw) (al bw) (ah bw) .none yea yeb yec yd7 yed yee),yep,(PySem.W.fnOf "come_to_end" "come_to_end" (am bS) (al bS) (ah bS) .none yek yel yem yeh yen yeo),yez,(PySem.W.fnOf "go_on" "go_on" (am fu) (al fu) (ah fu) .none yeu yev yew yer yex yey),ye9,(PySem.W.fnOf "make_call" "make_call" (am cF) (al cF) (ah cF) .none ye4 ye5 ye6 ye1 ye7 ye8),yfj,(PySem.W.fnOf "hang_up" "hang_up" (am dv) (al dv) (ah dv) .none yfe yff yfg yfb yfh yfi),yft,(PySem.W.fnOf "due_wishes" "due_wishes" (am cw) (al cw) (ah cw) .none yfo yfp yfq yfl yfr yfs),yf3,(PySem.W.fnOf "let_turn_pass" "let_turn_pass" (am bB) (al bB) (ah bB) .none yfy yfz yf0 yfv yf1 yf2),ygd,(PySem.W.fnOf "event_of" "event_of" (am cU) (al cU) (ah cU) .none yf8 yf9 yga yf5 ygb ygc),ygn,(PySem.W.fnOf "act" "act" (am iC) (al iC) (ah iC) .none ygi ygj ygk ygf ygl ygm),ygx,(PySem.W.fnOf "do" "do" (am lN) (al lN) (ah lN) .none ygs ygt ygu ygp ygv ygw),yg7,(PySem.W.fnOf "need" "need" (am gj) (al gj) (ah gj) .none yg2 yg3 yg4 ygz yg5 yg6),yhh,(PySem.W.fnOf "is_name" "is_name" (am dt) (al dt) (ah dt) .none yhc yhd yhe yg9 yhf yhg),yhr,(PySem.W.fnOf "all_unlike" "all_unlike" (am ck) (al ck) (ah ck) .none yhm yhn yho yhj yhp yhq),yh1,(PySem.W.fnOf "is_choice" "is_choice" (am cA) (al cA) (ah cA) .none yhw yhx yhy yht yhz yh0),yib,(PySem.W.fnOf "check_phones" "check_phones" (am bJ) (al bJ) (ah bJ) .none yh6 yh7 yh8 yh3 yh9 yia),yil,(PySem.W.fnOf "check_groups" "check_groups" (am bK) (al bK) (ah bK) .none yig yih yii yid yij yik),yiv,(PySem.W.fnOf "check_wishes" "check_wishes" (am bF) (al bF) (ah bF) .none yiq yir yis yin yit yiu),yi5,(PySem.W.fnOf "check_plan" "check_plan" (am bZ) (al bZ) (ah bZ) .none yi0 yi1 yi2 yix yi3 yi4),yjf,(PySem.W.fnOf "_law_at" "_law_at" (am dZ) (al dZ) (ah dZ) .none yja yjb yjc yi7 yjd yje),yjp,(PySem.W.fnOf "_law_draw" "_law_draw" (am cR) (al cR) (ah cR) .none yjk yjl yjm yjh yjn yjo),yjz,(PySem.W.fnOf "_law_word" "_law_word" (am cS) (al cS) (ah cS) .none yju yjv yjw yjr yjx yjy),yj9,(PySem.W.fnOf "_law_some" "_law_some" (am cW) (al cW) (ah cW) .none yj4 yj5 yj6 yj1 yj7 yj8),ykj,(PySem.W.fnOf "_law_phones" "_law_phones" (am cq) (al cq) (ah cq) .none yke ykf ykg ykb ykh yki),ykt,(PySem.W.fnOf "_law_done" "_law_done" (am cV) (al cV) (ah cV) .none yko ykp ykq ykl ykr yks),yk3,(PySem.W.fnOf "_law_in" "_law_in" (am dY) (al dY) (ah dY) .none yky ykz yk0 ykv yk1 yk2),yld,(PySem.W.fnOf "_law_free" "_law_free" (am cT) (al cT) (ah cT) .none yk8 yk9 yla yk5 ylb ylc),yln,(PySem.W.fnOf "_law_due" "_law_due" (am dw) (al dw) (ah dw) .none yli ylj ylk ylf yll ylm),ylx,(PySem.W.fnOf "_law_other" "_law_other" (am cE) (al cE) (ah cE) .none yls ylt ylu ylp ylv ylw),yl7,(PySem.W.fnOf "law" "law" (am iD) (al iD) (ah iD) .none yl2 yl3 yl4 ylz yl5 yl6),ymh,(PySem.W.fnOf "__init__" "NoDeed.__init__" (am bP) (al bP) (ah bP) .none ymc ymd yme yl9 ymf ymg),ymr,(PySem.W.fnOf "__init__" "Board.__init__" (am ce) (al ce) (ah ce) .none ymm ymn ymo ymj ymp ymq),ym1,(PySem.W.fnOf "__init__" "Plan.__init__" (am cG) (al cG) (ah cG) .none ymw ymx ymy ymt ymz ym0),ynb,(PySem.W.fnOf "phone_names" "Plan.phone_names" (am aW) (al aW) (ah aW) .none ym6 ym7 ym8 ym3 ym9 yna),ynl,(PySem.W.fnOf "apply" "Board.apply" (am bU) (al bU) (ah bU) .none yng ynh yni ynd ynj ynk),ynv,(PySem.W.fnOf "ringable" "Board.ringable" (am bp) (al bp) (ah bp) .none ynq ynr yns ynn ynt ynu),yn5,(PySem.W.fnOf "manner" "Plan.manner" (am bT) (al bT) (ah bT) .none yn0 yn1 yn2 ynx yn3 yn4),yof,(PySem.W.fnOf "phones_of" "Plan.phones_of" (am bq) (al bq) (ah bq) .none yoa yob yoc yn7 yod yoe),yop,(PySem.W.fnOf "names" "Plan.names" (am cb) (al cb) (ah cb) .none yok yol yom yoh yon yoo),yoz,(PySem.W.fnOf "is_free" "Board.is_free" (am bz) (al bz) (ah bz) .none you yov yow yor yox yoy),yo9,(PySem.W.fnOf "__init__" "Call.__init__" (am cD) (al cD) (ah cD) .none yo4 yo5 yo6 yo1 yo7 yo8),ypj,(PySem.W.fnOf "waits_with" "Call.waits_with" (am be) (al be) (ah be) .none ype ypf ypg ypb yph ypi),ypt,(PySem.W.fnOf "is_tried_by" "Call.is_tried_by" (am aY) (al aY) (ah aY) .none ypo ypp ypq ypl ypr yps),yp3,(PySem.W.fnOf "add_leg" "Board.add_leg" (am bx) (al bx) (ah bx) .none ypy ypz yp0 ypv yp1 yp2),yqd,(PySem.W.fnOf "pass_turn" "Board.pass_turn" (am bg) (al bg) (ah bg) .none yp8 yp9 yqa yp5 yqb yqc),yqn,(PySem.W.fnOf "bound" "Board.bound" (am bR) (al bR) (ah bR) .none yqi yqj yqk yqf yql yqm),yqx,(PySem.W.fnOf "calling" "Board.calling" (am bA) (al bA) (ah bA) .none yqs yqt yqu yqp yqv yqw),yq7,(PySem.W.fnOf "used" "Board.used" (am cc) (al cc) (ah cc) .none yq2 yq3 yq4 yqz yq5 yq6),yrh,(PySem.W.fnOf "lines" "Plan.lines" (am cf) (al cf) (ah cf) .none yrc yrd yre yq9 yrf yrg),yrr,(PySem.W.fnOf "can_be_left_by" "Call.can_be_left_by" (am aO) (al aO) (ah aO) .none yrm yrn yro yrj yrp yrq),yr1,(PySem.W.fnOf "binds" "Call.binds" (am b9) (al b9) (ah b9) .none yrw yrx yry yrt yrz yr0),ysb,(PySem.W.fnOf "has" "Call.has" (am cY) (al cY) (ah cY) .none yr6 yr7 yr8 yr3 yr9 ysa),ysl,(PySem.W.fnOf "talks_with" "Call.talks_with" (am bf) (al bf) (ah bf) .none ysg ysh ysi ysd ysj ysk),ysm,ysn,yso,ysp,ysq⟩,?_,fun s u=>.of_eq rfl⟩
 exact ⟨PySem.W.mg_of X G yt2,
  yt5,
  aq (st:=du) yt3 yt4 yt5,
  (aq (st:=du) yt3 yt4 yt5).binds (ps:=["board","caller","target"]) fun _ _ _ _ _ _ us hl=>match us,hl with | [_,_,_],_=>rfl,
  PySem.W.mg_of X G yt6,
  yt9,
  aq (st:=bO) yt7 yt8 yt9,
  (aq (st:=bO) yt7 yt8 yt9).binds (ps:=["board","caller","target"]) fun _ _ _ _ _ _ us hl=>match us,hl with | [_,_,_],_=>rfl,
  PySem.W.mg_of X G yua,
  yud,
  aq (st:=aX) yub yuc yud,
  (aq (st:=aX) yub yuc yud).binds (ps:=["board","caller","target"]) fun _ _ _ _ _ _ us hl=>match us,hl with | [_,_,_],_=>rfl,
  PySem.W.mg_of X G yue,
  yuh,
  aq (st:=ft) yuf yug yuh,
  (aq (st:=ft) yuf yug yuh).binds (ps:=["board","caller","target","way"]) fun _ _ _ _ _ _ us hl=>match us,hl with | [_,_,_,_],_=>rfl,
  PySem.W.mg_of X G yui,
  yul,
  aq (st:=bv) yuj yuk yul,
  (aq (st:=bv) yuj yuk yul).binds (ps:=["answers"]) fun _ _ _ _ _ _ us hl=>match us,hl with | [_],_=>rfl,
  PySem.W.mg_of X G yum,
  yup,
  aq (st:=cX) yun yuo yup,
  (aq (st:=cX) yun yuo yup).binds (ps:=["call","word"]) fun _ _ _ _ _ _ us hl=>match us,hl with | [_,_],_=>rfl,
  PySem.W.mg_of X G yuq,
  yut,
  aq (st:=cj) yur yus yut,
  (aq (st:=cj) yur yus yut).binds (ps:=["call","phone"]) fun _ _ _ _ _ _ us hl=>match us,hl with | [_,_],_=>rfl,
  PySem.W.mg_of X G yuu,
  yux,
  aq (st:=bQ) yuv yuw yux,
  (aq (st:=bQ) yuv yuw yux).binds (ps:=["call","event"]) fun _ _ _ _ _ _ us hl=>match us,hl with | [_,_],_=>rfl,
  PySem.W.mg_of X G yuy,
  yu1,
  aq (st:=bh) yuz yu0 yu1,
  (aq (st:=bh) yuz yu0 yu1).binds (ps:=["board","phone"]) fun _ _ _ _ _ _ us hl=>match us,hl with | [_,_],_=>rfl,
  PySem.W.mg_of X G yu2,
  yu5,
  aq (st:=bu) yu3 yu4 yu5,
  (aq (st:=bu) yu3 yu4 yu5).binds (ps:=["board","phone","target"]) fun _ _ _ _ _ _ us hl=>match us,hl with | [_,_,_],_=>rfl,
  PySem.W.mg_of X G yu6,
  yu9,
  aq (st:=fq) yu7 yu8 yu9,
  (aq (st:=fq) yu7 yu8 yu9).binds (ps:=["word","phone","calls"]) fun _ _ _ _ _ _ us hl=>match us,hl with | [_,_,_],_=>rfl,
  PySem.W.mg_of X G yva,
  yvd,
  aq (st:=aV) yvb yvc yvd,
  (aq (st:=aV) yvb yvc yvd).binds (ps:=["board","word","phone","numbers"]) fun _ _ _ _ _ _ us hl=>match us,hl with | [_,_,_,_],_=>rfl,
  PySem.W.mg_of X G yve,
  yvh,
  aq (st:=dn) yvf yvg yvh,
  (aq (st:=dn) yvf yvg yvh).binds (ps:=["board","deed"]) fun _ _ _ _ _ _ us hl=>match us,hl with | [_,_],_=>rfl,
  PySem.W.mg_of X G yvi,
  yvl,
  aq (st:=cg) yvj yvk yvl,
  (aq (st:=cg) yvj yvk yvl).binds (ps:=["board","number","steps"]) fun _ _ _ _ _ _ us hl=>match us,hl with | [_,_,_],_=>rfl,
  PySem.W.mg_of X G yvm,
  yvp,
  aq (st:=bw) yvn yvo yvp,
  (aq (st:=bw) yvn yvo yvp).binds (ps:=["board","number","target","phones"]) fun _ _ _ _ _ _ us hl=>match us,hl with | [_,_,_,_],_=>rfl,
  PySem.W.mg_of X G yvq,
  yvt,
  aq (st:=bS) yvr yvs yvt,
  (aq (st:=bS) yvr yvs yvt).binds (ps:=["board","number","end"]) fun _ _ _ _ _ _ us hl=>match us,hl with | [_,_,_],_=>rfl,
  PySem.W.mg_of X G yvu,
  yvx,
  aq (st:=fu) yvv yvw yvx,
  (aq (st:=fu) yvv yvw yvx).binds (ps:=["board","number"]) fun _ _ _ _ _ _ us hl=>match us,hl with | [_,_],_=>rfl,
  PySem.W.mg_of X G yvy,
  yv1,
  aq (st:=cF) yvz yv0 yv1,
  (aq (st:=cF) yvz yv0 yv1).binds (ps:=["board","phone","target"]) fun _ _ _ _ _ _ us hl=>match us,hl with | [_,_,_],_=>rfl,
  PySem.W.mg_of X G yv2,
  yv5,
  aq (st:=dv) yv3 yv4 yv5,
  (aq (st:=dv) yv3 yv4 yv5).binds (ps:=["board","phone","number"]) fun _ _ _ _ _ _ us hl=>match us,hl with | [_,_,_],_=>rfl,
  PySem.W.mg_of X G yv6,
  yv9,
  aq (st:=cw) yv7 yv8 yv9,
  (aq (st:=cw) yv7 yv8 yv9).binds (ps:=["board","call"]) fun _ _ _ _ _ _ us hl=>match us,hl with | [_,_],_=>rfl,
  PySem.W.mg_of X G ywa,
  ywd,
  aq (st:=bB) ywb ywc ywd,
  (aq (st:=bB) ywb ywc ywd).binds (ps:=["board"]) fun _ _ _ _ _ _ us hl=>match us,hl with | [_],_=>rfl,
  PySem.W.mg_of X G ywe,
  ywh,
  aq (st:=cU) ywf ywg ywh,
  (aq (st:=cU) ywf ywg ywh).binds (ps:=["board","deed"]) fun _ _ _ _ _ _ us hl=>match us,hl with | [_,_],_=>rfl,
  PySem.W.mg_of X G ywi,
  ywl,
  aq (st:=iC) ywj ywk ywl,
  (aq (st:=iC) ywj ywk ywl).binds (ps:=["board","deed"]) fun _ _ _ _ _ _ us hl=>match us,hl with | [_,_],_=>rfl,
  PySem.W.mg_of X G ywm,
  ywp,
  aq (st:=lN) ywn ywo ywp,
  (aq (st:=lN) ywn ywo ywp).binds (ps:=["board","deed"]) fun _ _ _ _ _ _ us hl=>match us,hl with | [_,_],_=>rfl,
  PySem.W.mg_of X G ywq,
  ywt,
  aq (st:=gj) ywr yws ywt,
  (aq (st:=gj) ywr yws ywt).binds (ps:=["holds","words"]) fun _ _ _ _ _ _ us hl=>match us,hl with | [_,_],_=>rfl,
  PySem.W.mg_of X G ywu,
  ywx,
  aq (st:=dt) ywv yww ywx,
  (aq (st:=dt) ywv yww ywx).binds (ps:=["text"]) fun _ _ _ _ _ _ us hl=>match us,hl with | [_],_=>rfl,
  PySem.W.mg_of X G ywy,
  yw1,
  aq (st:=ck) ywz yw0 yw1,
  (aq (st:=ck) ywz yw0 yw1).binds (ps:=["things"]) fun _ _ _ _ _ _ us hl=>match us,hl with | [_],_=>rfl,
  PySem.W.mg_of X G yw2,
  yw5,
  aq (st:=cA) yw3 yw4 yw5,
  (aq (st:=cA) yw3 yw4 yw5).binds (ps:=["chosen","known","most"]) fun _ _ _ _ _ _ us hl=>match us,hl with | [_,_,_],_=>rfl,
  PySem.W.mg_of X G yw6,
  yw9,
  aq (st:=bJ) yw7 yw8 yw9,
  (aq (st:=bJ) yw7 yw8 yw9).binds (ps:=["phones"]) fun _ _ _ _ _ _ us hl=>match us,hl with | [_],_=>rfl,
  PySem.W.mg_of X G yxa,
  yxd,
  aq (st:=bK) yxb yxc yxd,
  (aq (st:=bK) yxb yxc yxd).binds (ps:=["groups","phone_names"]) fun _ _ _ _ _ _ us hl=>match us,hl with | [_,_],_=>rfl,
  PySem.W.mg_of X G yxe,
  yxh,
  aq (st:=bF) yxf yxg yxh,
  (aq (st:=bF) yxf yxg yxh).binds (ps:=["wishes","phone_names","names"]) fun _ _ _ _ _ _ us hl=>match us,hl with | [_,_,_],_=>rfl,
  PySem.W.mg_of X G yxi,
  yxl,
  aq (st:=bZ) yxj yxk yxl,
  (aq (st:=bZ) yxj yxk yxl).binds (ps:=["phones","groups","wishes"]) fun _ _ _ _ _ _ us hl=>match us,hl with | [_,_,_],_=>rfl,
  PySem.W.mg_of X G yxm,
  yxp,
  aq (st:=dZ) yxn yxo yxp,
  (aq (st:=dZ) yxn yxo yxp).binds (ps:=["_law_script","_law_k"]) fun _ _ _ _ _ _ us hl=>match us,hl with | [_,_],_=>rfl,
  PySem.W.mg_of X G yxq,
  yxt,
  aq (st:=cR) yxr yxs yxt,
  (aq (st:=cR) yxr yxs yxt).binds (ps:=["_law_cell","_law_factor","_law_many"]) fun _ _ _ _ _ _ us hl=>match us,hl with | [_,_,_],_=>rfl,
  PySem.W.mg_of X G yxu,
  yxx,
  aq (st:=cS) yxv yxw yxx,
  (aq (st:=cS) yxv yxw yxx).binds (ps:=["_law_seed","_law_which"]) fun _ _ _ _ _ _ us hl=>match us,hl with | [_,_],_=>rfl,
  PySem.W.mg_of X G yxy,
  yx1,
  aq (st:=cW) yxz yx0 yx1,
  (aq (st:=cW) yxz yx0 yx1).binds (ps:=["_law_row","_law_cell","_law_most"]) fun _ _ _ _ _ _ us hl=>match us,hl with | [_,_,_],_=>rfl,
  PySem.W.mg_of X G yx2,
  yx5,
  aq (st:=cq) yx3 yx4 yx5,
  (aq (st:=cq) yx3 yx4 yx5).binds (ps:=["_law_seed","_law_most"]) fun _ _ _ _ _ _ us hl=>match us,hl with | [_,_],_=>rfl,
  PySem.W.mg_of X G yx6,
  yx9,
  aq (st:=cV) yx7 yx8 yx9,
  (aq (st:=cV) yx7 yx8 yx9).binds (ps:=["_law_board","_law_deed"]) fun _ _ _ _ _ _ us hl=>match us,hl with | [_,_],_=>rfl,
  PySem.W.mg_of X G yya,
  yyd,
  aq (st:=dY) yyb yyc yyd,
  (aq (st:=dY) yyb yyc yyd).binds (ps:=["_law_call","_law_phone"]) fun _ _ _ _ _ _ us hl=>match us,hl with | [_,_],_=>rfl,
  PySem.W.mg_of X G yye,
  yyh,
  aq (st:=cT) yyf yyg yyh,
  (aq (st:=cT) yyf yyg yyh).binds (ps:=["_law_board","_law_phones_here","_law_name"]) fun _ _ _ _ _ _ us hl=>match us,hl with | [_,_,_],_=>rfl,
  PySem.W.mg_of X G yyi,
  yyl,
  aq (st:=dw) yyj yyk yyl,
  (aq (st:=dw) yyj yyk yyl).binds (ps:=["_law_board","_law_phones_here","_law_group","_law_places","_law_caller"]) fun _ _ _ _ _ _ us hl=>match us,hl with | [_,_,_,_,_],_=>rfl,
  PySem.W.mg_of X G yym,
  yyp,
  aq (st:=cE) yyn yyo yyp,
  (aq (st:=cE) yyn yyo yyp).binds (ps:=["_law_board","_law_cell","_law_own"]) fun _ _ _ _ _ _ us hl=>match us,hl with | [_,_,_],_=>rfl,
  PySem.W.mg_of X G yyq,
  yyt,
  aq (st:=iD) yyr yys yyt,
  (aq (st:=iD) yyr yys yyt).binds (ps:=["_law_script"]) fun _ _ _ _ _ _ us hl=>match us,hl with | [_],_=>rfl,
  yyx,
  aq (st:=bP) yyv yyw yyx,
  (aq (st:=bP) yyv yyw yyx).binds (ps:=["self","word"]) fun _ _ _ _ _ _ us hl=>match us,hl with | [_,_],_=>rfl,
  yy1,
  aq (st:=ce) yyz yy0 yy1,
  (aq (st:=ce) yyz yy0 yy1).binds (ps:=["self","plan","hour"]) fun _ _ _ _ _ _ us hl=>match us,hl with | [_,_,_],_=>rfl,
  yy5,
  aq (st:=cG) yy3 yy4 yy5,
  (aq (st:=cG) yy3 yy4 yy5).binds (ps:=["self","phones","groups","wishes"]) fun _ _ _ _ _ _ us hl=>match us,hl with | [_,_,_,_],_=>rfl,
  yy9,
  aq (st:=aW) yy7 yy8 yy9,
  (aq (st:=aW) yy7 yy8 yy9).binds (ps:=["self"]) fun _ _ _ _ _ _ us hl=>match us,hl with | [_],_=>rfl,
  yzd,
  aq (st:=bU) yzb yzc yzd,
  (aq (st:=bU) yzb yzc yzd).binds (ps:=["self","event"]) fun _ _ _ _ _ _ us hl=>match us,hl with | [_,_],_=>rfl,
  yzh,
  aq (st:=bp) yzf yzg yzh,
  (aq (st:=bp) yzf yzg yzh).binds (ps:=["self","caller","target"]) fun _ _ _ _ _ _ us hl=>match us,hl with | [_,_,_],_=>rfl,
  yzl,
  aq (st:=bT) yzj yzk yzl,
  (aq (st:=bT) yzj yzk yzl).binds (ps:=["self","name"]) fun _ _ _ _ _ _ us hl=>match us,hl with | [_,_],_=>rfl,
  yzp,
  aq (st:=bq) yzn yzo yzp,
  (aq (st:=bq) yzn yzo yzp).binds (ps:=["self","name"]) fun _ _ _ _ _ _ us hl=>match us,hl with | [_,_],_=>rfl,
  yzt,
  aq (st:=cb) yzr yzs yzt,
  (aq (st:=cb) yzr yzs yzt).binds (ps:=["self"]) fun _ _ _ _ _ _ us hl=>match us,hl with | [_],_=>rfl,
  yzx,
  aq (st:=bz) yzv yzw yzx,
  (aq (st:=bz) yzv yzw yzx).binds (ps:=["self","phone"]) fun _ _ _ _ _ _ us hl=>match us,hl with | [_,_],_=>rfl,
  yz1,
  aq (st:=cD) yzz yz0 yz1,
  (aq (st:=cD) yzz yz0 yz1).binds (ps:=["self","caller"]) fun _ _ _ _ _ _ us hl=>match us,hl with | [_,_],_=>rfl,
  yz5,
  aq (st:=be) yz3 yz4 yz5,
  (aq (st:=be) yz3 yz4 yz5).binds (ps:=["self","phone"]) fun _ _ _ _ _ _ us hl=>match us,hl with | [_,_],_=>rfl,
  yz9,
  aq (st:=aY) yz7 yz8 yz9,
  (aq (st:=aY) yz7 yz8 yz9).binds (ps:=["self","phone"]) fun _ _ _ _ _ _ us hl=>match us,hl with | [_,_],_=>rfl,
  y0d,
  aq (st:=bx) y0b y0c y0d,
  (aq (st:=bx) y0b y0c y0d).binds (ps:=["self","leg"]) fun _ _ _ _ _ _ us hl=>match us,hl with | [_,_],_=>rfl,
  y0h,
  aq (st:=bg) y0f y0g y0h,
  (aq (st:=bg) y0f y0g y0h).binds (ps:=["self"]) fun _ _ _ _ _ _ us hl=>match us,hl with | [_],_=>rfl,
  y0l,
  aq (st:=bR) y0j y0k y0l,
  (aq (st:=bR) y0j y0k y0l).binds (ps:=["self","phone"]) fun _ _ _ _ _ _ us hl=>match us,hl with | [_,_],_=>rfl,
  y0p,
  aq (st:=bA) y0n y0o y0p,
  (aq (st:=bA) y0n y0o y0p).binds (ps:=["self","phone"]) fun _ _ _ _ _ _ us hl=>match us,hl with | [_,_],_=>rfl,
  y0t,
  aq (st:=cc) y0r y0s y0t,
  (aq (st:=cc) y0r y0s y0t).binds (ps:=["self","phone"]) fun _ _ _ _ _ _ us hl=>match us,hl with | [_,_],_=>rfl,
  y0x,
  aq (st:=cf) y0v y0w y0x,
  (aq (st:=cf) y0v y0w y0x).binds (ps:=["self","phone"]) fun _ _ _ _ _ _ us hl=>match us,hl with | [_,_],_=>rfl,
  y01,
  aq (st:=aO) y0z y00 y01,
  (aq (st:=aO) y0z y00 y01).binds (ps:=["self","phone"]) fun _ _ _ _ _ _ us hl=>match us,hl with | [_,_],_=>rfl,
  y05,
  aq (st:=b9) y03 y04 y05,
  (aq (st:=b9) y03 y04 y05).binds (ps:=["self","phone"]) fun _ _ _ _ _ _ us hl=>match us,hl with | [_,_],_=>rfl,
  y09,
  aq (st:=cY) y07 y08 y09,
  (aq (st:=cY) y07 y08 y09).binds (ps:=["self","phone"]) fun _ _ _ _ _ _ us hl=>match us,hl with | [_,_],_=>rfl,
  y1d,
  aq (st:=bf) y1b y1c y1d,
  (aq (st:=bf) y1b y1c y1d).binds (ps:=["self","phone"]) fun _ _ _ _ _ _ us hl=>match us,hl with | [_,_],_=>rfl,
  PySem.W.mg_of X G ytx,
  ⟨y1e,y1f,y1g,y1h⟩,
  PySem.W.mg_of X G yty,
  ⟨y1i,y1j,y1k,y1l⟩,
  PySem.W.mg_of X G ytz,
  ⟨y1m,y1n,y1o,y1p⟩,
  PySem.W.mg_of X G yt0,
  PySem.W.mg_of X G yt1,
  sU y3q y3r y3s y3t y3u y3v y3w y3x yyv y3y,
  rO y3q y3z y30,
  y31,
  wg y32 y34 y35 y33,
  ⟨y1q,y1r,y1s,y1t⟩,
  ⟨y1u,y1v,y1w,y1x⟩,
  ⟨y1y,y1z,y10,y11⟩,
  ⟨y12,y13,yy9⟩,
  ⟨y14,y15,yzd⟩,
  ⟨y16,y17,yzh⟩,
  ⟨y18,y19,yzl⟩,
  ⟨y2a,y2b,yzp⟩,
  ⟨y2c,y2d,yzt⟩,
  ⟨y2e,y2f,yzx⟩,
  ⟨y2g,y2h,yz5⟩,
  ⟨y2i,y2j,yz9⟩,
  ⟨y2k,y2l,y0d⟩,
  ⟨y2m,y2n,y0h⟩,
  ⟨y2o,y2p,y0l⟩,
  ⟨y2q,y2r,y0p⟩,
  ⟨y2s,y2t,y0t⟩,
  ⟨y2u,y2v,y0x⟩,
  ⟨y2w,y2x,y01⟩,
  ⟨y2y,y2z,y05⟩,
  ⟨y20,y21,y09⟩,
  ⟨y22,y23,y1d⟩,
  y24,
  y25,
  y26,
  y27,
  y28,
  y29,
  y3a,
  y3b,
  y3c,
  y3d,
  y3e,
  y3f,
  y3g,
  y3h,
  y3i,
  y3j,
  y3k,
  y3l,
  y3m,
  y3n,
  y3o,
  y3p,
  PySem.W.mg_none_of X G y36,
  PySem.W.mg_none_of X G y37,
  PySem.W.mg_none_of X G y38,
  PySem.W.mg_none_of X G y39,
  PySem.W.mg_none_of X G y4a,
  PySem.W.mg_none_of X G y4b,
  PySem.W.mg_none_of X G y4c,
  PySem.W.mg_none_of X G y4d,
  PySem.W.mg_none_of X G y4e,
  iL (PySem.W.mg_of X G y4f),
  iL (PySem.W.mg_of X G y4g),
  iL (PySem.W.mg_of X G y4h),
  iL (PySem.W.mg_of X G y4i),
  vh (PySem.W.mg_of X G y4j) (sG (ss:=["all","turns"]) y4k (.cons ⟨_,rfl⟩ (.cons ⟨_,rfl⟩ .nil)) (Nat.le_of_ble_eq_true rfl)),
  iL (PySem.W.mg_of X G y4l),
  iL (PySem.W.mg_of X G y4m),
  iL (PySem.W.mg_of X G y4n),
  xG (PySem.W.mg_of X G y4o)⟩
end Z
def PySem.W.Fast.tw1268180888294097267:Nat:=0
def PySem.W.Fast.tw11926144168314619452:Nat:=0
def PySem.W.Fast.tw3057588607220783630:Nat:=0
def PySem.W.Fast.tw7803316732178883802:Nat:=0
def PySem.W.Fast.tw8725304373081435054:Nat:=0
def PySem.W.Fast.tw18152269731222881057:Nat:=0
def PySem.W.Fast.tw3285240701009755864:Nat:=0
def PySem.W.Fast.tw7139494225631855121:Nat:=0
def PySem.W.Fast.tw18026559275195649692:Nat:=0
def PySem.W.Fast.tw15358451281851518719:Nat:=0
def PySem.W.Fast.tw2540158996388809230:Nat:=0
def PySem.W.Fast.tw12856918797785259364:Nat:=0
def PySem.W.Fast.tw13178959020996780442:Nat:=0
def PySem.W.Fast.tw13119843853019971243:Nat:=0
def PySem.W.Fast.tw14642271829583356788:Nat:=0
def PySem.W.Fast.tw8963192156475963290:Nat:=0
def PySem.W.Fast.tw17574955500134160808:Nat:=0
def PySem.W.Fast.tw9511506074837620692:Nat:=0
def PySem.W.Fast.tw14347670456355188826:Nat:=0
def PySem.W.Fast.tw9048249999089658546:Nat:=0
def PySem.W.Fast.tw11421167658802691796:Nat:=0
def PySem.W.Fast.tw12555324765745937159:Nat:=0
def PySem.W.Fast.tw14487171843578929080:Nat:=0
def PySem.W.Fast.tw9971332279800435228:Nat:=0
def PySem.W.Fast.tw15233648098835245524:Nat:=0
def PySem.W.Fast.tw15130845210555403732:Nat:=0
def PySem.W.Fast.tw11126994331633336144:Nat:=0
def PySem.W.Fast.tw13374076742388383621:Nat:=0
def PySem.W.Fast.tw15865279748486092437:Nat:=0
def PySem.W.Fast.tw6375651523809292145:Nat:=0
def PySem.W.Fast.tw14154664346028078329:Nat:=0
def PySem.W.Fast.tw8605466788459298710:Nat:=0
def PySem.W.Fast.tw15023467818881017936:Nat:=0
def PySem.W.Fast.tw9611906595453475788:Nat:=0
def PySem.W.Fast.tw8999948773514358084:Nat:=0
def PySem.W.Fast.tw10893775222796799074:Nat:=0
def PySem.W.Fast.tw10193006712274444085:Nat:=0
def PySem.W.Fast.tw9349327868100785603:Nat:=0
def PySem.W.Fast.tw16478882885182742902:Nat:=0
def PySem.W.Fast.tw10844925967680226077:Nat:=0
def PySem.W.Fast.tw6101129707387318388:Nat:=0
def PySem.W.Fast.tw7814097872894617015:Nat:=0
def PySem.W.Fast.tw18202495438088371151:Nat:=0
def PySem.W.Fast.tw15529272379048464850:Nat:=0
def PySem.W.Fast.tw15718415583326912852:Nat:=0
def PySem.W.Fast.tw16123265711275783796:Nat:=0
def PySem.W.Fast.tw14759218089903857220:Nat:=0
def PySem.W.Fast.tw7219629092675574072:Nat:=0
def PySem.W.Fast.tw3763417746548937732:Nat:=0
def PySem.W.Fast.tw8466188212105557499:Nat:=0
def PySem.W.Fast.tw9889321270655041371:Nat:=0
def PySem.W.Fast.tw836667621844857155:Nat:=0
def PySem.W.Fast.tw6143397211724862233:Nat:=0
def PySem.W.Fast.tw7721954326806994866:Nat:=0
def PySem.W.Fast.tw920939496351638339:Nat:=0
def PySem.W.Fast.tw13079435151923075301:Nat:=0
def PySem.W.Fast.tw8629259368736951467:Nat:=0
def PySem.W.Fast.tw14436694973960545902:Nat:=0
def PySem.W.Fast.tw6734868763106737201:Nat:=0
def PySem.W.Fast.tw12268704030153208043:Nat:=0
def PySem.W.Fast.tw14784168410759637898:Nat:=0
def PySem.W.Fast.tw3141579939925181825:Nat:=0
def PySem.W.Fast.tw5335051046485832784:Nat:=0
def PySem.W.Fast.tw16872161358342538017:Nat:=0
def PySem.W.Fast.tw5167424085315554864:Nat:=0
def PySem.W.Fast.tw9425981739345543069:Nat:=0
def PySem.W.Fast.tw5796619296775241626:Nat:=0
def PySem.W.Fast.tw923872529813598847:Nat:=0
def PySem.W.Fast.tw12562871263854127433:Nat:=0
def PySem.W.Fast.tw15715923690476643006:Nat:=0
def PySem.W.Fast.tw10309741463268756260:Nat:=0
def PySem.W.Fast.tw15639960660441838481:Nat:=0
open PySem PySem.W PyProof.Rows
set_option maxRecDepth 100000 in
set_option maxHeartbeats 0 in
theorem PySem.Challenge.cw_callboard_k33_groups_in_turns_holds : PySem.Challenge.rw_callboard_k33_groups_in_turns.Holds := by
 w_on; o_law; k_head; (case hw=>w_witness2)
 k_fill
 refine L3.uo (l:=PySem.Challenge.rw_callboard_k33_groups_in_turns) (sp:=Z.uq) (k:=13) (x:="_law_script") rfl rfl ⟨rfl,by decide,by decide⟩ (fun w h Y=>PySem.W.kIn_of Y) (fun ns hl=>⟨ns,rfl,hl,rfl⟩) ?F
 case F =>
  intro w mg fa h KX G hmg
  suffices h:∃ a:Z.Ad,Z.Gl _ mg a∧∀ (s:Shared) (u:Value),BindsTo s a.fd_law ⟨[u],[]⟩ [("_law_script",u)] by
   obtain ⟨a,g,hb⟩:=h
   have e:=hmg.symm.trans g.mg_law
   cases e
   exact ⟨a.fd_law,hb,fun base _ _=>Z.yK g⟩
  refine' Z.xK KX G ?ytx ?yty ?ytz ?yt0 ?yt1 ?yt2 ?yt3 ?yt4 ?yt5 ?yt6 ?yt7 ?yt8 ?yt9 ?yua ?yub ?yuc ?yud ?yue ?yuf ?yug ?yuh ?yui ?yuj ?yuk ?yul ?yum ?yun ?yuo ?yup ?yuq ?yur ?yus ?yut ?yuu ?yuv ?yuw ?yux ?yuy ?yuz ?yu0 ?yu1 ?yu2 ?yu3 ?yu4 ?yu5 ?yu6 ?yu7 ?yu8 ?yu9 ?yva ?yvb ?yvc ?yvd ?yve ?yvf ?yvg ?yvh ?yvi ?yvj ?yvk ?yvl ?yvm ?yvn ?yvo ?yvp ?yvq ?yvr ?yvs ?yvt ?yvu ?yvv ?yvw ?yvx ?yvy ?yvz ?yv0 ?yv1 ?yv2 ?yv3 ?yv4 ?yv5 ?yv6 ?yv7 ?yv8 ?yv9 ?ywa ?ywb ?ywc ?ywd ?ywe ?ywf ?ywg ?ywh ?ywi ?ywj ?ywk ?ywl ?ywm ?ywn ?ywo ?ywp ?ywq ?ywr ?yws ?ywt ?ywu ?ywv ?yww ?ywx ?ywy ?ywz ?yw0 ?yw1 ?yw2 ?yw3 ?yw4 ?yw5 ?yw6 ?yw7 ?yw8 ?yw9 ?yxa ?yxb ?yxc ?yxd ?yxe ?yxf ?yxg ?yxh ?yxi ?yxj ?yxk ?yxl ?yxm ?yxn ?yxo ?yxp ?yxq ?yxr ?yxs ?yxt ?yxu ?yxv ?yxw ?yxx ?yxy ?yxz ?yx0 ?yx1 ?yx2 ?yx3 ?yx4 ?yx5 ?yx6 ?yx7 ?yx8 ?yx9 ?yya ?yyb ?yyc ?yyd ?yye ?yyf ?yyg ?yyh ?yyi ?yyj ?yyk ?yyl ?yym ?yyn ?yyo ?yyp ?yyq ?yyr ?yys ?yyt ?yyu ?yyv ?yyw ?yyx ?yyy ?yyz ?yy0 ?yy1 ?yy2 ?yy3 ?yy4 ?yy5 ?yy6 ?yy7 ?yy8 ?yy9 ?yza ?yzb ?yzc ?yzd ?yze ?yzf ?yzg ?yzh ?yzi ?yzj ?yzk ?yzl ?yzm ?yzn ?yzo ?yzp ?yzq ?yzr ?yzs ?yzt ?yzu ?yzv ?yzw ?yzx ?yzy ?yzz ?yz0 ?yz1 ?yz2 ?yz3 ?yz4 ?yz5 ?yz6 ?yz7 ?yz8 ?yz9 ?y0a ?y0b ?y0c ?y0d ?y0e ?y0f ?y0g ?y0h ?y0i ?y0j ?y0k ?y0l ?y0m ?y0n ?y0o ?y0p ?y0q ?y0r ?y0s ?y0t ?y0u ?y0v ?y0w ?y0x ?y0y ?y0z ?y00 ?y01 ?y02 ?y03 ?y04 ?y05 ?y06 ?y07 ?y08 ?y09 ?y1a ?y1b ?y1c ?y1d ?y1e ?y1f ?y1g ?y1h ?y1i ?y1j ?y1k ?y1l ?y1m ?y1n ?y1o ?y1p ?y1q ?y1r ?y1s ?y1t ?y1u ?y1v ?y1w ?y1x ?y1y ?y1z ?y10 ?y11 ?y12 ?y13 ?y14 ?y15 ?y16 ?y17 ?y18 ?y19 ?y2a ?y2b ?y2c ?y2d ?y2e ?y2f ?y2g ?y2h ?y2i ?y2j ?y2k ?y2l ?y2m ?y2n ?y2o ?y2p ?y2q ?y2r ?y2s ?y2t ?y2u ?y2v ?y2w ?y2x ?y2y ?y2z ?y20 ?y21 ?y22 ?y23 ?y24 ?y25 ?y26 ?y27 ?y28 ?y29 ?y3a ?y3b ?y3c ?y3d ?y3e ?y3f ?y3g ?y3h ?y3i ?y3j ?y3k ?y3l ?y3m ?y3n ?y3o ?y3p ?y3q ?y3r ?y3s ?y3t ?y3u ?y3v ?y3w ?y3x ?y3y ?y3z ?y30 ?y31 ?y32 ?y33 ?y34 ?y35 ?y36 ?y37 ?y38 ?y39 ?y4a ?y4b ?y4c ?y4d ?y4e ?y4f ?y4g ?y4h ?y4i ?y4j ?y4k ?y4l ?y4m ?y4n ?y4o
  (case ytx|yty|ytz|yt0|yt1|yt2|yt3|yt4|yt5|yt6|yt7|yt8|yt9|yua|yub|yuc|yud|yue|yuf|yug|yuh|yui|yuj|yuk|yul|yum|yun|yuo|yup|yuq|yur|yus|yut|yuu|yuv|yuw|yux|yuy|yuz|yu0=>k_is)
  (case yu1|yu2|yu3|yu4|yu5|yu6|yu7|yu8|yu9|yva|yvb|yvc|yvd|yve|yvf|yvg|yvh|yvi|yvj|yvk|yvl|yvm|yvn|yvo|yvp|yvq|yvr|yvs|yvt|yvu|yvv|yvw|yvx|yvy|yvz|yv0|yv1|yv2|yv3|yv4=>k_is)
  (case yv5|yv6|yv7|yv8|yv9|ywa|ywb|ywc|ywd|ywe|ywf|ywg|ywh|ywi|ywj|ywk|ywl|ywm|ywn|ywo|ywp|ywq|ywr|yws|ywt|ywu|ywv|yww|ywx|ywy|ywz|yw0|yw1|yw2|yw3|yw4|yw5|yw6|yw7|yw8=>k_is)
  (case yw9|yxa|yxb|yxc|yxd|yxe|yxf|yxg|yxh|yxi|yxj|yxk|yxl|yxm|yxn|yxo|yxp|yxq|yxr|yxs|yxt|yxu|yxv|yxw|yxx|yxy|yxz|yx0|yx1|yx2|yx3|yx4|yx5|yx6|yx7|yx8|yx9|yya|yyb|yyc=>k_is)
  (case yyd|yye|yyf|yyg|yyh|yyi|yyj|yyk|yyl|yym|yyn|yyo|yyp|yyq|yyr|yys|yyt|yyu|yyv|yyw|yyx|yyy|yyz|yy0|yy1|yy2|yy3|yy4|yy5|yy6|yy7|yy8|yy9|yza|yzb|yzc|yzd|yze|yzf|yzg=>k_is)
  (case yzh|yzi|yzj|yzk|yzl|yzm|yzn|yzo|yzp|yzq|yzr|yzs|yzt|yzu|yzv|yzw|yzx|yzy|yzz|yz0|yz1|yz2|yz3|yz4|yz5|yz6|yz7|yz8|yz9|y0a|y0b|y0c|y0d|y0e|y0f|y0g|y0h|y0i|y0j|y0k=>k_is)
  (case y0l|y0m|y0n|y0o|y0p|y0q|y0r|y0s|y0t|y0u|y0v|y0w|y0x|y0y|y0z|y00|y01|y02|y03|y04|y05|y06|y07|y08|y09|y1a|y1b|y1c|y1d|y1e|y1f|y1g|y1h|y1i|y1j|y1k|y1l|y1m|y1n|y1o=>k_is)
  (case y1p|y1q|y1r|y1s|y1t|y1u|y1v|y1w|y1x|y1y|y1z|y10|y11|y12|y13|y14|y15|y16|y17|y18|y19|y2a|y2b|y2c|y2d|y2e|y2f|y2g|y2h|y2i|y2j|y2k|y2l|y2m|y2n|y2o|y2p|y2q|y2r|y2s=>k_is)
  (case y2t|y2u|y2v|y2w|y2x|y2y|y2z|y20|y21|y22|y23|y24|y25|y26|y27|y28|y29|y3a|y3b|y3c|y3d|y3e|y3f|y3g|y3h|y3i|y3j|y3k|y3l|y3m|y3n|y3o|y3p|y3q|y3r=>k_is)
  (case y3s|y3t=>rfl)
  (case y3u|y3v=>k_is)
  (case y3w|y3x=>rfl)
  (case y3y|y3z|y30|y31|y32|y33|y34|y35|y36|y37|y38|y39|y4a|y4b|y4c|y4d|y4e|y4f|y4g|y4h|y4i|y4j|y4k|y4l|y4m|y4n|y4o=>k_is)
