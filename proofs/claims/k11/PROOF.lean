import PyProof.Rows.All
import Wide.All
import OpenK.AllK
import Wide.FinOn
import PyProof.EqAt
import PyProof.EqKinds
import PyProof.TupleCall
import PyProof.AttrMiss
import PyProof.IsiH_list
import PyProof.Rows.SetFrom
import KE.KDictOf
import KE.KTab
import PyProof.AutoListH
import KE.KSortTup
import KE.KItemsList
import KE.KEqDict
import Lean
import PySem.Challenge.RW_callboard_k11_wishes_made
set_option Elab.async false
set_option linter.all false
set_option maxRecDepth 100000
set_option maxHeartbeats 4000000
namespace L2
open PySem PySem.Spec PyProof.Rows
abbrev Key := Sum Int Str
def keyIs : Key → Value → Bool
  | .inl k, v => Value.isInt k v
  | .inr x, v => Value.isStrOf x v
def keyH (w : World) : Key → Int
  | .inl k => hashInt k
  | .inr x => hashStr w x
theorem keyIs_shape : ∀ {k : Key} {v : Value}, keyIs k v = true → (∃ i t, k = Sum.inl i ∧ v = Value.int i t) ∨ (∃ x t, k = Sum.inr x ∧ v = Value.str x t)
  | .inl i, v, h => by
    obtain ⟨t, e⟩ := Value.isInt_shape (k := i) (v := v) h
    exact .inl ⟨i, t, rfl, e⟩
  | .inr x, v, h => by
    obtain ⟨t, e⟩ := Value.isStrOf_shape (x := x) (v := v) h
    exact .inr ⟨x, t, rfl, e⟩
theorem key_ll (a b : Int) : decide ((Sum.inl a : Key) = Sum.inl b) = (a == b) := by
  by_cases e : a = b
  · subst e; simp
  · have h : ¬ (Sum.inl a : Key) = Sum.inl b := fun q => e (Sum.inl.inj q)
    rw [decide_eq_false h]
    exact (beq_eq_false_iff_ne.mpr e).symm
theorem key_rr (a b : Str) : decide ((Sum.inr a : Key) = Sum.inr b) = decide (a = b) := by
  by_cases e : a = b
  · subst e; simp
  · have h : ¬ (Sum.inr a : Key) = Sum.inr b := fun q => e (Sum.inr.inj q)
    rw [decide_eq_false h, decide_eq_false e]
theorem key_lr (a : Int) (b : Str) : decide ((Sum.inl a : Key) = Sum.inr b) = false := decide_eq_false (fun q => nomatch q)
theorem key_rl (a : Str) (b : Int) : decide ((Sum.inr a : Key) = Sum.inl b) = false := decide_eq_false (fun q => nomatch q)
def mixKind (prog : Program) (w : World) : PySem.KeyKind prog w Key where
  is := keyIs
  hash := keyH w
  inj := fun v a b ha hb => by
    rcases keyIs_shape ha with ⟨i, t, rfl, rfl⟩ | ⟨x, t, rfl, rfl⟩
    · rcases keyIs_shape hb with ⟨j, u, rfl, e⟩ | ⟨y, u, rfl, e⟩
      · injection e with e1 _; rw [e1]
      · exact nomatch e
    · rcases keyIs_shape hb with ⟨j, u, rfl, e⟩ | ⟨y, u, rfl, e⟩
      · exact nomatch e
      · injection e with e1 _; rw [e1]
  byValue := fun k v h => by
    rcases keyIs_shape h with ⟨i, t, rfl, rfl⟩ | ⟨x, t, rfl, rfl⟩ <;> rfl
  pyHash := fun hv h => by
    rcases keyIs_shape hv with ⟨i, t, rfl, rfl⟩ | ⟨x, t, rfl, rfl⟩
    · exact wpAny_pyHash_int h
    · exact wpAny_pyHash_str h
  eqBool := fun hu hv h => by
    rcases keyIs_shape hu with ⟨i, t, rfl, rfl⟩ | ⟨x, t, rfl, rfl⟩
    · rcases keyIs_shape hv with ⟨j, u, rfl, rfl⟩ | ⟨y, u, rfl, rfl⟩
      · rw [key_ll] at h; exact wpAny_eqBool_int h
      · rw [key_lr] at h; exact SeqAt.EqAt.int_str i t y u _ _ _ _ h
    · rcases keyIs_shape hv with ⟨j, u, rfl, rfl⟩ | ⟨y, u, rfl, rfl⟩
      · rw [key_rl] at h; exact SeqAt.EqAt.str_int x t j u _ _ _ _ h
      · rw [key_rr] at h; exact wpAny_eqBool_str h
  «strs» := fun k x t v h => by
    rcases keyIs_shape h with ⟨i, u, rfl, e⟩ | ⟨y, u, rfl, e⟩
    · exact nomatch e
    · injection e with e1 _
      subst e1
      cases v <;> rfl
end L2
namespace L2
open PySem PySem.Spec PyProof.Rows
inductive V where
  | non | bl (b : Bool) | int (i : Int) | str (x : Str) | byt (b : Array UInt8) | flt (b : UInt64) | ref (a : Addr) | ty (n : String)
  deriving DecidableEq
def RelV : V → Value → Prop
  | .non, u => u = Value.none
  | .bl b, u => u = Value.bool b
  | .int i, u => ∃ t, u = Value.int i t
  | .str x, u => ∃ t, u = Value.str x t
  | .byt b, u => ∃ t, u = Value.bytes b t
  | .flt b, u => ∃ t, u = Value.float b t
  | .ref a, u => u = Value.ref a
  | .ty n, u => u = Value.type n
abbrev Vals : List V → List Value → Prop := Paired RelV
theorem Vals.length {xs : List V} {us : List Value} (r : Vals xs us) : xs.length = us.length := Paired.length r
theorem Vals.get : ∀ {xs : List V} {us : List Value} {i : Nat} {x : V}, Vals xs us → xs[i]? = some x → ∃ u, us[i]? = some u ∧ RelV x u
  | _, _, _, _, .nil, e => by simp at e
  | _, _, 0, _, .cons r _, e => by simp at e; subst e; exact ⟨_, rfl, r⟩
  | _, _, i + 1, x, .cons _ t, e => by
    obtain ⟨u, h1, h2⟩ := Vals.get (i := i) (x := x) t (by simpa using e)
    exact ⟨u, by simpa using h1, h2⟩
theorem Vals.append : ∀ {xs ys : List V} {us ws : List Value}, Vals xs us → Vals ys ws → Vals (xs ++ ys) (us ++ ws)
  | _, _, _, _, .nil, s => s
  | _, _, _, _, .cons r t, s => .cons r (Vals.append t s)
theorem Vals.take : ∀ {xs : List V} {us : List Value} (n : Nat), Vals xs us → Vals (xs.take n) (us.take n)
  | _, _, 0, _ => .nil
  | _, _, _ + 1, .nil => .nil
  | _, _, n + 1, .cons r t => .cons r (Vals.take n t)
theorem Vals.drop : ∀ {xs : List V} {us : List Value} (n : Nat), Vals xs us → Vals (xs.drop n) (us.drop n)
  | _, _, 0, r => r
  | _, _, _ + 1, .nil => .nil
  | _, _, n + 1, .cons _ t => Vals.drop n t
def RelO : Option V → Option Value → Prop
  | some v, some u => RelV v u
  | none, none => True
  | _, _ => False
def KV {κ : Type} : List (κ × V) → List (κ × Value) → Prop := Paired fun (p : κ × V) (q : κ × Value) => p.1 = q.1 ∧ RelV p.2 q.2
def kV : Key → V
  | .inl i => .int i
  | .inr x => .str x
inductive HO where
  | lst (xs : List V)
  | tup (xs : List V)
  | dK (kvs : List (Key × V)) | dT (kvs : List (List Key × V))
  | set (S : Int → Bool) (n : Nat)
  | ins (C dx : Addr) (fs : List (Str × V))
  | own (x : Addr)
  | xd (fs : List (Str × V))
  | met (f x : Addr)
  | rng (lo hi : Int)
  | frz (o : Obj) (u : HO)
  | tbl (ps : Array Value)
  | ext (φ : Heap → Prop)
abbrev Hp := Addr → Option HO
def upd (H : Hp) (a : Addr) (o : HO) : Hp := fun b => if b = a then some o else H b
theorem upd_same {H : Hp} {a : Addr} {o : HO} : upd H a o a = some o := by unfold upd; rw [if_pos rfl]
theorem upd_ne {H : Hp} {a b : Addr} {o : HO} (h : b ≠ a) : upd H a o b = H b := by unfold upd; rw [if_neg h]
theorem ne_of_none {H : Hp} {a b : Addr} {o : HO} (h : H a = some o) (h' : H b = none) : a ≠ b := by
  intro e; subst e; rw [h] at h'; cases h'
section
variable (P : Program) (w : World)
def ObjOk (H : Hp) (h : Heap) (a : Addr) : HO → Prop
  | .lst xs => xs.length ≤ sizeLine ∧ ∃ (its : List Value) (n : Nat), Vals xs its ∧ h.get? a = some { cls := .type "list", data := .seq its.toArray n }
  | .tup xs => xs.length ≤ sizeLine ∧ ∃ its : List Value, Vals xs its ∧ IsTup h a its.toArray
  | .dK kvs => kvs.length ≤ sizeLine ∧ (a == sysModules) = false ∧ ∃ vs, KV kvs vs ∧ h.DictOf (mixKind P w) a vs
  | .dT kvs => kvs.length ≤ sizeLine ∧ (a == sysModules) = false ∧ ∃ xs : List (List Key × Addr × Value),
      Paired (fun (p : List Key × V) (q : List Key × Addr × Value) => p.1 = q.1 ∧ H q.2.1 = some (.tup (p.1.map kV)) ∧ RelV p.2 q.2.2) kvs xs ∧
      ∃ o es ep, h.get? a = some o ∧ o.ExactDict ∧ o.data = .dict es ep ∧ es.toList = xs.map (entryOfKey (tupleKind (mixKind P w))) ∧ (xs.map (·.1)).Nodup
  | .set S n => h.SetOf (intKind P w) a S n
  | .ins C dx fs => H dx = some (.own a) ∧ fs.length ≤ 1000 ∧ dx ≠ a ∧ h.get? a = some (PySem.W.instObj C dx) ∧
      ∃ mA, h.Ns1 dx mA ∧ (∀ f, RelO (fs.lookup f) (mA f)) ∧ PySem.Within mA (fs.map (·.1))
  | .own _ => ∃ o, h.get? a = some o
  | .xd fs => ∃ mA, h.Ns1 a mA ∧ ∀ f, RelO (fs.lookup f) (mA f)
  | .rng lo hi => ∃ t u v, h.get? a = some { cls := .type "range", data := .fields #[.int lo t, .int hi u, .int 1 v] }
  | .frz o u => h.get? a = some o ∧ ObjOk H h a u
  | .tbl ps => h.get? a = some { cls := .none, data := .fields ps }
  | .met f x => h.get? a = some (PySem.W.methodObj (.ref f) (.ref x))
  | .ext φ => φ h ∧ (∃ o, h.get? a = some o) ∧ ∀ h1 h2 : Heap, φ h1 → (∀ o, h1.get? a = some o → h2.get? a = some o) → φ h2
def HOk (H : Hp) (h : Heap) : Prop := ∀ a o, H a = some o → ObjOk P w H h a o
end
section
variable {P : Program} {w : World} {H H' : Hp} {h h' : Heap} {a : Addr} {o : HO}
theorem ObjOk.lt (x : ObjOk P w H h a o) : a < h.objs.size := by
  cases o with
  | lst xs => obtain ⟨_, _, _, _, e⟩ := x; exact Heap.lt_size e
  | tup xs => obtain ⟨_, _, _, p⟩ := x; exact p.lt
  | dK kvs => obtain ⟨_, _, _, _, o, _, _, e, _⟩ := x; exact Heap.lt_size e
  | dT kvs => obtain ⟨_, _, _, _, o, _, _, e, _⟩ := x; exact Heap.lt_size e
  | set S n => obtain ⟨o, _, _, _, e, _⟩ := x; exact Heap.lt_size e
  | ins C dx fs => obtain ⟨_, _, _, e, _⟩ := x; exact Heap.lt_size e
  | own y => obtain ⟨_, e⟩ := x; exact Heap.lt_size e
  | xd fs => obtain ⟨_, ⟨_, _, _, e, _⟩, _⟩ := x; exact Heap.lt_size e
  | rng lo hi => obtain ⟨_, _, _, e⟩ := x; exact Heap.lt_size e
  | frz ob u => obtain ⟨e, _⟩ := x; exact Heap.lt_size e
  | tbl ps => exact Heap.lt_size (show h.get? a = some _ from x)
  | met f y => exact Heap.lt_size (show h.get? a = some _ from x)
  | ext φ => obtain ⟨_, ⟨_, e⟩, _⟩ := x; exact Heap.lt_size e
theorem Paired.mapP {α β : Type} {F G : α → β → Prop} : ∀ {l₁ : List α} {l₂ : List β}, Paired F l₁ l₂ → (∀ a b, F a b → G a b) → Paired G l₁ l₂
  | _, _, .nil, _ => .nil
  | _, _, .cons r t, f => .cons (f _ _ r) (Paired.mapP t f)
theorem ObjOk.stay (x : ObjOk P w H h a o) (k : ∀ b u, (b = a ∨ H b = some (.own a)) → h.get? b = some u → h'.get? b = some u)
    (ho : ∀ b, H b = some (.own a) → H' b = some (.own a)) (ht : ∀ b xs, H b = some (.tup xs) → H' b = some (.tup xs)) : ObjOk P w H' h' a o := by
  induction o with
  | lst xs => obtain ⟨z, its, n, r, e⟩ := x; exact ⟨z, its, n, r, k _ _ (.inl rfl) e⟩
  | tup xs => obtain ⟨z, its, r, ob, e, c⟩ := x; exact ⟨z, its, r, ob, k _ _ (.inl rfl) e, c⟩
  | dK kvs => obtain ⟨z, y, vs, r, ob, es, ep, e, c⟩ := x; exact ⟨z, y, vs, r, ob, es, ep, k _ _ (.inl rfl) e, c⟩
  | dT kvs =>
    obtain ⟨z, y, xs, r, ob, es, ep, e, c⟩ := x
    exact ⟨z, y, xs, Paired.mapP r fun p q z => ⟨z.1, ht _ _ z.2.1, z.2.2⟩, ob, es, ep, k _ _ (.inl rfl) e, c⟩
  | set S n => obtain ⟨ob, es, ep, t, e, c⟩ := x; exact ⟨ob, es, ep, t, k _ _ (.inl rfl) e, c⟩
  | ins C dx fs =>
    obtain ⟨d, z, ne, e, mA, ⟨od, es, ep, e2, c⟩, r⟩ := x
    exact ⟨ho _ d, z, ne, k _ _ (.inl rfl) e, mA, ⟨od, es, ep, k _ _ (.inr d) e2, c⟩, r⟩
  | own y => obtain ⟨ob, e⟩ := x; exact ⟨ob, k _ _ (.inl rfl) e⟩
  | xd fs => obtain ⟨mA, ⟨od, es, ep, e, c⟩, r⟩ := x; exact ⟨mA, ⟨od, es, ep, k _ _ (.inl rfl) e, c⟩, r⟩
  | rng lo hi => obtain ⟨t, u, v, e⟩ := x; exact ⟨t, u, v, k _ _ (.inl rfl) e⟩
  | frz ob u ih => obtain ⟨e, q⟩ := x; exact ⟨k _ _ (.inl rfl) e, ih q⟩
  | tbl ps =>
    have e : h.get? a = some { cls := .none, data := .fields ps } := x
    show h'.get? a = some { cls := .none, data := .fields ps }
    exact k a _ (.inl rfl) e
  | met f y =>
    have e : h.get? a = some (PySem.W.methodObj (.ref f) (.ref y)) := x
    show h'.get? a = some (PySem.W.methodObj (.ref f) (.ref y))
    exact k a _ (.inl rfl) e
  | ext φ => obtain ⟨p, ⟨o, e⟩, st⟩ := x; exact ⟨st _ _ p fun o q => k _ _ (.inl rfl) q, ⟨o, k _ _ (.inl rfl) e⟩, st⟩
theorem HOk.lt (x : HOk P w H h) (e : H a = some o) : a < h.objs.size := (x a o e).lt
theorem HOk.fresh (x : HOk P w H h) (e : h.objs.size ≤ a) : H a = none := by
  cases q : H a with
  | none => rfl
  | some u => exact absurd (Nat.lt_of_lt_of_le (x.lt q) e) (Nat.lt_irrefl _)
theorem HOk.kept (x : HOk P w H h) (k : ∀ b u, h.get? b = some u → h'.get? b = some u) : HOk P w H h' := fun a o e =>
  (x a o e).stay (fun b u _ q => k b u q) (fun _ q => q) fun _ _ q => q
theorem HOk.laid (x : HOk P w H h) (k : ∀ b u, h.get? b = some u → h'.get? b = some u) (hp : h.objs.size ≤ a) (new : ObjOk P w (upd H a o) h' a o) : HOk P w (upd H a o) h' := fun b u e => by
  have hn := x.fresh hp
  by_cases hb : b = a
  · subst hb; rw [upd_same] at e; cases e; exact new
  · rw [upd_ne hb] at e
    exact (x b u e).stay (fun c v _ q => k c v q) (fun c q => by rw [upd_ne (ne_of_none q hn)]; exact q) fun c xs q => by rw [upd_ne (ne_of_none q hn)]; exact q
end
def Rd (H : Hp) (a : Addr) (u : HO) : Prop := H a = some u ∨ ∃ o, H a = some (.frz o u)
theorem Rd.ok {P : Program} {w : World} {H : Hp} {h : Heap} {a : Addr} {u : HO} (r : Rd H a u) (x : HOk P w H h) : ObjOk P w H h a u := by
  rcases r with r | ⟨o, r⟩
  · exact x a u r
  · obtain ⟨_, q⟩ := x a _ r
    exact q
def Mut : Option HO → Prop
  | some (.lst _) => True
  | some (.dK _) => True
  | some (.dT _) => True
  | some (.set _ _) => True
  | some (.ins _ _ _) => True
  | some (.ext _) => True
  | _ => False
section
variable {P : Program} {w : World} {H : Hp} {h h' : Heap} {x e : Addr} {o' : HO}
theorem HOk.write (ok : HOk P w H h) (mu : Mut (H x)) (he : e = x ∨ H e = some (.own x)) (k : ∀ b u, b ≠ e → h.get? b = some u → h'.get? b = some u) (heo : ∃ u, h'.get? e = some u)
    (new : ObjOk P w (upd H x o') h' x o') : HOk P w (upd H x o') h' := fun b u q => by
  have nown : ∀ c y, H c = some (.own y) → c ≠ x := fun c y r z => by subst z; rw [r] at mu; exact mu
  have ntup : ∀ c xs, H c = some (.tup xs) → c ≠ x := fun c xs r z => by subst z; rw [r] at mu; exact mu
  by_cases hb : b = x
  · subst hb; rw [upd_same] at q; cases q; exact new
  · rw [upd_ne hb] at q
    by_cases hbe : b = e
    · have q' : H b = some (.own x) := by
        rcases he with z | z
        · exact absurd (hbe.trans z) hb
        · rw [hbe]; exact z
      rw [q] at q'; cases q'
      obtain ⟨v, hv⟩ := heo
      exact ⟨v, by rw [hbe]; exact hv⟩
    · refine (ok b u q).stay (fun c v hc r => k c v ?_ r) (fun c r => by rw [upd_ne (nown c b r)]; exact r) fun c xs r => by rw [upd_ne (ntup c xs r)]; exact r
      rcases hc with rfl | hc
      · exact hbe
      · rintro rfl
        rcases he with z | z
        · exact nown c b hc z
        · rw [hc] at z; cases z; exact hb rfl
end
structure Un (fs ex : List Addr) (H H' : Hp) (h h' : Heap) : Prop where
  keep : ∀ b o, h.get? b = some o → H b = none → b ∉ fs → b ∉ ex → h'.get? b = some o
  slot : ∀ b o, h.get? b = some o → H b = none → b ∈ fs → b ∉ ex → ∃ sl, h'.get? b = some { o with slots := sl }
  free : ∀ b o, h.get? b = some o → H b = none → b ∉ ex → H' b = none
  there : ∀ b o, h.get? b = some o → b ∉ ex → ∃ o', h'.get? b = some o'
  tups : ∀ b xs, H b = some (.tup xs) → H' b = some (.tup xs)
  frzs : ∀ b o u, H b = some (.frz o u) → H' b = some (.frz o u)
  tbls : ∀ b ps, H b = some (.tbl ps) → ∃ more, H' b = some (.tbl (ps ++ more))
section
variable {fs fs' ex ex' : List Addr} {H H1 H2 : Hp} {h h1 h2 h' : Heap} {a x e : Addr} {o : HO}
theorem Un.any (u : Un fs ex H H1 h h1) {b : Addr} {ob : Obj} (q : h.get? b = some ob) (n : H b = none) (hx : b ∉ ex) : ∃ sl, h1.get? b = some { ob with slots := sl } := by
  by_cases hb : b ∈ fs
  · exact u.slot b ob q n hb hx
  · exact ⟨ob.slots, u.keep b ob q n hb hx⟩
theorem Un.kept (k : ∀ b u, h.get? b = some u → h'.get? b = some u) : Un fs ex H H h h' :=
  ⟨fun b ob q _ _ _ => k b ob q, fun b ob q _ _ _ => ⟨ob.slots, k b ob q⟩, fun _ _ _ n _ => n, fun b ob q _ => ⟨ob, k b ob q⟩, fun _ _ q => q, fun _ _ _ q => q, fun _ ps q => ⟨#[], by rw [q]; simp⟩⟩
theorem Un.refl : Un fs ex H H h h := Un.kept fun _ _ q => q
theorem Un.laid (k : ∀ b u, h.get? b = some u → h'.get? b = some u) (hp : h.objs.size ≤ a) (hn : H a = none) : Un fs ex H (upd H a o) h h' where
  keep := fun b u q _ _ _ => k b u q
  slot := fun b u q _ _ _ => ⟨u.slots, k b u q⟩
  free := fun b u q n _ => by rw [upd_ne (Nat.ne_of_lt (Nat.lt_of_lt_of_le (Heap.lt_size q) hp))]; exact n
  there := fun b u q _ => ⟨u, k b u q⟩
  tups := fun b xs q => by rw [upd_ne (ne_of_none q hn)]; exact q
  frzs := fun b u xs q => by rw [upd_ne (ne_of_none q hn)]; exact q
  tbls := fun b ps q => ⟨#[], by rw [upd_ne (ne_of_none q hn), q]; simp⟩
theorem Un.write (mu : Mut (H x)) (he : e = x ∨ H e = some (.own x)) (k : ∀ b u, b ≠ e → h.get? b = some u → h'.get? b = some u) (heo : ∃ u, h'.get? e = some u) : Un fs ex H (upd H x o) h h' := by
  have hx : ∀ b, H b = none → b ≠ x := fun b n z => by subst z; rw [n] at mu; exact mu
  have hb : ∀ b, H b = none → b ≠ e := fun b n z => by
    subst z
    rcases he with r | r
    · exact hx b n r
    · rw [n] at r; cases r
  have hm : ∀ b u, H b = some u → ¬ Mut (some u) → b ≠ x := fun b u q nm z => by subst z; rw [q] at mu; exact nm mu
  refine ⟨fun b u q n _ _ => k b u (hb b n) q, fun b u q n _ _ => ⟨u.slots, k b u (hb b n) q⟩, fun b u q n _ => by rw [upd_ne (hx b n)]; exact n, fun b u q _ => ?_,
    fun b xs q => by rw [upd_ne (hm b _ q fun z => z)]; exact q, fun b u xs q => by rw [upd_ne (hm b _ q fun z => z)]; exact q, fun b ps q => ⟨#[], by rw [upd_ne (hm b _ q fun z => z), q]; simp⟩⟩
  by_cases hbe : b = e
  · subst hbe; exact heo
  · exact ⟨u, k b u hbe q⟩
end
def trk (h : Heap) (H : Hp) : List Addr := (List.range h.objs.size).filter fun a => (H a).isSome
def hidT (h : Heap) (H : Hp) : Heap := PySem.W.hideAll h (trk h H)
theorem hidT_size (h : Heap) (H : Hp) : (hidT h H).objs.size = h.objs.size := PySem.W.hideAll_size _ _
theorem hidT_get {h : Heap} {H : Hp} {b : Addr} {o : Obj} (e : h.get? b = some o) (n : H b = none) : (hidT h H).get? b = some o :=
  PySem.W.hideAll_get _ e fun hm => by
    have q : (H b).isSome = true := (List.mem_filter.mp hm).2
    rw [n] at q; simp at q
theorem of_hidT {h : Heap} {H : Hp} {b : Addr} {o : Obj} (e : (hidT h H).get? b = some o) : h.get? b = some o ∧ H b = none := by
  have e' : h.get? b = some o := PySem.W.of_hideAll (trk h H) e
  refine ⟨e', ?_⟩
  cases q : H b with
  | none => rfl
  | some x =>
    have hm : b ∈ trk h H := List.mem_filter.mpr ⟨List.mem_range.mpr (Heap.lt_size e'), by simp [q]⟩
    have z : (hidT h H).get? b = none := PySem.W.hideAll_none (trk h H) hm
    rw [z] at e; cases e
end L2
namespace L2
open PySem PySem.Spec PyProof.Rows
structure Mod (K : PySem.W.Frag) (mg : Str → Option Value) (base : Heap) : Prop where
  kin : K.In base
  glob : base.Ns mainGlobals mg
  blt : ∃ mb, base.Ns builtinsNs mb ∧ ∀ x : Str, x ≠ "__name__" → mb x = bootBuiltins x
  nolimit : base.NoLimit
structure Cx where
  prog : Program
  w : World
  K : PySem.W.Frag
  mg : Str → Option Value
  base : Heap
  A : Around
  N : List Str
  s₀ : Shared
  H₀ : Hp
  env : Env
  outer : List Env
  stack : List Env
  ex : List Addr
  fn : Str → Bool
  calm : Bool
  pn : List (Addr × Obj)
  xe : Value → Shared → Prop
def frs (l : List Env) : List Addr := l.filterMap (·.frame)
abbrev Cx.fs (X : Cx) : List Addr := frs X.outer
def Vis (sc : Scope) (x : Str) : Prop := sc.names.lookup x = some .local ∨ sc.names.lookup x = some .cell ∨ sc.names.lookup x = some .free
def Loc (sc : Scope) (x : Str) : Prop := sc.names.lookup x = some .local ∨ sc.names.lookup x = some .cell
def Look (env : Env) (h : Heap) (m : Str → Option Value) (x : Str) (u : Value) : Prop :=
  (env.kindOf x = some .local ∧ m x = some u) ∨ ((env.kindOf x = some .cell ∨ env.kindOf x = some .free) ∧ ∃ c, env.cells.lookup x = some c ∧ h.IsCell c (some u))
structure Cx.Ok (X : Cx) : Prop where
  mod : Mod X.K X.mg X.base
  kind : X.env.scope.kind = .function
  glob : X.env.globals = mainGlobals
  blt : X.env.builtins = builtinsNs
  above : X.s₀.heap.objs.size ≤ X.env.locals
  inj : ∀ x y c, X.env.cells.lookup x = some c → X.env.cells.lookup y = some c → x = y
  has : ∀ x, (X.env.kindOf x = some .cell ∨ X.env.kindOf x = some .free) → ∃ c, X.env.cells.lookup x = some c
  cab : ∀ x c, X.fn x = true → X.env.cells.lookup x = some c → X.s₀.heap.objs.size ≤ c
  hd : X.calm = true → X.A.handled = none
  frames : X.A.frames = some X.stack
  stk : X.stack = X.outer ∨ (X.stack = X.env :: X.outer ∧ X.env.frame = some X.env.locals)
  exf : ∀ b ∈ X.ex, b ≠ X.env.locals ∧ ∀ x c, X.env.cells.lookup x = some c → c ≠ b
  bs : ∀ b o, X.base.get? b = some o → X.s₀.heap.get? b = some o ∧ X.H₀ b = none
  bsz : X.base.objs.size ≤ X.s₀.heap.objs.size
  noex : ∀ b o, X.base.get? b = some o → b ∉ X.ex
  exfs : ∀ b ∈ X.ex, b ∉ X.fs
  funs : X.s₀.heap.FunFrames X.base X.outer
  frf : ∀ b ∈ X.fs, X.H₀ b = none
structure Inv (X : Cx) (pins : List (Addr × Obj)) (σ : List (Option V)) (H : Hp) (s : Shared) : Prop where
  ok : X.Ok
  os : s.os = X.s₀.os
  bare : AllBare s.gens
  base : Un X.fs X.ex X.H₀ H X.s₀.heap s.heap
  loc : ∃ m, s.heap.Ns X.env.locals m ∧ ∀ (i : Nat) (x : Str) (v : V), X.N[i]? = some x → σ[i]? = some (some v) → Vis X.env.scope x → ∃ u, RelV v u ∧ Look X.env s.heap m x u
  cell : ∀ x c, X.env.cells.lookup x = some c → ∃ v, s.heap.IsCell c v
  free : H X.env.locals = none
  freeC : ∀ x c, X.env.cells.lookup x = some c → H c = none
  pin : ∀ p ∈ X.pn ++ pins, s.heap.get? p.1 = some p.2 ∧ H p.1 = none ∧ p.1 ≠ X.env.locals ∧ p.1 ∉ X.fs ∧ ∀ v, p.2.data ≠ .cell v
  hok : HOk X.prog X.w H s.heap
  len : σ.length = X.N.length
section
variable {X : Cx} {pins : List (Addr × Obj)} {σ : List (Option V)} {H H' : Hp} {s : Shared} {h' : Heap}
theorem Cx.Ok.nofr (ok : X.Ok) {b : Addr} {o : Obj} (e : X.base.get? b = some o) : b ∉ X.fs := fun hb => by
  have := (ok.funs.mem hb).1
  rw [e] at this; cases this
theorem Inv.bs (I : Inv X pins σ H s) : ∀ b o, X.base.get? b = some o → s.heap.get? b = some o ∧ H b = none := fun b o e =>
  ⟨I.base.keep b o (I.ok.bs b o e).1 (I.ok.bs b o e).2 (I.ok.nofr e) (I.ok.noex b o e), I.base.free b o (I.ok.bs b o e).1 (I.ok.bs b o e).2 (I.ok.noex b o e)⟩
theorem Inv.bk (I : Inv X pins σ H s) : ∀ b o, X.base.get? b = some o → s.heap.get? b = some o := fun b o e => (I.bs b o e).1
theorem Inv.mod (I : Inv X pins σ H s) : Mod X.K X.mg X.base := I.ok.mod
theorem Inv.kIn (I : Inv X pins σ H s) : X.K.In s.heap := I.ok.mod.kin.keeps I.bk
theorem Inv.nolimit (I : Inv X pins σ H s) : s.heap.NoLimit := I.ok.mod.nolimit.keeps I.bk
theorem Inv.fr (I : Inv X pins σ H s) : ∃ m, Fr X.base X.env.locals s.heap m :=
  let ⟨m, hn, _⟩ := I.loc
  ⟨m, hn, I.bk, Nat.le_trans I.ok.bsz I.ok.above⟩
theorem Inv.lt (I : Inv X pins σ H s) : X.env.locals < s.heap.objs.size := let ⟨_, hn, _⟩ := I.loc; hn.lt
theorem Inv.sz (I : Inv X pins σ H s) : X.s₀.heap.objs.size ≤ s.heap.objs.size := Nat.le_trans I.ok.above (Nat.le_of_lt I.lt)
theorem Inv.nofs (I : Inv X pins σ H s) {a : Addr} (h : s.heap.objs.size ≤ a) : a ∉ X.fs := fun hb => by
  obtain ⟨_, o, ho, _⟩ := I.ok.funs.mem hb
  exact absurd (Nat.lt_of_lt_of_le (Heap.lt_size ho) (Nat.le_trans I.sz h)) (Nat.lt_irrefl _)
theorem Inv.cne (I : Inv X pins σ H s) : ∀ x c, X.env.cells.lookup x = some c → c ≠ X.env.locals := fun x c e z => by
  obtain ⟨v, o, ho, hd⟩ := I.cell x c e
  obtain ⟨m, ⟨o', es, ep, ho', hd', _⟩, _⟩ := I.loc
  rw [z, ho'] at ho; cases ho; rw [hd'] at hd; cases hd
theorem Inv.funs (I : Inv X pins σ H s) : s.heap.FunFrames X.base X.outer := by
  have all : ∀ (l : List Env), (∀ b ∈ frs l, b ∈ X.fs) → X.s₀.heap.FunFrames X.base l → s.heap.FunFrames X.base l := by
    intro l
    induction l with
    | nil => intro _ _; trivial
    | cons env r ih =>
      intro hs hl
      obtain ⟨hk, ⟨L, o, hf, hn, ho, hd⟩, hr⟩ := hl
      have hL : L ∈ X.fs := hs L (by unfold frs; rw [List.filterMap_cons, hf]; exact List.mem_cons_self)
      obtain ⟨sl, e⟩ := I.base.slot L o ho (I.ok.frf L hL) hL fun z => I.ok.exfs L z hL
      exact ⟨hk, ⟨L, _, hf, hn, e, hd⟩, ih (fun b hb => hs b (by unfold frs; rw [List.filterMap_cons, hf]; exact List.mem_cons_of_mem _ hb)) hr⟩
  exact all X.outer (fun _ hb => hb) I.ok.funs
theorem Inv.stack (I : Inv X pins σ H s) : s.heap.FunFrames X.base X.stack := by
  rcases I.ok.stk with e | ⟨e, hf⟩
  · rw [e]; exact I.funs
  · rw [e]
    obtain ⟨m, hn, _⟩ := I.loc
    refine .cons (by rw [I.ok.kind]; decide) hf hn ?_ I.funs
    exact Heap.get?_none_of_le (Nat.le_trans I.ok.bsz I.ok.above)
theorem Inv.stkSub (I : Inv X pins σ H s) : ∀ b ∈ frs X.stack, b ∈ X.env.locals :: X.fs := fun b hb => by
  rcases I.ok.stk with e | ⟨e, hf⟩
  · rw [e] at hb; exact List.mem_cons_of_mem _ hb
  · rw [e] at hb
    unfold frs at hb
    rw [List.filterMap_cons, hf] at hb
    exact hb
theorem Inv.stkFree (I : Inv X pins σ H s) : ∀ b ∈ frs X.stack, H b = none := fun b hb => by
  rcases List.mem_cons.mp (I.stkSub b hb) with e | hb
  · rw [e]; exact I.free
  · obtain ⟨_, o, ho, _⟩ := I.ok.funs.mem hb
    exact I.base.free b o ho (I.ok.frf b hb) fun z => I.ok.exfs b z hb
theorem Inv.step {g' : Array GenState} {t' : Nat} {d' : Drawn} {ch : List Addr} (I : Inv X pins σ H s)
    (hch : ∀ b ∈ ch, (b ∈ X.ex ∨ X.s₀.heap.objs.size ≤ b) ∧ b ≠ X.env.locals ∧ (∀ x c, X.env.cells.lookup x = some c → c ≠ b) ∧ ∀ p ∈ X.pn ++ pins, p.1 ≠ b)
    (keep : ∀ b o, b ≠ X.env.locals → b ∉ X.fs → b ∉ ch → s.heap.get? b = some o → H b = none → h'.get? b = some o)
    (slot : ∀ b o, b ≠ X.env.locals → b ∈ X.fs → b ∉ ch → s.heap.get? b = some o → H b = none → ∃ sl, h'.get? b = some { o with slots := sl }) (free : ∀ b o, b ∉ ch → s.heap.get? b = some o → H b = none → H' b = none)
    (there : ∀ b o, b ∉ ch → s.heap.get? b = some o → ∃ o', h'.get? b = some o')
    (tups : ∀ b xs, H b = some (.tup xs) → H' b = some (.tup xs)) (frzs : ∀ b o u, H b = some (.frz o u) → H' b = some (.frz o u)) (tbls : ∀ b ps, H b = some (.tbl ps) → ∃ more, H' b = some (.tbl (ps ++ more)))
    (ns : ∀ m, s.heap.Ns X.env.locals m → h'.Ns X.env.locals m) (hok : HOk X.prog X.w H' h') (hg : AllBare g') :
    Inv X pins σ H' { s with heap := h', gens := g', drawn := d', toks := t' } := by
  have neL : ∀ b o, X.s₀.heap.get? b = some o → b ≠ X.env.locals := fun b o e => Nat.ne_of_lt (Nat.lt_of_lt_of_le (Heap.lt_size e) I.ok.above)
  have neC : ∀ b o, X.s₀.heap.get? b = some o → b ∉ X.ex → b ∉ ch := fun b o e hx hb => by
    rcases (hch b hb).1 with z | z
    · exact hx z
    · exact absurd (Nat.lt_of_lt_of_le (Heap.lt_size e) z) (Nat.lt_irrefl _)
  have cellK : ∀ x c, X.env.cells.lookup x = some c → ∀ v, s.heap.IsCell c v → h'.IsCell c v := fun x c e v ⟨o, ho, hd⟩ => by
    have nch : c ∉ ch := fun z => (hch c z).2.2.1 x c e rfl
    by_cases hc : c ∈ X.fs
    · obtain ⟨sl, q⟩ := slot c o (I.cne x c e) hc nch ho (I.freeC x c e)
      exact ⟨_, q, hd⟩
    · exact ⟨o, keep c o (I.cne x c e) hc nch ho (I.freeC x c e), hd⟩
  refine ⟨I.ok, I.os, hg, ⟨fun b o e n hb hx => ?_, fun b o e n hb hx => ?_, fun b o e n hx => ?_, fun b o e hx => ?_, fun b xs e => tups b xs (I.base.tups b xs e), fun b o xs e => frzs b o xs (I.base.frzs b o xs e), fun b ps e => ?_⟩, ?_, fun x c e => ?_, ?_, fun x c e => ?_, fun p hp => ?_, hok, I.len⟩
  · exact keep b o (neL b o e) hb (neC b o e hx) (I.base.keep b o e n hb hx) (I.base.free b o e n hx)
  · obtain ⟨sl, e1⟩ := I.base.slot b o e n hb hx
    obtain ⟨sl', e2⟩ := slot b _ (neL b o e) hb (neC b o e hx) e1 (I.base.free b o e n hx)
    exact ⟨sl', e2⟩
  · obtain ⟨o', e1⟩ := I.base.there b o e hx
    exact free b o' (neC b o e hx) e1 (I.base.free b o e n hx)
  · obtain ⟨o', e1⟩ := I.base.there b o e hx
    exact there b o' (neC b o e hx) e1
  · obtain ⟨m1, e1⟩ := I.base.tbls b ps e
    obtain ⟨m2, e2⟩ := tbls b _ e1
    exact ⟨m1 ++ m2, by rw [e2, Array.append_assoc]⟩
  · obtain ⟨m, hn, hl⟩ := I.loc
    refine ⟨m, ns m hn, fun i x v e1 e2 e3 => ?_⟩
    obtain ⟨u, r, l⟩ := hl i x v e1 e2 e3
    refine ⟨u, r, ?_⟩
    rcases l with l | ⟨k, c, e, z⟩
    · exact .inl l
    · exact .inr ⟨k, c, e, cellK x c e _ z⟩
  · obtain ⟨v, z⟩ := I.cell x c e
    exact ⟨v, cellK x c e v z⟩
  · obtain ⟨m, ⟨o, _, _, ho, _⟩, _⟩ := I.loc
    exact free _ o (fun z => (hch _ z).2.1 rfl) ho I.free
  · obtain ⟨v, o, ho, hd⟩ := I.cell x c e
    exact free c o (fun z => (hch c z).2.2.1 x c e rfl) ho (I.freeC x c e)
  · obtain ⟨e, n, ne, nf, d⟩ := I.pin p hp
    have nch : p.1 ∉ ch := fun z => (hch p.1 z).2.2.2 p hp rfl
    exact ⟨keep p.1 p.2 ne nf nch e n, free p.1 p.2 nch e n, ne, nf, d⟩
theorem Inv.un {t' : Nat} (I : Inv X pins σ H s) (u : Un X.fs [] H H' s.heap h') (hok : HOk X.prog X.w H' h') : Inv X pins σ H' { s with heap := h', toks := t' } := by
  obtain ⟨m, ⟨o, es, ep, ho, r⟩, _⟩ := id I.loc
  obtain ⟨sl, hL⟩ := u.any ho I.free (by simp)
  exact I.step (g' := s.gens) (d' := s.drawn) (ch := []) (fun _ z => nomatch z) (fun b o _ hb _ e n => u.keep b o e n hb (by simp)) (fun b o _ hb _ e n => u.slot b o e n hb (by simp)) (fun b o _ e n => u.free b o e n (by simp)) (fun b o _ e => u.there b o e (by simp)) u.tups u.frzs u.tbls (fun m' hm => by
    obtain ⟨o', es', ep', ho', r'⟩ := hm
    rw [ho] at ho'; cases ho'
    exact ⟨_, es', ep', hL, r'⟩) hok I.bare
theorem Inv.call {g' : Array GenState} {t' : Nat} {d' : Drawn} {ch : List Addr} (I : Inv X pins σ H s) (u : Un (frs X.stack) ch H H' s.heap h') (hok : HOk X.prog X.w H' h') (hg : AllBare g')
    (hch : ∀ b ∈ ch, (b ∈ X.ex ∨ X.s₀.heap.objs.size ≤ b) ∧ b ≠ X.env.locals ∧ (∀ x c, X.env.cells.lookup x = some c → c ≠ b) ∧ ∀ p ∈ X.pn ++ pins, p.1 ≠ b) :
    Inv X pins σ H' { s with heap := h', gens := g', drawn := d', toks := t' } := by
  obtain ⟨m, ⟨o, es, ep, ho, r⟩, _⟩ := id I.loc
  obtain ⟨sl, hL⟩ := u.any ho I.free fun z => (hch _ z).2.1 rfl
  exact I.step (ch := ch) hch (fun b o hL hb hc e n => u.keep b o e n (fun z => (List.mem_cons.mp (I.stkSub b z)).elim hL hb) hc) (fun b o _ _ hc e n => u.any e n hc) (fun b o hc e n => u.free b o e n hc) (fun b o hc e => u.there b o e hc) u.tups u.frzs u.tbls (fun m' hm => by
    obtain ⟨o', es', ep', ho', r'⟩ := hm
    rw [ho] at ho'; cases ho'
    exact ⟨_, es', ep', hL, r'⟩) hok hg
theorem Inv.turned {t' : Nat} {it : Addr} (I : Inv X pins σ H s) (k : ∀ b o, b ≠ it → s.heap.get? b = some o → h'.get? b = some o) (hn : H it = none) (hL : it ≠ X.env.locals)
    (h1 : it ∈ X.ex ∨ X.s₀.heap.objs.size ≤ it) (h2 : ∀ x c, X.env.cells.lookup x = some c → c ≠ it) (h3 : ∀ p ∈ X.pn ++ pins, p.1 ≠ it) : Inv X pins σ H { s with heap := h', toks := t' } := by
  have nit : ∀ b u, H b = some u → b ≠ it := fun b u e z => by rw [z, hn] at e; cases e
  refine I.step (g' := s.gens) (d' := s.drawn) (ch := [it]) (fun b hb => ?_) (fun b o _ _ hc e _ => k b o (fun z => hc (by simp [z])) e) (fun b o _ _ hc e _ => ⟨o.slots, k b o (fun z => hc (by simp [z])) e⟩) (fun _ _ _ _ n => n)
    (fun b o hc e => ⟨o, k b o (fun z => hc (by simp [z])) e⟩) (fun _ _ e => e) (fun _ _ _ e => e) (fun b ps e => ⟨#[], by rw [e]; simp⟩) (fun m hm => ?_) (fun b u e => ?_) I.bare
  · have e : b = it := by simpa using hb
    subst e
    exact ⟨h1, hL, h2, h3⟩
  · obtain ⟨o, es, ep, ho, r⟩ := hm
    exact ⟨o, es, ep, k _ o (Ne.symm hL) ho, r⟩
  · refine (I.hok b u e).stay (fun c v hc q => k c v ?_ q) (fun _ q => q) fun _ _ q => q
    rcases hc with z | z
    · rw [z]; exact nit b u e
    · exact nit c _ z
theorem Inv.tok (I : Inv X pins σ H s) (t : Nat) : Inv X pins σ H { s with toks := t } := I.un (h' := s.heap) (t' := t) Un.refl I.hok
theorem Inv.kept {t' : Nat} (I : Inv X pins σ H s) (k : ∀ b u, s.heap.get? b = some u → h'.get? b = some u) : Inv X pins σ H { s with heap := h', toks := t' } := I.un (Un.kept k) (I.hok.kept k)
theorem Inv.laid {a : Addr} {o : HO} {t' : Nat} (I : Inv X pins σ H s) (k : ∀ b u, s.heap.get? b = some u → h'.get? b = some u) (hp : s.heap.objs.size ≤ a) (new : ObjOk X.prog X.w (upd H a o) h' a o) :
    Inv X pins σ (upd H a o) { s with heap := h', toks := t' } := I.un (Un.laid k hp (I.hok.fresh hp)) (I.hok.laid k hp new)
theorem Inv.write {x e : Addr} {o : HO} {t' : Nat} (I : Inv X pins σ H s) (mu : Mut (H x)) (he : e = x ∨ H e = some (.own x)) (k : ∀ b u, b ≠ e → s.heap.get? b = some u → h'.get? b = some u) (heo : ∃ u, h'.get? e = some u)
    (new : ObjOk X.prog X.w (upd H x o) h' x o) : Inv X pins σ (upd H x o) { s with heap := h', toks := t' } := I.un (Un.write mu he k heo) (I.hok.write mu he k heo new)
theorem Inv.weak {σ' : List (Option V)} (I : Inv X pins σ H s) (hl : σ'.length = σ.length) (w : ∀ (i : Nat) v, σ'[i]? = some (some v) → σ[i]? = some (some v)) : Inv X pins σ' H s :=
  ⟨I.ok, I.os, I.bare, I.base, let ⟨m, hn, hl'⟩ := I.loc; ⟨m, hn, fun i x v e1 e2 e3 => hl' i x v e1 (w i v e2) e3⟩, I.cell, I.free, I.freeC, I.pin, I.hok, hl.trans I.len⟩
theorem Inv.pins_of {pins' : List (Addr × Obj)} (I : Inv X pins σ H s) (h : ∀ p ∈ pins', s.heap.get? p.1 = some p.2 ∧ H p.1 = none ∧ p.1 ≠ X.env.locals ∧ p.1 ∉ X.fs ∧ ∀ v, p.2.data ≠ .cell v) : Inv X pins' σ H s :=
  ⟨I.ok, I.os, I.bare, I.base, I.loc, I.cell, I.free, I.freeC, fun p hp => (List.mem_append.mp hp).elim (fun z => I.pin p (List.mem_append_left _ z)) (h p), I.hok, I.len⟩
theorem nodup_ix {N : List Str} (hN : N.Nodup) {i j : Nat} {x : Str} (a : N[i]? = some x) (b : N[j]? = some x) : i = j := by
  obtain ⟨h1, e1⟩ := List.getElem?_eq_some_iff.mp a
  obtain ⟨h2, e2⟩ := List.getElem?_eq_some_iff.mp b
  exact (List.getElem_inj hN).mp (e1.trans e2.symm)
theorem store_ok2 {M : Model} {A : Around} {E : Value → Shared → Prop} {i : Nat} {x : Str} {v : V} {u : Value} {Q : Unit → Shared → Prop} (I : Inv X pins σ H s) (hN : X.N.Nodup) (hi : X.N[i]? = some x) (hx : Loc X.env.scope x) (r : RelV v u)
    (h : ∀ s', Inv X pins (σ.set i (some v)) H s' → (∃ a, Heap.SameBut a s.heap s'.heap ∧ (a = X.env.locals ∨ X.env.cells.lookup x = some a)) → Q () s') (hf : X.fn x = true ∨ X.env.scope.names.lookup x = some .local := by first | exact .inl rfl | exact .inr rfl | assumption) : wpAny M A (storeName X.env x u) Q E s := by
  obtain ⟨m, hn, hl⟩ := id I.loc
  have hcls : (X.env.scope.kind == .class || (X.env.scope.kind == .module && X.env.locals != X.env.globals)) = false := by rw [I.ok.kind]; rfl
  have hiσ : i < σ.length := by rw [I.len]; exact (List.getElem?_eq_some_iff.mp hi).1
  have cne := I.cne
  have tracked : ∀ {a : Addr} {h' : Heap}, (∃ o, s.heap.get? a = some o ∧ H a = none) → Heap.SameBut a s.heap h' → HOk X.prog X.w H h' := fun {a h'} ha hs b ob e => by
    obtain ⟨_, _, hfree⟩ := ha
    refine (I.hok b ob e).stay (fun c w' hc q => (hs.2 c ?_).trans q) (fun _ q => q) fun _ _ q => q
    rintro rfl
    rcases hc with rfl | hc
    · rw [hfree] at e; cases e
    · rw [hfree] at hc; cases hc
  rcases hx with hk | hk
  · refine wpAny_storeName_local hk hn (fun h' hn' hs => ?_) hcls
    obtain ⟨oL, _, _, hoL, _⟩ := id hn
    refine h _ ⟨I.ok, I.os, I.bare, ⟨fun b o e n hb hx => ?_, fun b o e n hb hx => ?_, I.base.free, fun b o e hx => ?_, I.base.tups, I.base.frzs, I.base.tbls⟩, ⟨_, hn', fun j y v' e1 e2 e3 => ?_⟩, fun y c e => ?_, I.free, I.freeC, fun p hp => ?_, tracked ⟨oL, hoL, I.free⟩ hs, by simpa using I.len⟩ ⟨_, hs, .inl rfl⟩
    · exact (hs.2 b (Nat.ne_of_lt (Nat.lt_of_lt_of_le (Heap.lt_size e) I.ok.above))).trans (I.base.keep b o e n hb hx)
    · obtain ⟨sl, e1⟩ := I.base.slot b o e n hb hx
      exact ⟨sl, (hs.2 b (Nat.ne_of_lt (Nat.lt_of_lt_of_le (Heap.lt_size e) I.ok.above))).trans e1⟩
    · obtain ⟨o', e1⟩ := I.base.there b o e hx
      exact ⟨o', (hs.2 b (Nat.ne_of_lt (Nat.lt_of_lt_of_le (Heap.lt_size e) I.ok.above))).trans e1⟩
    · by_cases hj : j = i
      · subst hj
        rw [hi] at e1; cases e1
        rw [List.getElem?_set_self hiσ] at e2
        cases e2
        exact ⟨u, r, .inl ⟨hk, by simp⟩⟩
      · rw [List.getElem?_set_ne (Ne.symm hj)] at e2
        obtain ⟨u', r', q⟩ := hl j y v' e1 e2 e3
        refine ⟨u', r', ?_⟩
        rcases q with ⟨k, e⟩ | ⟨k, c, e, z⟩
        · refine .inl ⟨k, ?_⟩
          have : y ≠ x := fun e => hj (nodup_ix hN e1 (e ▸ hi))
          simp [this, e]
        · exact .inr ⟨k, c, e, z.sameBut hs (cne y c e)⟩
    · obtain ⟨w', z⟩ := I.cell y c e
      exact ⟨w', z.sameBut hs (cne y c e)⟩
    · obtain ⟨e, n, ne, nf, d⟩ := I.pin p hp
      exact ⟨(hs.2 p.1 ne).trans e, n, ne, nf, d⟩
  · have hfn : X.fn x = true := by
      rcases hf with z | z
      · exact z
      · rw [z] at hk; cases hk
    obtain ⟨c, hc⟩ := I.ok.has x (.inl hk)
    obtain ⟨w', z⟩ := I.cell x c hc
    refine wpAny_storeName_cell I.ok.kind hk hc z (fun h' hc' hs => ?_)
    obtain ⟨oc, hoc, hocd⟩ := id z
    refine h { s with heap := h' } ⟨I.ok, I.os, I.bare, ⟨fun b o e n hb hx => ?_, fun b o e n hb hx => ?_, I.base.free, fun b o e hx => ?_, I.base.tups, I.base.frzs, I.base.tbls⟩, ⟨m, hn.sameBut hs (Ne.symm (cne x c hc)), fun j y v' e1 e2 e3 => ?_⟩, fun y c' e => ?_, I.free, I.freeC, fun p hp => ?_, tracked ⟨oc, hoc, I.freeC x c hc⟩ hs, by simpa using I.len⟩ ⟨c, hs, .inr hc⟩
    · exact (hs.2 b (Nat.ne_of_lt (Nat.lt_of_lt_of_le (Heap.lt_size e) (I.ok.cab x c hfn hc)))).trans (I.base.keep b o e n hb hx)
    · obtain ⟨sl, e1⟩ := I.base.slot b o e n hb hx
      exact ⟨sl, (hs.2 b (Nat.ne_of_lt (Nat.lt_of_lt_of_le (Heap.lt_size e) (I.ok.cab x c hfn hc)))).trans e1⟩
    · obtain ⟨o', e1⟩ := I.base.there b o e hx
      exact ⟨o', (hs.2 b (Nat.ne_of_lt (Nat.lt_of_lt_of_le (Heap.lt_size e) (I.ok.cab x c hfn hc)))).trans e1⟩
    · by_cases hj : j = i
      · subst hj
        rw [hi] at e1; cases e1
        rw [List.getElem?_set_self hiσ] at e2
        cases e2
        exact ⟨u, r, .inr ⟨.inl hk, c, hc, hc'⟩⟩
      · rw [List.getElem?_set_ne (Ne.symm hj)] at e2
        obtain ⟨u', r', q⟩ := hl j y v' e1 e2 e3
        refine ⟨u', r', ?_⟩
        rcases q with q | ⟨k, c', e, z'⟩
        · exact .inl q
        · refine .inr ⟨k, c', e, z'.sameBut hs ?_⟩
          rintro rfl
          exact hj (nodup_ix hN e1 (I.ok.inj _ _ _ e hc ▸ hi))
    · by_cases hcc : c' = c
      · subst hcc; exact ⟨_, hc'⟩
      · obtain ⟨w2, z2⟩ := I.cell y c' e
        exact ⟨w2, z2.sameBut hs hcc⟩
    · obtain ⟨e, n, ne, nf, d⟩ := I.pin p hp
      refine ⟨(hs.2 p.1 ?_).trans e, n, ne, nf, d⟩
      intro q
      rw [q, hoc] at e
      have q' : oc = p.2 := Option.some.inj e
      exact d w' (by rw [← q']; exact hocd)
theorem store_ok {M : Model} {A : Around} {E : Value → Shared → Prop} {i : Nat} {x : Str} {v : V} {u : Value} {Q : Unit → Shared → Prop} (I : Inv X pins σ H s) (hN : X.N.Nodup) (hi : X.N[i]? = some x) (hx : Loc X.env.scope x) (r : RelV v u)
    (h : ∀ s', Inv X pins (σ.set i (some v)) H s' → Q () s') (hf : X.fn x = true ∨ X.env.scope.names.lookup x = some .local := by first | exact .inl rfl | exact .inr rfl | assumption) : wpAny M A (storeName X.env x u) Q E s :=
  store_ok2 I hN hi hx r (fun s' I' _ => h s' I') hf
theorem Inv.call' {s' : Shared} {ch : List Addr} (I : Inv X pins σ H s) (ho : s'.os = s.os) (u : Un (frs X.stack) ch H H' s.heap s'.heap) (hok : HOk X.prog X.w H' s'.heap) (hg : AllBare s'.gens)
    (hch : ∀ b ∈ ch, (b ∈ X.ex ∨ X.s₀.heap.objs.size ≤ b) ∧ b ≠ X.env.locals ∧ (∀ x c, X.env.cells.lookup x = some c → c ≠ b) ∧ ∀ p ∈ X.pn ++ pins, p.1 ≠ b) : Inv X pins σ H' s' := by
  obtain ⟨h', g', d', t', o'⟩ := s'
  have e : o' = s.os := ho
  subst e
  exact I.call (g' := g') (t' := t') (d' := d') u hok hg hch
end
abbrev XK := Value → Option Addr → Hp → Prop
abbrev St := List (Option V)
abbrev VK := V → Hp → Prop
abbrev TE := St → Hp → VK → Prop
abbrev TT := St → Hp → (Bool → Hp → Prop) → Prop
abbrev TA := St → Hp → (List V → Hp → Prop) → Prop
structure Ends where
  nx : St → Hp → Prop
  rt : VK
  bk : St → Hp → Prop := fun _ _ => False
  ct : St → Hp → Prop := fun _ _ => False
abbrev TS := Ends → St → Hp → Prop
def EP (X : Cx) (pins : List (Addr × Obj)) (σ : St) (Q : VK) (u : Value) (s' : Shared) : Prop := ∃ v H', Inv X pins σ H' s' ∧ RelV v u ∧ Q v H'
def TP (X : Cx) (pins : List (Addr × Obj)) (σ : St) (Q : Bool → Hp → Prop) (b : Bool) (s' : Shared) : Prop := ∃ H', Inv X pins σ H' s' ∧ Q b H'
def AP (X : Cx) (pins : List (Addr × Obj)) (σ : St) (Q : List V → Hp → Prop) (us : List Value) (s' : Shared) : Prop := ∃ vs H', Inv X pins σ H' s' ∧ Vals vs us ∧ Q vs H'
def SP (X : Cx) (pins : List (Addr × Obj)) (D : Ends) (f : Flow) (s' : Shared) : Prop :=
  match f with
  | .next => ∃ σ' H', Inv X pins σ' H' s' ∧ D.nx σ' H'
  | .brk => ∃ σ' H', Inv X pins σ' H' s' ∧ D.bk σ' H'
  | .cont => ∃ σ' H', Inv X pins σ' H' s' ∧ D.ct σ' H'
  | .ret u => ∃ v σ' H', Inv X pins σ' H' s' ∧ RelV v u ∧ D.rt v H'
def PE (X : Cx) (e : Expr) (t : TE) : Prop :=
  ∀ (pins : List (Addr × Obj)) (s : Shared) (σ : St) (H : Hp) (Q : VK), Inv X pins σ H s → t σ H Q → wpAny (model X.prog X.w) X.A (eval e X.env) (EP X pins σ Q) X.xe s
def PT (X : Cx) (e : Expr) (t : TT) : Prop :=
  ∀ (pins : List (Addr × Obj)) (s : Shared) (σ : St) (H : Hp) (Q : Bool → Hp → Prop), Inv X pins σ H s → t σ H Q → wpAny (model X.prog X.w) X.A (isTrue e X.env (eval e X.env)) (TP X pins σ Q) X.xe s
def PW (X : Cx) (e : Expr) (t : TT) : Prop :=
  ∀ (whole : Sem Value) (pins : List (Addr × Obj)) (s : Shared) (σ : St) (H : Hp) (Q : Bool → Hp → Prop), Inv X pins σ H s → t σ H Q → wpAny (model X.prog X.w) X.A (isTrue e X.env whole) (TP X pins σ Q) X.xe s
theorem PW.pt {X : Cx} {e : Expr} {t : TT} (h : PW X e t) : PT X e t := h _
def PA (X : Cx) (es : List Expr) (t : TA) : Prop :=
  ∀ (pos : Pos) (pins : List (Addr × Obj)) (s : Shared) (σ : St) (H : Hp) (Q : List V → Hp → Prop), Inv X pins σ H s → t σ H Q → wpAny (model X.prog X.w) X.A (spliced (backTo pos (starEach es X.env))) (AP X pins σ Q) X.xe s
def PS (X : Cx) (st : Stmt) (t : TS) : Prop :=
  ∀ (pins : List (Addr × Obj)) (s : Shared) (σ : St) (H : Hp) (D : Ends), Inv X pins σ H s → t D σ H → wpAny (model X.prog X.w) X.A (exec st X.env) (SP X pins D) X.xe s
def PSs (X : Cx) (st : List Stmt) (t : TS) : Prop :=
  ∀ (pins : List (Addr × Obj)) (s : Shared) (σ : St) (H : Hp) (D : Ends), Inv X pins σ H s → t D σ H → wpAny (model X.prog X.w) X.A (execs st X.env) (SP X pins D) X.xe s
theorem thn {α : Type} {t : Sem α} {Q Q' : α → Shared → Prop} {M : Model} {A : Around} {E : Value → Shared → Prop} {s : Shared} (h : wpAny M A t Q E s) (hQ : ∀ a s, Q a s → Q' a s) : wpAny M A t Q' E s := wpAny_mono h hQ fun _ _ x => x
end L2
namespace L2
open PySem PySem.Spec PyProof.Rows
section
variable {X : Cx}
def tVar (i : Nat) : TE := fun σ H Q => ∃ v, σ[i]? = some (some v) ∧ Q v H
def tC (v : V) : TE := fun _ H Q => Q v H
theorem pe_var {i : Nat} {x : Str} {pos : Pos} (hN : X.N[i]? = some x) (hv : Vis X.env.scope x) (hd : (x == ("__debug__" : Str)) = false := by decide) (hcd : (x == ("__classdict__" : Str)) = false := by decide) : PE X (.Name x pos) (tVar i) := by
  intro pins s σ H Q I h
  obtain ⟨v, e, h⟩ := h
  obtain ⟨m, hn, hl⟩ := I.loc
  obtain ⟨u, r, l⟩ := hl i x v hN e hv
  have fin : EP X pins σ Q u s := ⟨v, H, I, r, h⟩
  rcases l with ⟨hk, hm⟩ | ⟨hk, c, hc, hcell⟩
  · exact wpAny_Name (wpAny_loadName_local I.ok.kind hk hn hm fin) hd
  · rcases hk with hk | hk
    · exact wpAny_Name (wpAny_loadName_cell I.ok.kind hk hc hcell fin) hd
    · exact wpAny_Name (wpAny_loadName_free I.ok.kind hk hc hcell fin hcd) hd
theorem pe_int {i j pos} : PE X (.Constant (.int i) j pos) (tC (.int i)) := fun _ _ _ H _ I h => wpAny_Constant_int ⟨.int i, H, I.tok _, ⟨_, rfl⟩, h⟩
theorem pe_bl {b j pos} : PE X (.Constant (.bool b) j pos) (tC (.bl b)) := fun _ _ _ H _ I h => Constant_bool ⟨.bl b, H, I, rfl, h⟩
theorem pe_str {x j pos} : PE X (.Constant (.str x) j pos) (tC (.str x)) := fun _ _ _ H _ I h => Calls.Constant_str ⟨.str x, H, I.tok _, ⟨_, rfl⟩, h⟩
def Gl (X : Cx) (x : Str) : Prop := X.env.kindOf x = some .globalImplicit
theorem ld_glob {E : Value → Shared → Prop} {pins : List (Addr × Obj)} {s : Shared} {σ : St} {H : Hp} {x : Str} {u : Value} {pos : Pos} {Q : Value → Shared → Prop} (I : Inv X pins σ H s) (hg : Gl X x) (hm : X.mg x = some u) (h : Q u s)
    (hd : (x == ("__debug__" : Str)) = false := by decide) : wpAny (model X.prog X.w) X.A (eval (.Name x pos) X.env) Q E s :=
  Calls.Name_function_global I.ok.kind hg (Calls.loadGlobal_global (by rw [I.ok.glob]; exact I.mod.glob.keeps I.bk) hm h) hd
theorem ld_blt {E : Value → Shared → Prop} {pins : List (Addr × Obj)} {s : Shared} {σ : St} {H : Hp} {x : Str} {u : Value} {pos : Pos} {Q : Value → Shared → Prop} (I : Inv X pins σ H s) (hg : Gl X x) (hm : X.mg x = none) (hv : bootBuiltins x = some u) (h : Q u s)
    (hn : x ≠ "__name__" := by decide) (hd : (x == ("__debug__" : Str)) = false := by decide) : wpAny (model X.prog X.w) X.A (eval (.Name x pos) X.env) Q E s := by
  obtain ⟨mb, h1, h2⟩ := I.mod.blt
  exact Calls.Name_function_global I.ok.kind hg (Calls.loadGlobal_builtin (by rw [I.ok.glob]; exact I.mod.glob.keeps I.bk) hm (by rw [I.ok.blt]; exact h1.keeps I.bk) ((h2 x hn).trans hv) h) hd
theorem pe_glob {x : Str} {v : V} {u : Value} {pos : Pos} (hg : Gl X x) (hm : X.mg x = some u) (r : RelV v u) (hd : (x == ("__debug__" : Str)) = false := by decide) : PE X (.Name x pos) (tC v) :=
  fun _ _ _ H _ I h => ld_glob I hg hm ⟨v, H, I, r, h⟩ hd
theorem pe_bltn {x : Str} {v : V} {u : Value} {pos : Pos} (hg : Gl X x) (hm : X.mg x = none) (hv : bootBuiltins x = some u) (r : RelV v u) (hn : x ≠ "__name__" := by decide) (hd : (x == ("__debug__" : Str)) = false := by decide) : PE X (.Name x pos) (tC v) :=
  fun _ _ _ H _ I h => ld_blt I hg hm hv ⟨v, H, I, r, h⟩ hn hd
variable {a b : Expr} {ta tb : TE} {pos : Pos}
def tB (t : TE) : TT := fun σ H Q => t σ H fun x H1 => ∃ c, x = .bl c ∧ Q c H1
theorem pt_val {e : Expr} {t : TE} (h : PE X e t) (he : ∀ whole, isTrue e X.env whole = (do let v ← whole; standAt e.pos; holding [v] (truthy v)) := by intro _; rfl) : PT X e (tB t) := by
  intro pins s σ H Q I hw
  refine isTrue_plain (thn (h pins s σ H _ I hw) fun v s1 ⟨x, H1, I1, r1, q1⟩ => ?_) (he _)
  obtain ⟨d, rfl, q⟩ := q1
  cases r1
  exact wpAny_truthy_bool ⟨H1, I1, q⟩
variable {tA tB' : TT} {rest : List Expr}
def tAnd (t u : TT) : TT := fun σ H Q => t σ H fun c H1 => if c = true then u σ H1 Q else Q false H1
def tOr (t u : TT) : TT := fun σ H Q => t σ H fun c H1 => if c = true then Q true H1 else u σ H1 Q
def tNot (t : TT) : TT := fun σ H Q => t σ H fun c H1 => Q (!c) H1
theorem pw_and1 (ha : PT X a tA) : PW X (.BoolOp .And [a] pos) tA := by
  intro wh pins s σ H Q I h
  refine isTrue_and (thn (ha pins s σ H Q I h) fun c s1 e => ?_)
  cases c with
  | true => exact isTrue_and_nil e
  | false => exact e
theorem pw_or1 (ha : PT X a tA) : PW X (.BoolOp .Or [a] pos) tA := by
  intro wh pins s σ H Q I h
  refine isTrue_or (thn (ha pins s σ H Q I h) fun c s1 e => ?_)
  cases c with
  | false => exact isTrue_or_nil e
  | true => exact e
theorem pw_and (ha : PT X a tA) (hb : PW X (.BoolOp .And (b :: rest) pos) tB') : PW X (.BoolOp .And (a :: b :: rest) pos) (tAnd tA tB') := by
  intro wh pins s σ H Q I h
  refine isTrue_and (thn (ha pins s σ H _ I h) fun c s1 ⟨H1, I1, q1⟩ => ?_)
  cases c with
  | true => exact hb wh pins s1 σ H1 Q I1 q1
  | false => exact ⟨H1, I1, q1⟩
theorem pw_or (ha : PT X a tA) (hb : PW X (.BoolOp .Or (b :: rest) pos) tB') : PW X (.BoolOp .Or (a :: b :: rest) pos) (tOr tA tB') := by
  intro wh pins s σ H Q I h
  refine isTrue_or (thn (ha pins s σ H _ I h) fun c s1 ⟨H1, I1, q1⟩ => ?_)
  cases c with
  | true => exact ⟨H1, I1, q1⟩
  | false => exact hb wh pins s1 σ H1 Q I1 q1
theorem pt_not (ha : PT X a tA) : PT X (.UnaryOp .Not a pos) (tNot tA) := by
  intro pins s σ H Q I h
  exact isTrue_not (ha pins s σ H (fun c H1 => Q (!c) H1) I h)
def tAndV (ta tb : TE) : TE := fun σ H Q => ta σ H fun x H1 => ∃ c, x = .bl c ∧ if c = true then tb σ H1 Q else Q (.bl false) H1
def tNotV (ta : TE) : TE := fun σ H Q => ta σ H fun x H1 => ∃ c, x = .bl c ∧ Q (.bl (!c)) H1
theorem pe_one {op} {t : TE} (h : PE X a t) : PE X (.BoolOp op [a] pos) t := fun pins s σ H Q I hw => BoolOp_one (h pins s σ H Q I hw)
theorem pe_and (ha : PE X a ta) (hb : PE X (.BoolOp .And (b :: rest) pos) tb) : PE X (.BoolOp .And (a :: b :: rest) pos) (tAndV ta tb) := by
  intro pins s σ H Q I h
  refine BoolOp_and (thn (ha pins s σ H _ I h) fun v s1 ⟨x, H1, I1, r1, q1⟩ => ?_)
  obtain ⟨c, rfl, q1⟩ := q1
  cases r1
  refine wpAny_truthy_bool ?_
  cases c with
  | true => exact hb pins s1 σ H1 Q I1 q1
  | false => exact ⟨.bl false, H1, I1, rfl, q1⟩
theorem pe_not (ha : PE X a ta) : PE X (.UnaryOp .Not a pos) (tNotV ta) := by
  intro pins s σ H Q I h
  refine UnaryOp_ (thn (ha pins s σ H _ I h) fun v s1 ⟨x, H1, I1, r1, q1⟩ => ?_)
  obtain ⟨c, rfl, q1⟩ := q1
  cases r1
  exact not_of (wpAny_truthy_bool ⟨.bl (!c), H1, I1, rfl, q1⟩)
end
end L2
namespace L2
open PySem PySem.Spec PyProof.Rows
def SqL (K : PySem.W.Frag) (H : Hp) (a : Addr) (xs : List V) : Prop :=
  Rd H a (.lst xs) ∨
    ∃ (o : Obj) (its : Array Value) (n : Nat), K.lookup a = some o ∧ o.cls = .type "list" ∧ o.dict = none ∧ o.data = .seq its n ∧ its.size ≤ sizeLine ∧ Vals xs its.toList
def SqT (K : PySem.W.Frag) (H : Hp) (a : Addr) (xs : List V) : Prop :=
  Rd H a (.tup xs) ∨
    ∃ (o : Obj) (its : Array Value) (n : Nat), K.lookup a = some o ∧ o.cls = .type "tuple" ∧ o.data = .seq its n ∧ its.size ≤ sizeLine ∧ Vals xs its.toList
def absV : Value → Option V
  | .none => some .non
  | .bool b => some (.bl b)
  | .int i _ => some (.int i)
  | .str x _ => some (.str x)
  | .bytes b _ => some (.byt b)
  | .float b _ => some (.flt b)
  | .ref a => some (.ref a)
  | .type n => some (.ty n)
  | _ => none
theorem RelV.abs {x : V} {u : Value} (r : RelV x u) : absV u = some x := by
  cases x with
  | non => cases r; rfl
  | bl _ => cases r; rfl
  | int _ => obtain ⟨t, rfl⟩ := r; rfl
  | str _ => obtain ⟨t, rfl⟩ := r; rfl
  | byt _ => obtain ⟨t, rfl⟩ := r; rfl
  | flt _ => obtain ⟨t, rfl⟩ := r; rfl
  | ref _ => cases r; rfl
  | ty _ => cases r; rfl
theorem RelV.inj {x y : V} {u : Value} (r : RelV x u) (q : RelV y u) : x = y := Option.some.inj (r.abs.symm.trans q.abs)
theorem Vals.inj : ∀ {xs ys : List V} {us : List Value}, Vals xs us → Vals ys us → xs = ys
  | _, _, _, .nil, .nil => rfl
  | _, _, _, .cons r t, .cons r' t' => by rw [r.inj r', Vals.inj t t']
section
variable {X : Cx} {pins : List (Addr × Obj)} {σ : St} {H : Hp} {s : Shared} {a : Addr} {xs ys : List V}
theorem SqT.of {K : PySem.W.Frag} (h : H a = some (.tup xs)) : SqT K H a xs := .inl (.inl h)
theorem Inv.list (I : Inv X pins σ H s) (h : SqL X.K H a xs) : ∃ its : List Value, Vals xs its ∧ PlainL s.heap a its.toArray ∧ xs.length ≤ sizeLine := by
  rcases h with h | ⟨o, its, n, hk, hc, hd, hs, hz, r⟩
  · obtain ⟨z, its, n, r, e⟩ := h.ok I.hok
    exact ⟨its, r, ⟨_, n, e, rfl, rfl, rfl⟩, z⟩
  · refine ⟨its.toList, r, ⟨o, n, I.kIn a o hk, hc, hd, by simpa using hs⟩, ?_⟩
    have e := r.length
    simp only [Array.length_toList] at e
    omega
theorem Inv.tuple (I : Inv X pins σ H s) (h : SqT X.K H a xs) : ∃ its : List Value, Vals xs its ∧ IsTup s.heap a its.toArray ∧ xs.length ≤ sizeLine := by
  rcases h with h | ⟨o, its, n, hk, hc, hs, hz, r⟩
  · obtain ⟨z, its, r, p⟩ := h.ok I.hok
    exact ⟨its, r, p, z⟩
  · refine ⟨its.toList, r, ⟨o, I.kIn a o hk, hc, n, by simpa using hs⟩, ?_⟩
    have e := r.length
    simp only [Array.length_toList] at e
    omega
theorem Inv.list_inj (I : Inv X pins σ H s) (h : SqL X.K H a xs) (h' : SqL X.K H a ys) : xs = ys := by
  obtain ⟨its, r, ⟨o, n, e, _, _, d⟩, _⟩ := I.list h
  obtain ⟨its', r', ⟨o', n', e', _, _, d'⟩, _⟩ := I.list h'
  rw [e] at e'; cases e'
  rw [d] at d'
  injection d' with d1 _
  have : its = its' := by simpa using congrArg Array.toList d1
  subst this
  exact r.inj r'
theorem Inv.tuple_inj (I : Inv X pins σ H s) (h : SqT X.K H a xs) (h' : SqT X.K H a ys) : xs = ys := by
  obtain ⟨its, r, ⟨o, e, _, n, d⟩, _⟩ := I.tuple h
  obtain ⟨its', r', ⟨o', e', _, n', d'⟩, _⟩ := I.tuple h'
  rw [e] at e'; cases e'
  rw [d] at d'
  injection d' with d1 _
  have : its = its' := by simpa using congrArg Array.toList d1
  subst this
  exact r.inj r'
end
abbrev Cx.wish (X : Cx) (E : Value → Shared → Prop) : Cx := { X with xe := E }
abbrev Cx.nox (X : Cx) : Cx := X.wish fun _ _ => False
theorem Cx.Ok.wish {X : Cx} (ok : X.Ok) (E : Value → Shared → Prop) : (X.wish E).Ok :=
  ⟨ok.mod, ok.kind, ok.glob, ok.blt, ok.above, ok.inj, ok.has, ok.cab, ok.hd, ok.frames, ok.stk, ok.exf, ok.bs, ok.bsz, ok.noex, ok.exfs, ok.funs, ok.frf⟩
theorem Cx.Ok.unwish {X : Cx} {E : Value → Shared → Prop} (ok : (X.wish E).Ok) : X.Ok :=
  ⟨ok.mod, ok.kind, ok.glob, ok.blt, ok.above, ok.inj, ok.has, ok.cab, ok.hd, ok.frames, ok.stk, ok.exf, ok.bs, ok.bsz, ok.noex, ok.exfs, ok.funs, ok.frf⟩
section
variable {X : Cx} {pins : List (Addr × Obj)} {σ : St} {H : Hp} {s : Shared} {E : Value → Shared → Prop}
theorem Inv.wish (I : Inv X pins σ H s) (E : Value → Shared → Prop) : Inv (X.wish E) pins σ H s := ⟨I.ok.wish E, I.os, I.bare, I.base, I.loc, I.cell, I.free, I.freeC, I.pin, I.hok, I.len⟩
theorem Inv.unwish (I : Inv (X.wish E) pins σ H s) : Inv X pins σ H s := ⟨I.ok.unwish, I.os, I.bare, I.base, I.loc, I.cell, I.free, I.freeC, I.pin, I.hok, I.len⟩
theorem SP.unwish {D : Ends} {f : Flow} {s' : Shared} (h : SP (X.wish E) pins D f s') : SP X pins D f s' := by
  cases f with
  | next => obtain ⟨σ', H', I, q⟩ := h; exact ⟨σ', H', I.unwish, q⟩
  | brk => obtain ⟨σ', H', I, q⟩ := h; exact ⟨σ', H', I.unwish, q⟩
  | cont => obtain ⟨σ', H', I, q⟩ := h; exact ⟨σ', H', I.unwish, q⟩
  | ret u => obtain ⟨v, σ', H', I, r, q⟩ := h; exact ⟨v, σ', H', I.unwish, r, q⟩
theorem PSs.nox {st : List Stmt} {t : TS} (h : PSs X.nox st t) : PSs X st t := fun pins s σ H D I hw =>
  wpAny_mono (h pins s σ H D (I.wish _) hw) (fun _ _ q => q.unwish) fun _ _ z => False.elim z
end
section
variable {X : Cx} {st : Stmt} {rest : List Stmt} {t u : TS} {e : Expr} {te : TE} {pos : Pos}
def tNext : TS := fun D σ H => D.nx σ H
def tSeq (t u : TS) : TS := fun D σ H => t { D with nx := u D } σ H
theorem pss_nil : PSs X [] tNext := fun _ _ σ H _ I h => wpAny_execs_nil ⟨σ, H, I, h⟩
theorem pss_cons (h1 : PS X st t) (h2 : PSs X rest u) : PSs X (st :: rest) (tSeq t u) := by
  intro pins s σ H D I h
  refine wpAny_execs_cons (thn (h1 pins s σ H { D with nx := u D } I h) fun f s1 q => ?_)
  cases f with
  | next =>
    obtain ⟨σ', H', I', q⟩ := q
    exact h2 pins s1 σ' H' D I' q
  | ret v => exact q
  | brk => exact q
  | cont => exact q
theorem pss_one (h1 : PS X st t) : PSs X [st] t := by
  intro pins s σ H D I h
  refine wpAny_execs_cons (thn (h1 pins s σ H D I h) fun f s1 q => ?_)
  cases f with
  | next => exact wpAny_execs_nil q
  | ret v => exact q
  | brk => exact q
  | cont => exact q
theorem Inv.quiet {pins : List (Addr × Obj)} {σ : St} {H : Hp} {s : Shared} (I : Inv X pins σ H s) : interactive X.env = false := by simp [interactive, I.ok.kind]
def tDrop (te : TE) : TS := fun D σ H => te σ H fun _ H1 => D.nx σ H1
theorem ps_expr (he : PE X e te) (hs : swapsWith e none pos.line X.env = pure false := by rfl) : PS X (.Expr e pos) (tDrop te) := by
  intro pins s σ H D I h
  exact wpAny_Expr_any (thn (he pins s σ H _ I h) fun v s1 ⟨x, H1, I1, r1, q1⟩ => ⟨σ, H1, I1, q1⟩) I.quiet hs
def tRet (te : TE) : TS := fun D σ H => te σ H D.rt
theorem ps_ret (he : PE X e te) : PS X (.Return (some e) pos) (tRet te) := by
  intro pins s σ H D I h
  exact wpAny_Return_some (thn (he pins s σ H _ I h) fun v s1 ⟨x, H1, I1, r1, q1⟩ => ⟨x, σ, H1, I1, r1, q1⟩)
def tIfS (c : TT) (t u : TS) : TS := fun D σ H => c σ H fun b H1 => if b = true then t D σ H1 else u D σ H1
theorem ps_if {c : Expr} {a b : List Stmt} {tc : TT} (hc : PT X c tc) (ha : PSs X a t) (hb : PSs X b u) : PS X (.If c a b pos) (tIfS tc t u) := by
  intro pins s σ H D I h
  refine wpAny_If (thn (hc pins s σ H _ I h) fun d s1 ⟨H1, I1, q1⟩ => ?_)
  cases d with
  | true => exact ha pins s1 σ H1 D I1 q1
  | false => exact hb pins s1 σ H1 D I1 q1
def tNever : TS := fun _ _ _ => False
theorem ps_never : PS X st tNever := fun _ _ _ _ _ _ h => h.elim
end
abbrev TG := V → St → Hp → (St → Hp → Prop) → Prop
abbrev TGs := List V → St → Hp → (St → Hp → Prop) → Prop
def PG (X : Cx) (target : Expr) (t : TG) : Prop :=
  ∀ (pins : List (Addr × Obj)) (s : Shared) (σ : St) (H : Hp) (v : V) (u : Value) (Q : St → Hp → Prop), Inv X pins σ H s → RelV v u → t v σ H Q →
    wpAny (model X.prog X.w) X.A (assign target X.env u) (fun _ s' => ∃ σ' H', Inv X pins σ' H' s' ∧ Q σ' H') X.xe s
def PGs (X : Cx) (ts : List Expr) (t : TGs) : Prop :=
  ∀ (pins : List (Addr × Obj)) (s : Shared) (σ : St) (H : Hp) (vs : List V) (us : List Value) (Q : St → Hp → Prop), Inv X pins σ H s → Vals vs us → t vs σ H Q →
    wpAny (model X.prog X.w) X.A (assignInOrder ((assignEach ts X.env).map (·.2)) us) (fun _ s' => ∃ σ' H', Inv X pins σ' H' s' ∧ Q σ' H') X.xe s
section
variable {X : Cx} {pos : Pos}
def gName (i : Nat) : TG := fun v σ H Q => Q (σ.set i (some v)) H
theorem pg_name {i : Nat} {x : Str} (hN : X.N.Nodup) (hi : X.N[i]? = some x) (hx : Loc X.env.scope x) (hf : X.fn x = true ∨ X.env.scope.names.lookup x = some .local := by first | exact .inl rfl | exact .inr rfl | assumption) : PG X (.Name x pos) (gName i) := by
  intro pins s σ H v u Q I r h
  exact wpAny_assign_Name (store_ok I hN hi hx r (fun s' I' => ⟨_, H, I', h⟩) hf)
def gNil : TGs := fun vs σ H Q => vs = [] ∧ Q σ H
def gCons (t : TG) (u : TGs) : TGs := fun vs σ H Q => ∃ v r, vs = v :: r ∧ t v σ H fun σ' H' => u r σ' H' Q
theorem pgs_nil : PGs X [] gNil := by
  intro pins s σ H vs us Q I r h
  obtain ⟨e, h⟩ := h
  subst e
  cases r
  exact assignInOrder_nil ⟨σ, H, I, h⟩
theorem pgs_cons {e : Expr} {es : List Expr} {t : TG} {u : TGs} (h1 : PG X e t) (h2 : PGs X es u)
    (hs : (assignEach (e :: es) X.env).map (·.2) = assign e X.env :: (assignEach es X.env).map (·.2) := by rfl) : PGs X (e :: es) (gCons t u) := by
  intro pins s σ H vs us Q I r h
  obtain ⟨v, vr, e1, h⟩ := h
  subst e1
  cases r with
  | cons r rr =>
    rw [hs]
    refine assignInOrder_cons (thn (h1 pins s σ H _ _ _ I r h) fun _ s1 ⟨σ1, H1, I1, q1⟩ => ?_)
    exact h2 pins s1 σ1 H1 _ _ Q I1 rr q1
def gTup (K : PySem.W.Frag) (n : Nat) (t : TGs) : TG := fun v σ H Q => ∃ a xs, v = .ref a ∧ SqT K H a xs ∧ xs.length = n ∧ t xs σ H Q
theorem pg_tup {es : List Expr} {k : Nat} {t : TGs} {n : Nat} (hc : X.calm = true) (h : PGs X es t)
    (hn : (assignEach es X.env).length = n := by rfl) (hst : (assignEach es X.env).findIdx? (·.1) = none := by rfl) : PG X (.Tuple es k pos) (gTup X.K n t) := by
  intro pins s σ H v u Q I r hw
  obtain ⟨a, xs, e1, hq, hl, hw⟩ := hw
  subst e1
  cases r
  obtain ⟨its, rv, ht, hz⟩ := I.tuple hq
  refine assign_Tuple_tuple (I.ok.hd hc) ht (by simp [hn, ← hl, rv.length]) hst fun h' hx => ?_
  have I1 : Inv X pins σ H { s with heap := h' } := I.kept (t' := s.toks) fun b o e => hx b o (Nat.ne_of_lt (Heap.lt_size e)) e
  exact h pins _ σ H xs _ Q I1 (by simpa using rv) hw
def tAsg (te : TE) (g : TG) : TS := fun D σ H => te σ H fun x H1 => g x σ H1 D.nx
theorem ps_set {i : Nat} {x : Str} {e : Expr} {te : TE} {pos' : Pos} (hN : X.N.Nodup) (hi : X.N[i]? = some x) (hx : Loc X.env.scope x) (he : PE X e te) (hs : swapsWith e (some (.Name x pos')) pos.line X.env = pure false := by rfl) (hf : X.fn x = true ∨ X.env.scope.names.lookup x = some .local := by first | exact .inl rfl | exact .inr rfl | assumption) :
    PS X (.Assign [.Name x pos'] e pos) (tAsg te (gName i)) := by
  intro pins s σ H D I h
  refine wpAny_Assign_Name (thn (he pins s σ H _ I h) fun v s1 ⟨y, H1, I1, r1, q1⟩ => ?_) hs
  exact store_ok I1 hN hi hx r1 (fun s2 I2 => ⟨_, H1, I2, q1⟩) hf
end
section
variable {X : Cx} {pos : Pos}
end
structure It where
  go : Nat → Hp → Prop
  yld : Nat → Hp → V → Hp → Prop
  stop : Nat → Hp → Prop
def FpOk (X : Cx) (pins : List (Addr × Obj)) (H : Hp) (b : Addr) : Prop :=
  H b = none ∧ b ≠ X.env.locals ∧ b ∉ X.fs ∧ (b ∈ X.ex ∨ X.s₀.heap.objs.size ≤ b) ∧ (∀ x c, X.env.cells.lookup x = some c → c ≠ b) ∧ ∀ p ∈ X.pn ++ pins, p.1 ≠ b
theorem Inv.fpOk {X : Cx} {pins : List (Addr × Obj)} {σ : St} {H H' : Hp} {s : Shared} {b : Addr} (I : Inv X pins σ H s) (hb : s.heap.objs.size ≤ b) (hn : H' b = none) : FpOk X pins H' b := by
  refine ⟨hn, Nat.ne_of_gt (Nat.lt_of_lt_of_le I.lt hb), I.nofs hb, .inr (Nat.le_trans I.sz hb), fun x c e z => ?_, fun p hp z => ?_⟩
  · obtain ⟨v, q⟩ := I.cell x c e
    exact absurd (Nat.lt_of_lt_of_le q.lt (by rw [z]; exact hb)) (Nat.lt_irrefl _)
  · exact absurd (Nat.lt_of_lt_of_le (Heap.lt_size (I.pin p hp).1) (by rw [z]; exact hb)) (Nat.lt_irrefl _)
structure Turn (P : Program) (w : World) (K : PySem.W.Frag) (tg : Expr) (J : It) (fp : List Addr) (it : Addr) (tn : Nat → Heap → Prop) : Prop where
  mem : it ∈ fp
  obj : ∀ i h, tn i h → ∀ b ∈ fp, ∃ o, h.get? b = some o ∧ ∀ v, o.data ≠ .cell v
  keep : ∀ i h h', tn i h → (∀ b ∈ fp, ∀ o, h.get? b = some o → h'.get? b = some o) → tn i h'
  item : ∀ (X : Cx), X.prog = P → X.w = w → X.K = K → X.calm = true → ∀ (i : Nat) (pins : List (Addr × Obj)) (s : Shared) (σ : St) (H : Hp) (E : Value → Shared → Prop), Inv X pins σ H s → (∀ b ∈ fp, FpOk X pins H b) → tn i s.heap → J.go i H →
    wpAny (model P w) X.A (pyNext (.ref it)) (fun r s1 => ∃ u, r = some u ∧
      wpAny (model P w) X.A (letOwnedTupleGo tg (.ref it) u) (fun _ s2 => ∃ x H', Inv X pins σ H' s2 ∧ RelV x u ∧ J.yld i H x H' ∧ tn (i + 1) s2.heap ∧ ∀ b ∈ fp, H' b = none) E s1) E s
  done : ∀ (X : Cx), X.prog = P → X.w = w → X.K = K → X.calm = true → ∀ (i : Nat) (pins : List (Addr × Obj)) (s : Shared) (σ : St) (H : Hp) (E : Value → Shared → Prop), Inv X pins σ H s → (∀ b ∈ fp, FpOk X pins H b) → tn i s.heap → J.stop i H →
    wpAny (model P w) X.A (pyNext (.ref it)) (fun r s1 => r = none ∧ Inv X pins σ H s1) E s
  self : ∀ (A : Around) (i : Nat) (s : Shared) (Q : Value → Shared → Prop) (E : Value → Shared → Prop), tn i s.heap → Q (.ref it) s → wpAny (model P w) A (pyIter (.ref it)) Q E s
abbrev TI := St → Hp → (It → Hp → Prop) → Prop
def PIE (X : Cx) (pins : List (Addr × Obj)) (σ : St) (tg : Expr) (R : It → Hp → Prop) (itv : Value) (s2 : Shared) : Prop :=
  ∃ (it : Addr) (fp : List Addr) (tn : Nat → Heap → Prop) (J : It) (H' : Hp), itv = .ref it ∧ Inv X pins σ H' s2 ∧ Turn X.prog X.w X.K tg J fp it tn ∧ tn 0 s2.heap ∧ (∀ b ∈ fp, FpOk X pins H' b) ∧ R J H'
def PI (X : Cx) (tg iter : Expr) (wi : TI) : Prop :=
  ∀ (pins : List (Addr × Obj)) (s : Shared) (σ : St) (H : Hp) (R : It → Hp → Prop), Inv X pins σ H s → wi σ H R →
    wpAny (model X.prog X.w) X.A (eval iter X.env) (fun v s1 => wpAny (model X.prog X.w) X.A (pyIter v) (PIE X pins σ tg R) X.xe s1) X.xe s
theorem go_of {M : Model} {A : Around} {E : Value → Shared → Prop} {s : Shared} {tg : Expr} {it : Addr} {u : Value} {o : Obj} {n : String} {vs : Array Value} {Q : Unit → Shared → Prop} (ho : s.heap.get? it = some o) (hc : o.cls = .type n) (hd : o.data = .fields vs)
    (hn : ["enumerate", "zip", "dict_itemiterator", "dict_reverseitemiterator", "odict_iterator", "itertools.zip_longest", "itertools.pairwise"].contains n = false) (hQ : Q () s) : wpAny M A (letOwnedTupleGo tg (.ref it) u) Q E s := by
  unfold letOwnedTupleGo
  cases tg <;> first
    | exact wpAny_pure hQ
    | (cases u <;> first
        | exact wpAny_pure hQ
        | (refine wpAny_bind (wpAny_load ho ?_)
           rw [hc, hd]
           show wpAny M A (if (["enumerate", "zip", "dict_itemiterator", "dict_reverseitemiterator", "odict_iterator", "itertools.zip_longest", "itertools.pairwise"].contains n && vs[0]? == some (rawInt _)) = true then _ else _) Q E s
           rw [if_neg (by intro h; rw [hn, Bool.false_and] at h; cases h)]
           exact wpAny_pure hQ))
def Itr (lo : Int) (n : Nat) : It := ⟨fun i _ => i < n, fun i H x H' => H' = H ∧ x = .int (lo + i), fun i _ => n ≤ i⟩
theorem turn_range {P : Program} {w : World} {K : PySem.W.Frag} {tg : Expr} (it : Addr) (lo : Int) (n : Nat) : Turn P w K tg (Itr lo n) [it] it (fun i h => IsRangeIter h it (lo + (i : Nat) * 1) ((n : Int) - (i : Nat)) 1) where
  mem := by simp
  obj := fun i h st b hb => by
    have e : b = it := by simpa using hb
    subst e
    exact ⟨_, st, fun v z => by
      have z' : Data.fields _ = Data.cell v := z
      cases z'⟩
  keep := fun i h h' st k => k it (by simp) _ st
  item := by
    intro X hP hw hK hc i pins s σ H E I hf st hg
    subst hP hw hK
    obtain ⟨f0, f1, f2, f3, f4, f5⟩ := hf it (by simp)
    have W := Walks.range (prog := X.prog) (w := X.w) (I.ok.hd hc) it lo 1 n
    refine W.item i s _ _ hg st fun v h' tk hv st' kk => ?_
    obtain ⟨t, rfl⟩ := hv
    have I1 : Inv X pins σ H { s with heap := h', toks := tk } := I.turned (fun b o hb e => kk b o (by simpa using hb) e) f0 f1 f3 f4 f5
    refine ⟨_, rfl, go_of (s := { s with heap := h', toks := tk }) (n := "range_iterator") st' rfl rfl (by decide) ⟨.int (lo + i), H, I1, ⟨t, ?_⟩, ⟨rfl, rfl⟩, st', fun b hb => (hf b hb).1⟩⟩
    rw [Int.mul_one]
  done := by
    intro X hP hw hK hc i pins s σ H E I hf st hg
    subst hP hw hK
    obtain ⟨f0, f1, f2, f3, f4, f5⟩ := hf it (by simp)
    exact wpAny_pyNext_range_end (I.ok.hd hc) st (by have : n ≤ i := hg; omega) fun h' eb => ⟨rfl, I.turned (t' := s.toks) (fun b o hb e => eb b o hb e) f0 f1 f3 f4 f5⟩
  self := fun _ _ _ _ _ st h => wpAny_pyIter_rangeiter st h
end L2
namespace L2
open PySem PySem.Spec PyProof.Rows
section
variable {X : Cx} {tg : Expr}
theorem range_it {pins : List (Addr × Obj)} {σ : St} {H : Hp} {s : Shared} {R : It → Hp → Prop} {E : Value → Shared → Prop} {lo hi : Int} {t u v : Tok} {tk : Nat} (I : Inv X pins σ H s) (h1 : -(2 ^ 62) ≤ lo) (h2 : lo < 2 ^ 62) (h3 : -(2 ^ 62) ≤ hi) (h4 : hi < 2 ^ 62)
    (q : R (Itr lo (hi - lo).toNat) H) : wpAny (model X.prog X.w) X.A (pyIter (.ref s.heap.objs.size)) (PIE X pins σ tg R) E { s with heap := s.heap.push { cls := .type "range", data := .fields #[.int lo t, .int hi u, .int 1 v] }, toks := tk } := by
  refine wpAny_pyIter_range (IsRange.new ..) (small_one h1 h2 h3 h4) ?_
  have I1 : Inv X pins σ H { s with heap := s.heap.push { cls := .type "range", data := .fields #[.int lo t, .int hi u, .int 1 v] }, toks := tk } := I.kept fun b o e => Heap.get?_push_of_some _ e
  refine ⟨(s.heap.push { cls := .type "range", data := .fields #[.int lo t, .int hi u, .int 1 v] }).objs.size, [(s.heap.push { cls := .type "range", data := .fields #[.int lo t, .int hi u, .int 1 v] }).objs.size], _, _, H, rfl,
    I1.kept (t' := tk) fun b o e => Heap.get?_push_of_some _ e, turn_range _ lo (hi - lo).toNat, ?_, fun b hb => ?_, q⟩
  · have e1 : lo + ((0 : Nat) : Int) * 1 = lo := by simp
    have e2 : (((hi - lo).toNat : Nat) : Int) - ((0 : Nat) : Int) = Builtin.Range.rangeSize lo hi 1 := by rw [rangeSize_one]; split <;> omega
    show IsRangeIter _ _ (lo + ((0 : Nat) : Int) * 1) ((((hi - lo).toNat : Nat) : Int) - ((0 : Nat) : Int)) 1
    rw [e1, e2]
    exact Heap.get?_push_size _ rfl
  · have e : b = (s.heap.push { cls := .type "range", data := .fields #[.int lo t, .int hi u, .int 1 v] }).objs.size := by simpa using hb
    subst e
    exact I1.fpOk (Nat.le_refl _) (I1.hok.fresh (Nat.le_refl _))
def iRng1 (ta : TA) : TI := fun σ H R => ta σ H fun vs H1 => ∃ j : Int, vs = [.int j] ∧ -(2 ^ 62) ≤ j ∧ j < 2 ^ 62 ∧ R (Itr 0 j.toNat) H1
theorem pi_range1 {a : Expr} {ta : TA} {p pos : Pos} (hg : Gl X "range") (hm : X.mg "range" = none) (ha : PA X [a] ta) (hs : starEach [a] X.env = [(false, eval a X.env)] := by rfl) : PI X tg (.Call (.Name "range" p) [a] [] pos) (iRng1 ta) := by
  intro pins s σ H R I h
  refine Call_ (ld_blt I hg hm boot_range (PyProof.Rows.callWith_type1 (thn (ha pos pins s σ H _ I h) fun us s1 ⟨vs, H1, I1, r1, q1⟩ => ?_) hs rfl))
  obtain ⟨j, e, q1, q2, q⟩ := q1
  subst e
  cases r1 with
  | cons r rr =>
    cases rr
    obtain ⟨t, rfl⟩ := r
    exact call_range_1 (range_it I1 (by omega) (by omega) q1 q2 (by simpa using q))
def tFor (wi : TI) (g : TG) (tb : TS) : TS := fun D σ H => wi σ H fun J H1 => ∃ W : Nat → Nat → St → Hp → Prop, (∃ m, W 0 m σ H1) ∧ ∀ i m σ H, W i m σ H →
  (J.stop i H ∧ D.nx σ H) ∨ (J.go i H ∧ ∃ N : St → Hp → Prop, (∀ σ' H', N σ' H' → ∃ m', m' < m ∧ W (i + 1) m' σ' H') ∧ ∀ x H', J.yld i H x H' → g x σ H' fun σ2 H2 => tb { D with nx := N, ct := N, bk := D.nx } σ2 H2)
def pinsAt (fp : List Addr) (h : Heap) : List (Addr × Obj) := fp.filterMap fun b => (h.get? b).map fun o => (b, o)
theorem mem_pinsAt {fp : List Addr} {h : Heap} {b : Addr} {o : Obj} (hb : b ∈ fp) (e : h.get? b = some o) : (b, o) ∈ pinsAt fp h := List.mem_filterMap.mpr ⟨b, hb, by rw [e]; rfl⟩
theorem of_pinsAt {fp : List Addr} {h : Heap} {p : Addr × Obj} (hp : p ∈ pinsAt fp h) : p.1 ∈ fp ∧ h.get? p.1 = some p.2 := by
  obtain ⟨b, hb, e⟩ := List.mem_filterMap.mp hp
  cases q : h.get? b with
  | none => rw [q] at e; cases e
  | some o =>
    rw [q] at e
    have e' : (b, o) = p := Option.some.inj e
    subst e'
    exact ⟨hb, q⟩
theorem Inv.pinned {pins : List (Addr × Obj)} {σ : St} {H : Hp} {s : Shared} {fp : List Addr} (I : Inv X pins σ H s) (hf : ∀ b ∈ fp, FpOk X pins H b) (ho : ∀ b ∈ fp, ∃ o, s.heap.get? b = some o ∧ ∀ v, o.data ≠ .cell v) : Inv X (pins ++ pinsAt fp s.heap) σ H s :=
  I.pins_of fun p hp => (List.mem_append.mp hp).elim (fun z => I.pin p (List.mem_append_right _ z)) fun z => by
    obtain ⟨hb, e⟩ := of_pinsAt z
    obtain ⟨f0, f1, f2, _⟩ := hf p.1 hb
    obtain ⟨o, e', d⟩ := ho p.1 hb
    rw [e] at e'; cases e'
    exact ⟨e, f0, f1, f2, d⟩
theorem Inv.unpinned {pins pl : List (Addr × Obj)} {σ : St} {H : Hp} {s : Shared} (I : Inv X (pins ++ pl) σ H s) : Inv X pins σ H s := I.pins_of fun p hp => I.pin p (List.mem_append_right _ (List.mem_append_left _ hp))
theorem ps_for {iter : Expr} {body : List Stmt} {wi : TI} {g : TG} {tb : TS} {pos : Pos} (hp : PassesOwn (model X.prog X.w) X.A X.env X.xe) (hc : X.calm = true) (hi : PI X tg iter wi) (hg : PG X tg g) (hb : PSs X body tb)
    (hs : ∀ x, foldedSetIterable iter X.env x = pure x := by intro _; rfl) : PS X (.For tg iter body [] pos) (tFor wi g tb) := by
  intro pins s σ H D I h
  refine wpAny_For (thn (hi pins s σ H _ I h) fun v s1 h1 => thn h1 fun itv s2 h2 => ?_) hs
  obtain ⟨it, fp, tn, J, H2, e, I2, T, st2, f2, W, ⟨m0, w0⟩, turn⟩ := h2
  subst e
  have stat : ∀ {H' : Hp}, (∀ b ∈ fp, H' b = none) → ∀ b ∈ fp, FpOk X pins H' b := fun hn b hb => ⟨hn b hb, (f2 b hb).2⟩
  refine codeAny_forLoop_any (fun n s' => ∃ i σ' H', Inv X pins σ' H' s' ∧ tn i s'.heap ∧ (∀ b ∈ fp, H' b = none) ∧ W i n σ' H') ?_ m0 ⟨0, σ, H2, I2, st2, fun b hb => (f2 b hb).1, w0⟩
  rintro n s3 ⟨i, σ3, H3, I3, st3, fr3, w3⟩
  rcases turn i n σ3 H3 w3 with ⟨stop, qn⟩ | ⟨go, N, hN, step⟩
  · refine wpAny_passesOwn hp (thn (T.done X rfl rfl rfl hc i pins s3 σ3 H3 X.xe I3 (stat fr3) st3 stop) fun r s4 ⟨hr, I4⟩ => ?_)
    subst hr
    exact wpAny_execs_nil ⟨σ3, H3, I4, qn⟩
  · refine wpAny_passesOwn hp (thn (T.item X rfl rfl rfl hc i pins s3 σ3 H3 X.xe I3 (stat fr3) st3 go) fun r s4 ⟨u, hr, h4⟩ => ?_)
    subst hr
    refine wpAny_passesOwn hp (thn h4 fun _ s5 ⟨x, H5, I5, r5, y5, st5, fr5⟩ => ?_)
    have I5' := I5.pinned (stat fr5) (T.obj _ _ st5)
    refine wpAny_passesOwn hp (thn (hg _ s5 σ3 H5 x u _ I5' r5 (step x H5 y5)) fun _ s6 ⟨σ6, H6, I6, q6⟩ => ?_)
    refine wpAny_passesOwn hp (thn (hb _ s6 σ6 H6 _ I6 q6) fun f s7 q7 => ?_)
    have again : ∀ {σ7 : St} {H7 : Hp}, Inv X (pins ++ pinsAt fp s5.heap) σ7 H7 s7 → N σ7 H7 → ∃ m, m < n ∧ ∃ i σ' H', Inv X pins σ' H' s7 ∧ tn i s7.heap ∧ (∀ b ∈ fp, H' b = none) ∧ W i m σ' H' := fun {σ7 H7} I7 n7 => by
      obtain ⟨m', hm, w7⟩ := hN σ7 H7 n7
      refine ⟨m', hm, i + 1, σ7, H7, I7.unpinned, T.keep _ _ _ st5 fun b hb o e => (I7.pin (b, o) (List.mem_append_right _ (List.mem_append_right _ (mem_pinsAt hb e)))).1, fun b hb => ?_, w7⟩
      obtain ⟨o, e, d⟩ := T.obj _ _ st5 b hb
      exact (I7.pin (b, o) (List.mem_append_right _ (List.mem_append_right _ (mem_pinsAt hb e)))).2.1
    cases f with
    | next => obtain ⟨σ7, H7, I7, n7⟩ := q7; exact again I7 n7
    | cont => obtain ⟨σ7, H7, I7, n7⟩ := q7; exact again I7 n7
    | brk => obtain ⟨σ7, H7, I7, q7⟩ := q7; exact ⟨σ7, H7, I7.unpinned, q7⟩
    | ret v => obtain ⟨x7, σ7, H7, I7, r7, q7⟩ := q7; exact ⟨x7, σ7, H7, I7.unpinned, r7, q7⟩
end
end L2
namespace L2
open PySem PySem.Spec PyProof.Rows
abbrev R2 := V → V → Hp → VK → Prop
def OpR (X : Cx) (f : Value → Value → Sem Value) (r : R2) : Prop :=
  ∀ (pins : List (Addr × Obj)) (s : Shared) (σ : St) (H : Hp) (x y : V) (v u : Value) (Q : VK), Inv X pins σ H s → RelV x v → RelV y u → r x y H Q →
    wpAny (model X.prog X.w) X.A (f v u) (EP X pins σ Q) X.xe s
def CallR (X : Cx) (f : Value) (r : List V → Hp → VK → Prop) : Prop :=
  ∀ (pins : List (Addr × Obj)) (s : Shared) (σ : St) (H : Hp) (xs : List V) (us : List Value) (Q : VK), Inv X pins σ H s → Vals xs us → r xs H Q →
    wpAny (model X.prog X.w) X.A (call f us) (EP X pins σ Q) X.xe s
def tOp (r : R2) (ta tb : TE) : TE := fun σ H Q => ta σ H fun x H1 => tb σ H1 fun y H2 => r x y H2 Q
def rI (C : Int → Int → Prop) (g : Int → Int → V) : R2 := fun x y H Q => ∃ i j, x = .int i ∧ y = .int j ∧ C i j ∧ Q (g i j) H
def rI0 (g : Int → Int → V) : R2 := fun x y H Q => ∃ i j, x = .int i ∧ y = .int j ∧ Q (g i j) H
section
variable {X : Cx} {a b c : Expr} {ta tb tc : TE} {pos : Pos}
theorem binT (ha : PE X a ta) (hb : PE X b tb) {pins : List (Addr × Obj)} {s : Shared} {σ : St} {H : Hp} {R : V → V → Hp → Prop} (I : Inv X pins σ H s)
    (h : ta σ H fun x H1 => tb σ H1 fun y H2 => R x y H2) {Q : Value → Shared → Prop} {f : Value → Value → Sem Value}
    (hf : ∀ v u s2 x y H2, Inv X pins σ H2 s2 → RelV x v → RelV y u → R x y H2 → wpAny (model X.prog X.w) X.A (f v u) Q X.xe s2) :
    wpAny (model X.prog X.w) X.A (eval a X.env) (fun v s₁ => wpAny (model X.prog X.w) X.A (eval b X.env) (fun u s₂ => wpAny (model X.prog X.w) X.A (f v u) Q X.xe s₂) X.xe s₁) X.xe s := by
  refine thn (ha pins s σ H _ I h) fun v s1 ⟨x, H1, I1, r1, q1⟩ => ?_
  refine thn (hb pins s1 σ H1 _ I1 q1) fun u s2 ⟨y, H2, I2, r2, q2⟩ => ?_
  exact hf v u s2 x y H2 I2 r1 r2 q2
theorem pe_op {op : Operator} {r : R2} (ho : OpR X (binaryOp op) r) (ha : PE X a ta) (hb : PE X b tb) : PE X (.BinOp a op b pos) (tOp r ta tb) := by
  intro pins s σ H Q I h
  exact wpAny_BinOp (binT ha hb I h fun v u s2 x y H2 I2 rx ry q => ho pins s2 σ H2 x y v u Q I2 rx ry q)
theorem opI {f : Value → Value → Sem Value} {C : Int → Int → Prop} {g : Int → Int → Int}
    (rule : ∀ (i j : Int) (t u : Tok) (s : Shared) (Q : Value → Shared → Prop) (E : Value → Shared → Prop), C i j → Q (.int (g i j) s.toks) { s with toks := s.toks + 1 } → wpAny (model X.prog X.w) X.A (f (.int i t) (.int j u)) Q E s) :
    OpR X f (rI C fun i j => .int (g i j)) := by
  intro pins s σ H x y v u Q I rx ry h
  obtain ⟨i, j, rfl, rfl, hc, q⟩ := h
  obtain ⟨t, rfl⟩ := rx
  obtain ⟨t', rfl⟩ := ry
  exact rule i j t t' s _ _ hc ⟨.int (g i j), H, I.tok _, ⟨_, rfl⟩, q⟩
theorem opI0 {f : Value → Value → Sem Value} {g : Int → Int → Int}
    (rule : ∀ (i j : Int) (t u : Tok) (s : Shared) (Q : Value → Shared → Prop) (E : Value → Shared → Prop), Q (.int (g i j) s.toks) { s with toks := s.toks + 1 } → wpAny (model X.prog X.w) X.A (f (.int i t) (.int j u)) Q E s) :
    OpR X f (rI0 fun i j => .int (g i j)) := by
  intro pins s σ H x y v u Q I rx ry h
  obtain ⟨i, j, rfl, rfl, q⟩ := h
  obtain ⟨t, rfl⟩ := rx
  obtain ⟨t', rfl⟩ := ry
  exact rule i j t t' s _ _ ⟨.int (g i j), H, I.tok _, ⟨_, rfl⟩, q⟩
theorem opB0 {f : Value → Value → Sem Value} {g : Int → Int → Bool}
    (rule : ∀ (i j : Int) (t u : Tok) (s : Shared) (Q : Value → Shared → Prop) (E : Value → Shared → Prop), Q (.bool (g i j)) s → wpAny (model X.prog X.w) X.A (f (.int i t) (.int j u)) Q E s) :
    OpR X f (rI0 fun i j => .bl (g i j)) := by
  intro pins s σ H x y v u Q I rx ry h
  obtain ⟨i, j, rfl, rfl, q⟩ := h
  obtain ⟨t, rfl⟩ := rx
  obtain ⟨t', rfl⟩ := ry
  exact rule i j t t' s _ _ ⟨.bl (g i j), H, I, rfl, q⟩
def CDiv (i j : Int) : Prop := 0 < j ∧ j < 1073741824
def CMul (i j : Int) : Prop := (-(2 ^ 64) < i ∧ i < 2 ^ 64) ∨ (-(2 ^ 64) < j ∧ j < 2 ^ 64)
theorem CMul.ok {i j : Int} (h : CMul i j) : IntMulOk i j := by
  rcases h with ⟨h1, h2⟩ | ⟨h1, h2⟩
  · exact .of_left (intBits_le_64 h1 h2)
  · exact .of_right (intBits_le_64 h1 h2)
theorem op_add : OpR X (binaryOp .Add) (rI0 fun i j => .int (i + j)) := opI0 fun _ _ _ _ _ _ _ q => add_int q
theorem op_sub : OpR X (binaryOp .Sub) (rI0 fun i j => .int (i - j)) := opI0 fun _ _ _ _ _ _ _ q => sub_int q
theorem op_mul : OpR X (binaryOp .Mult) (rI CMul fun i j => .int (i * j)) := opI fun _ _ _ _ _ _ _ hc q => mul_int q hc.ok
theorem op_fdiv : OpR X (binaryOp .FloorDiv) (rI CDiv fun i j => .int (i / j)) := opI fun i j _ _ _ _ _ hc q => by
  have h1 : (0 : Int) < j := hc.1
  have h2 : j < 1073741824 := hc.2
  exact floordiv_int (by omega) (by rw [Int.fdiv_eq_ediv_of_nonneg i (by omega)]; exact q) (.inl (PyProof.noPylong_small (by omega)))
theorem op_mod : OpR X (binaryOp .Mod) (rI (fun _ j => 0 < j) fun i j => .int (i % j)) := opI fun i j _ _ _ _ _ hc q => by
  have h1 : (0 : Int) < j := hc
  exact mod_int' (by omega) (by rw [Int.fmod_eq_emod_of_nonneg i (by omega)]; exact q)
end
section
variable {X : Cx} {a b c : Expr} {ta tb tc : TE} {pos : Pos}
theorem fin_bl {pins : List (Addr × Obj)} {σ : St} {H : Hp} {s : Shared} {Q : VK} {k k' : Bool} (I : Inv X pins σ H s) (q : Q (.bl k) H) (e : k = k') : EP X pins σ Q (.bool k') s := by
  subst e
  exact ⟨.bl k, H, I, rfl, q⟩
theorem op_lt : OpR X (compareOp .Lt) (rI0 fun i j => .bl (decide (i < j))) := opB0 fun _ _ _ _ _ _ _ q => lt_int q
theorem op_le : OpR X (compareOp .LtE) (rI0 fun i j => .bl (decide (i ≤ j))) := opB0 fun _ _ _ _ _ _ _ q => le_int q
theorem op_gt : OpR X (compareOp .Gt) (rI0 fun i j => .bl (decide (j < i))) := opB0 fun _ _ _ _ _ _ _ q => gt_int q
theorem op_ge : OpR X (compareOp .GtE) (rI0 fun i j => .bl (decide (j ≤ i))) := opB0 fun _ _ _ _ _ _ _ q => ge_int q
theorem op_in_str : OpR X (compareOp .In) (fun x y H Q => ∃ i j, x = .str i ∧ y = .str j ∧ Q (.bl (!(Builtin.Str.occurrences j i 0 j.length 1).isEmpty)) H) := by
  intro pins s σ H x y v u Q I rx ry h
  obtain ⟨i, j, rfl, rfl, q⟩ := h
  obtain ⟨t, rfl⟩ := rx
  obtain ⟨t', rfl⟩ := ry
  exact in_str (fin_bl I q rfl)
theorem op_isN : OpR X (compareOp .Is) (fun x y H Q => y = .non ∧ Q (.bl (decide (x = .non))) H) := by
  intro pins s σ H x y v u Q I rx ry h
  obtain ⟨rfl, q⟩ := h
  cases ry
  refine is_none_gen (fin_bl I q ?_)
  cases x <;> first
    | (cases rx; rfl)
    | (obtain ⟨t, rfl⟩ := rx; rfl)
theorem op_notN : OpR X (compareOp .IsNot) (fun x y H Q => y = .non ∧ Q (.bl (!decide (x = .non))) H) := by
  intro pins s σ H x y v u Q I rx ry h
  obtain ⟨rfl, q⟩ := h
  cases ry
  refine isnot_none_gen (fin_bl I q ?_)
  cases x <;> first
    | (cases rx; rfl)
    | (obtain ⟨t, rfl⟩ := rx; rfl)
theorem nomark (b : Expr) {op : CmpOp} (h : op ≠ .In := by decide) (h2 : op ≠ .NotIn := by decide) : behindInMarks op b = false := by
  have e1 : (op == CmpOp.In) = false := by cases op <;> first | rfl | exact absurd rfl h
  have e2 : (op == CmpOp.NotIn) = false := by cases op <;> first | rfl | exact absurd rfl h2
  cases b <;> simp [behindInMarks, e1, e2]
theorem pe_cmpR {op : CmpOp} {r : R2} (ho : OpR X (compareOp op) r) (ha : PE X a ta) (hb : PE X b tb) (hm : behindInMarks op b = false) : PE X (.Compare a [op] [b] pos) (tOp r ta tb) := by
  intro pins s σ H Q I h
  exact wpAny_Compare1 (binT ha hb I h fun v u s2 x y H2 I2 rx ry q => ho pins s2 σ H2 x y v u Q I2 rx ry q) hm
def tTest (t : TE) : TT := fun σ H Q => t σ H fun x H' => ∃ k, x = .bl k ∧ Q k H'
theorem pt_cmpR {op : CmpOp} {r : R2} (ho : OpR X (compareOp op) r) (ha : PE X a ta) (hb : PE X b tb) (hm : behindInMarks op b = false) : PT X (.Compare a [op] [b] pos) (tTest (tOp r ta tb)) := by
  intro pins s σ H Q I h
  refine wpAny_isTrue_Compare1 (thn (ha pins s σ H _ I h) fun v s1 ⟨x, H1, I1, r1, q1⟩ => thn (hb pins s1 σ H1 _ I1 q1) fun u s2 ⟨y, H2, I2, r2, q2⟩ =>
    thn (ho pins s2 σ H2 x y v u _ I2 r1 r2 q2) fun c s3 ⟨z, H3, I3, r3, k, e, q3⟩ => ?_) hm
  subst e
  cases r3
  exact wpAny_truthy_bool ⟨H3, I3, q3⟩
def tChain (r r' : R2) (ta tb tc : TE) : TE := fun σ H Q => ta σ H fun x H1 => tb σ H1 fun y H2 => r x y H2 fun z H3 => ∃ k, z = .bl k ∧
  (if k = true then tc σ H3 fun w' H4 => r' y w' H4 Q else Q (.bl false) H3)
theorem pt_chain {op op' : CmpOp} {r r' : R2} (ho : OpR X (compareOp op) r) (ho' : OpR X (compareOp op') r') (ha : PE X a ta) (hb : PE X b tb) (hc : PE X c tc)
    (hm : lastMarks [op, op'] [b, c] = false := by with_unfolding_all rfl) : PT X (.Compare a [op, op'] [b, c] pos) (tTest (tChain r r' ta tb tc)) := by
  intro pins s σ H Q I h
  refine isTrue_chain (thn (ha pins s σ H _ I h) fun v s1 ⟨x, H1, I1, r1, q1⟩ => test_link (thn (hb pins s1 σ H1 _ I1 q1) fun u s2 ⟨y, H2, I2, r2, q2⟩ =>
    thn (ho pins s2 σ H2 x y v u _ I2 r1 r2 q2) fun d s3 ⟨z, H3, I3, r3, k, e, q3⟩ => ?_)) hm
  subst e
  cases r3
  refine wpAny_truthy_bool ?_
  cases k with
  | false =>
    obtain ⟨k', e', q'⟩ := q3
    cases e'
    exact ite_ff ⟨H3, I3, q'⟩
  | true =>
    refine ite_tt (test_last (thn (hc pins s3 σ H3 _ I3 q3) fun w' s4 ⟨z', H4, I4, r4, q4⟩ => thn (ho' pins s4 σ H4 y z' u w' _ I4 r2 r4 q4) fun d' s5 ⟨z2, H5, I5, r5, k2, e2, q5⟩ => ?_))
    subst e2
    cases r5
    exact wpAny_truthy_bool ⟨H5, I5, q5⟩
theorem line63 : (sizeLine : Nat) < 2 ^ 63 := by rw [sizeLine_eq]; decide
theorem op_add_str : OpR X (binaryOp .Add) (fun x y H Q => ∃ i j, x = .str i ∧ y = .str j ∧ i.length + j.length ≤ sizeLine ∧ Q (.str (i ++ j)) H) := by
  intro pins s σ H x y v u Q I rx ry h
  obtain ⟨i, j, rfl, rfl, hz, q⟩ := h
  obtain ⟨t, rfl⟩ := rx
  obtain ⟨t', rfl⟩ := ry
  exact add_str (fun t' tk => ⟨.str (i ++ j), H, I.tok _, ⟨_, rfl⟩, q⟩) hz
theorem vals1 {x : V} {us : List Value} (r : Vals [x] us) : ∃ u, us = [u] ∧ RelV x u := by
  cases r with
  | cons r1 r2 => cases r2; exact ⟨_, rfl, r1⟩
theorem vals2 {x y : V} {us : List Value} (r : Vals [x, y] us) : ∃ u w', us = [u, w'] ∧ RelV x u ∧ RelV y w' := by
  cases r with
  | cons r1 r2 =>
    cases r2 with
    | cons r3 r4 => cases r4; exact ⟨_, _, rfl, r1, r3⟩
theorem call_min2 (hc : X.calm = true) : CallR X (.builtin "min") (fun xs H Q => ∃ i j, xs = [.int i, .int j] ∧ Q (.int (if j < i then j else i)) H) := by
  intro pins s σ H xs us Q I r h
  obtain ⟨i, j, rfl, q⟩ := h
  obtain ⟨u, w', rfl, ⟨t, rfl⟩, ⟨t', rfl⟩⟩ := vals2 r
  refine min_two_ints (I.ok.hd hc) fun h' tk k => ⟨_, H, I.kept k, ?_, q⟩
  by_cases hj : j < i
  · rw [if_pos hj, if_pos hj]; exact ⟨_, rfl⟩
  · rw [if_neg hj, if_neg hj]; exact ⟨_, rfl⟩
end
end L2
namespace L2
open PySem PySem.Spec PyProof.Rows
structure ObjM (h : Heap) (x dx C : Addr) (mA : Str → Option Value) : Prop where
  obj : h.get? x = some (PySem.W.instObj C dx)
  ns : h.Ns1 dx mA
  ne : dx ≠ x
theorem lookIn_ns {h : Heap} {dx : Addr} {mA : Str → Option Value} (n : h.Ns1 dx mA) : ∃ od, h.get? dx = some od ∧ ∀ name, PySem.W.lookIn name od = some (mA name) := by
  obtain ⟨o, es, ep, ho, hd, hk, _, hm⟩ := n
  refine ⟨o, ho, fun name => ?_⟩
  have e := hm name
  unfold nsFind findBy at e
  rw [← Array.find?_toList] at e
  unfold PySem.W.lookIn
  rw [hd]
  dsimp only
  split
  · rename_i y q
    rw [q] at e
    exact congrArg some e
  · rename_i q
    rw [q] at e
    have a : es.toList.any (·.refKey) = false := by
      rw [List.any_eq_false]
      intro y hy
      obtain ⟨z, t, hkey⟩ := hk y (Array.mem_toList_iff.mp hy)
      simp [DictEntry.refKey, hkey]
    have a' : ¬ es.toList.any (·.refKey) = true := by rw [a]; exact Bool.false_ne_true
    rw [if_neg a']
    exact congrArg some e
theorem ObjM.look {h : Heap} {x dx C : Addr} {mA : Str → Option Value} (I : ObjM h x dx C mA) : ∃ od, PySem.W.InstAt h x (PySem.W.instObj C dx) C (some od) ∧ ∀ name, PySem.W.lookIn name od = some (mA name) :=
  let ⟨od, ho, hl⟩ := lookIn_ns I.ns
  ⟨od, ⟨I.obj, rfl, rfl, ho⟩, hl⟩
section
variable {prog : Program} {w : World} {A : Around} {E : Value → Shared → Prop} {s : Shared} {K : PySem.W.Frag} {x dx C f : Addr} {mA : Str → Option Value} {name : Str} {v : Value}
theorem get_map {expr : Bool} {Q : Value → Shared → Prop} (X : K.In s.heap) (I : ObjM s.heap x dx C mA) (hg : PySem.W.plainGet K C name = true) (hh : PySem.W.hasDictIn K C = true)
    (ha : PySem.W.findIn K (.ref C) name = some none) (hv : mA name = some v) (hv' : PySem.W.handedIn v = true) (h : Q v { s with toks := s.toks + 1 }) :
    wpAny (model prog w) A (getAttr (.ref x) name expr) Q E s := by
  obtain ⟨od, J, hl⟩ := I.look
  exact PySem.W.get_value X J (PySem.W.plainGet_of hg).1 (PySem.W.findObj_own hh ha rfl (by rw [hl, hv])) hv' h
theorem get_meth {pl : Sem Bool} {Q : Value × List Value → Shared → Prop} (X : K.In s.heap) (I : ObjM s.heap x dx C mA) (hg : PySem.W.plainGet K C name = true)
    (hf : PySem.W.findIn K (.ref C) name = some (some (.ref f))) (ht : PySem.W.isFn K (.ref f) = true) (hv : mA name = none) (h : Q (.ref f, [.ref x]) s) :
    wpAny (model prog w) A (getMethod (.ref x) name pl) Q E s := by
  obtain ⟨od, J, hl⟩ := I.look
  exact PySem.W.method_fn X J (PySem.W.plainGet_of hg).1 (PySem.W.plainGet_of hg).2 hf (beq_iff_eq.mp ht) (by show (PySem.W.lookIn name od).map (·.isSome) = some false; rw [hl, hv]; rfl) h
theorem set_map {ns : List Str} {Q : Unit → Shared → Prop} (X : K.In s.heap) (I : ObjM s.heap x dx C mA)
    (hs : PySem.W.findIn K (.ref C) "__setattr__" = some (some (.builtin "object.__setattr__"))) (hp : PySem.W.plainOver K C = true) (ht : PySem.W.takerIn K C name = some none) (hh : PySem.W.hasDictIn K C = true)
    (hw : PySem.Within mA ns) (hsz : ns.length ≤ sizeLine)
    (h : ∀ h', ObjM h' x dx C (fun y => if y = name then some v else mA y) → Heap.SameBut dx s.heap h' → Q () { s with heap := h', toks := s.toks + 2 }) :
    wpAny (model prog w) A (setAttr (.ref x) name v) Q E s := by
  obtain ⟨od, J, hl⟩ := I.look
  refine PySem.W.set_plain X J hs (PySem.W.osa_open (s := { s with toks := s.toks + 1 }) (r := none) X J hp ht fun b => ?_)
  obtain ⟨cd, hc, hd'⟩ := PySem.W.any_some hh
  have hx : s.heap.get? x = some ⟨.ref C, some dx, .plain, #[]⟩ := I.obj
  refine wpAny_bind (wpAny_pure (wpAny_bind (wpAny_bind (wpAny_loadPart hx (wpAny_bind (PySem.W.Looks.here (s := { s with toks := s.toks + 1 }) (PySem.W.looks_clsIn X hc) ?_))))))
  rw [hd']
  refine wpAny_pure (a := some dx) (wpAny_bind (wpAny_pure (wpAny_bind ?_)))
  refine wpAny_nsSet1 (s := { s with toks := s.toks + 1 }) I.ns fun h' hn2 hs2 => ?_
  obtain ⟨oD, esD, epD, hoD, hdD, hcD⟩ := hn2.count (PySem.Within.cons name v hw)
  refine wpAny_bind (wpAny_lookBehind hoD (by rw [hdD]; exact pastItsLine_dict (Nat.le_trans hcD (by rw [List.length_cons]; omega))) ?_)
  exact wpAny_pure (h _ ⟨(hs2.2 _ (Ne.symm I.ne)).trans I.obj, hn2, I.ne⟩ hs2)
theorem make_map {R : Result → Shared → Prop} {vs : List Value} {kw : List (Str × Value)} (X : K.In s.heap) (hm : PySem.W.makesIn K C = true)
    (hi : PySem.W.findIn K (.ref C) "__init__" = some (some (.ref f))) (hf : PySem.W.typeIn K (.ref f) = some (.type "function"))
    (h : codeAny (model prog w) (A.under (.builtin "type.__call__" ⟨.ref C :: vs, kw⟩)) (.call (.ref f) ⟨.ref (s.heap.objs.size + 1) :: vs, kw⟩) (PySem.W.InitBack (s.heap.objs.size + 1) R)
      { s with heap := (s.heap.push PySem.W.emptyDict).push (PySem.W.instObj C s.heap.objs.size) }) :
    codeAny (model prog w) A (.call (.ref C) ⟨vs, kw⟩) R s := by
  obtain ⟨hh, g, d, t, os⟩ := s
  exact PySem.W.make_core (PySem.W.makes_of X hm) (PySem.W.looks_findIn X hi) (fun self => PySem.W.bind_fn X self hf) (.inl rfl) h
end
def putF (f : Str) (v : V) : List (Str × V) → List (Str × V)
  | [] => [(f, v)]
  | (g, x) :: r => if g = f then (g, v) :: r else (g, x) :: putF f v r
theorem lookup_putF (f g : Str) (v : V) : ∀ fs : List (Str × V), (putF f v fs).lookup g = if g = f then some v else fs.lookup g
  | [] => by
    show List.lookup g [(f, v)] = _
    by_cases h : g = f
    · have hb : (g == f) = true := beq_iff_eq.mpr h
      simp only [List.lookup, hb, if_pos h]
    · have hb : (g == f) = false := beq_eq_false_iff_ne.mpr h
      simp only [List.lookup, hb, if_neg h]
  | (k, x) :: r => by
    have ih := lookup_putF f g v r
    rw [show putF f v ((k, x) :: r) = (if k = f then (k, v) :: r else (k, x) :: putF f v r) from rfl]
    by_cases hk : k = f
    · rw [if_pos hk]
      by_cases h : g = k
      · have hb : (g == k) = true := beq_iff_eq.mpr h
        simp only [List.lookup, hb, if_pos (h.trans hk)]
      · have hb : (g == k) = false := beq_eq_false_iff_ne.mpr h
        simp only [List.lookup, hb, if_neg (fun e : g = f => h (e.trans hk.symm))]
    · rw [if_neg hk]
      by_cases h : g = k
      · have hb : (g == k) = true := beq_iff_eq.mpr h
        simp only [List.lookup, hb, if_neg (fun e : g = f => hk (h.symm.trans e))]
      · have hb : (g == k) = false := beq_eq_false_iff_ne.mpr h
        simp only [List.lookup, hb]
        exact ih
theorem keys_putF (f : Str) (v : V) : ∀ fs : List (Str × V), f ∈ (putF f v fs).map (·.1) ∧ ∀ g, g ∈ fs.map (·.1) → g ∈ (putF f v fs).map (·.1)
  | [] => ⟨by simp [putF], fun g h => by simp at h⟩
  | (k, x) :: r => by
    obtain ⟨i1, i2⟩ := keys_putF f v r
    rw [show putF f v ((k, x) :: r) = (if k = f then (k, v) :: r else (k, x) :: putF f v r) from rfl]
    by_cases hk : k = f
    · rw [if_pos hk]
      subst hk
      exact ⟨by simp, fun g h => by simpa using h⟩
    · rw [if_neg hk]
      refine ⟨?_, fun g h => ?_⟩
      · rw [List.map_cons]
        exact List.mem_cons_of_mem _ i1
      · rw [List.map_cons] at h ⊢
        rcases List.mem_cons.mp h with e | e
        · exact List.mem_cons.mpr (.inl e)
        · exact List.mem_cons_of_mem _ (i2 g e)
theorem length_putF (f : Str) (v : V) : ∀ fs : List (Str × V), (putF f v fs).length ≤ fs.length + 1
  | [] => by simp [putF]
  | (k, x) :: r => by
    have ih := length_putF f v r
    rw [show putF f v ((k, x) :: r) = (if k = f then (k, v) :: r else (k, x) :: putF f v r) from rfl]
    by_cases hk : k = f
    · rw [if_pos hk, List.length_cons, List.length_cons]; omega
    · rw [if_neg hk, List.length_cons, List.length_cons]; omega
theorem RelO.some_of {v : V} {o : Option Value} (r : RelO (some v) o) : ∃ u, o = some u ∧ RelV v u := by
  cases o with
  | none => exact (show False from r).elim
  | some u => exact ⟨u, rfl, r⟩
theorem RelO.none_of {o : Option Value} (r : RelO none o) : o = none := by
  cases o with
  | none => rfl
  | some u => exact (show False from r).elim
theorem handed_of {v : V} {u : Value} (r : RelV v u) : PySem.W.handedIn u = true := by
  cases v with
  | non => cases (show u = Value.none from r); rfl
  | bl b => cases (show u = Value.bool b from r); rfl
  | int i => obtain ⟨t, e⟩ := (show ∃ t, u = Value.int i t from r); cases e; rfl
  | str x => obtain ⟨t, e⟩ := (show ∃ t, u = Value.str x t from r); cases e; rfl
  | byt b => obtain ⟨t, e⟩ := (show ∃ t, u = Value.bytes b t from r); cases e; rfl
  | flt b => obtain ⟨t, e⟩ := (show ∃ t, u = Value.float b t from r); cases e; rfl
  | ref a => cases (show u = Value.ref a from r); rfl
  | ty n => cases (show u = Value.type n from r); rfl
section
variable {P : Program} {w : World} {H H' : Hp} {h h' : Heap} {a C dx : Addr} {fs fs' : List (Str × V)}
theorem ins_get (hok : HOk P w H h) (e : H a = some (.ins C dx fs)) : ∃ mA, ObjM h a dx C mA ∧ (∀ f, RelO (fs.lookup f) (mA f)) ∧ PySem.Within mA (fs.map (·.1)) ∧ fs.length ≤ 1000 ∧ H dx = some (.own a) := by
  obtain ⟨d, z, ne, ob, mA, n, r, q⟩ := (show ObjOk P w H h a (.ins C dx fs) from hok a _ e)
  exact ⟨mA, ⟨ob, n, ne⟩, r, q, z, d⟩
end
structure Cls (K : PySem.W.Frag) (C : Addr) : Prop where
  pg : PySem.W.plainGet K C Str.empty = true
  hd : PySem.W.hasDictIn K C = true
  po : PySem.W.plainOver K C = true
  sa : PySem.W.findIn K (.ref C) "__setattr__" = some (some (.builtin "object.__setattr__"))
theorem Cls.get {K : PySem.W.Frag} {C : Addr} (c : Cls K C) (f : Str) : PySem.W.plainGet K C f = true := c.pg
def NoAttr (K : PySem.W.Frag) (C : Addr) (f : Str) : Prop := PySem.W.findIn K (.ref C) f = some none
theorem NoAttr.taker {K : PySem.W.Frag} {C : Addr} {f : Str} (n : NoAttr K C f) : PySem.W.takerIn K C f = some none := by
  unfold PySem.W.takerIn
  rw [show PySem.W.findIn K (.ref C) f = some none from n]
  rfl
structure Con (K : PySem.W.Frag) (C : Addr) (f : Str) (v : V) (u : Value) : Prop where
  at_ : PySem.W.findIn K (.ref C) f = some (some u)
  rel : RelV v u
  get : PySem.W.specialIn K u "__get__" = some none
  cp : PySem.W.copiedNames.contains f = false
structure Meth (K : PySem.W.Frag) (C : Addr) (m : Str) (f : Addr) : Prop where
  at_ : PySem.W.findIn K (.ref C) m = some (some (.ref f))
  fn : PySem.W.isFn K (.ref f) = true
  kp : PySem.W.keepIn K (.ref f) = true
section
variable {X : Cx} {pins : List (Addr × Obj)} {σ : St} {H : Hp} {s : Shared} {a C dx : Addr} {fs : List (Str × V)} {f : Str} {v : V} {A : Around} {E : Value → Shared → Prop}
theorem getattr_ok {b : Bool} {Q : Value → Shared → Prop} (I : Inv X pins σ H s) (e : H a = some (.ins C dx fs)) (c : Cls X.K C) (n : NoAttr X.K C f) (l : fs.lookup f = some v)
    (h : ∀ u s', Inv X pins σ H s' → RelV v u → Q u s') : wpAny (model X.prog X.w) A (getAttr (.ref a) f b) Q E s := by
  obtain ⟨mA, O, r, _, _, _⟩ := ins_get I.hok e
  obtain ⟨u, hu, ru⟩ := RelO.some_of (v := v) (o := mA f) (by rw [← l]; exact r f)
  exact get_map I.kIn O (c.get f) c.hd n hu (handed_of ru) (h u _ (I.tok _) ru)
theorem getmeth_ok {m : Str} {g : Addr} {pl : Sem Bool} {Q : Value × List Value → Shared → Prop} (I : Inv X pins σ H s) (e : H a = some (.ins C dx fs)) (c : Cls X.K C) (k : Meth X.K C m g) (l : fs.lookup m = none)
    (h : Q (.ref g, [.ref a]) s) : wpAny (model X.prog X.w) A (getMethod (.ref a) m pl) Q E s := by
  obtain ⟨mA, O, r, _, _, _⟩ := ins_get I.hok e
  have hn : mA m = none := RelO.none_of (by rw [← l]; exact r m)
  exact get_meth I.kIn O (c.get m) k.at_ k.fn hn h
theorem setattr_ok {y : V} {u : Value} {Q : Unit → Shared → Prop} (I : Inv X pins σ H s) (e : H a = some (.ins C dx fs)) (c : Cls X.K C) (n : NoAttr X.K C f) (hl : fs.length < 1000) (ry : RelV y u)
    (h : ∀ s', Inv X pins σ (upd H a (.ins C dx (putF f y fs))) s' → Q () s') : wpAny (model X.prog X.w) A (setAttr (.ref a) f u) Q E s := by
  obtain ⟨mA, O, r, wi, _, ho⟩ := ins_get I.hok e
  have hz : (fs.map (·.1)).length ≤ sizeLine := by rw [List.length_map, sizeLine_eq]; omega
  refine set_map I.kIn O c.sa c.po n.taker c.hd wi hz fun h' O' sb => h _ ?_
  have hd : ∃ o, h'.get? dx = some o := let ⟨o, _, _, e', _⟩ := O'.ns; ⟨o, e'⟩
  refine I.write (x := a) (e := dx) (by rw [e]; exact True.intro) (.inr ho) (fun b q hb z => (sb.2 b hb).trans z) hd ?_
  refine ⟨by rw [upd_ne O.ne]; exact ho, ?_, O.ne, O'.obj, _, O'.ns, fun g => ?_, fun g hg => ?_⟩
  · have := length_putF f y fs; omega
  · show RelO ((putF f y fs).lookup g) (if g = f then some u else mA g)
    rw [lookup_putF]
    by_cases q : g = f
    · rw [if_pos q, if_pos q]; exact ry
    · rw [if_neg q, if_neg q]; exact r g
  · by_cases q : g = f
    · rw [q]; exact (keys_putF f y fs).1
    · refine (keys_putF f y fs).2 g (wi g fun z => hg ?_)
      show (if g = f then some u else mA g) = none
      rw [if_neg q]; exact z
theorem Inv.made (I : Inv X pins σ H s) : Inv X pins σ (upd (upd H s.heap.objs.size (.own (s.heap.objs.size + 1))) (s.heap.objs.size + 1) (.ins C s.heap.objs.size []))
    { s with heap := (s.heap.push PySem.W.emptyDict).push (PySem.W.instObj C s.heap.objs.size) } := by
  have e1 : (s.heap.push PySem.W.emptyDict).get? s.heap.objs.size = some PySem.W.emptyDict := Heap.get?_push_size s.heap rfl
  have e2 : ((s.heap.push PySem.W.emptyDict).push (PySem.W.instObj C s.heap.objs.size)).get? (s.heap.objs.size + 1) = some (PySem.W.instObj C s.heap.objs.size) := by
    have := Heap.get?_push_size (s.heap.push PySem.W.emptyDict) (o := PySem.W.instObj C s.heap.objs.size) rfl
    rwa [Heap.size_push] at this
  have e3 : (s.heap.push PySem.W.emptyDict).Ns s.heap.objs.size (fun _ => none) := ⟨PySem.W.emptyDict, #[], _, e1, rfl, (fun e he => absurd he (by simp)), fun _ => rfl⟩
  have I1 := I.laid (a := s.heap.objs.size) (o := .own (s.heap.objs.size + 1)) (h' := s.heap.push PySem.W.emptyDict) (t' := s.toks) (fun b u q => Heap.get?_push_of_some _ q) (Nat.le_refl _) ⟨_, e1⟩
  refine I1.laid (a := s.heap.objs.size + 1) (o := .ins C s.heap.objs.size []) (t' := s.toks) (fun b u q => Heap.get?_push_of_some _ q) (Nat.le_of_eq (Heap.size_push _ _)) ?_
  have ne : s.heap.objs.size ≠ s.heap.objs.size + 1 := Nat.ne_of_lt (Nat.lt_succ_self _)
  refine ⟨by rw [upd_ne ne, upd_same], Nat.zero_le _, ne, e2, fun _ => none, (Heap.Ns1.of_empty e3).at fun o q => Heap.get?_push_of_some _ q, fun _ => True.intro, fun y hy => absurd rfl hy⟩
theorem attr_of {prog : Program} {w : World} {env : Env} {e : Expr} {f : Str} {pos : Pos} {s : Shared} {Q : Value → Shared → Prop} (hb : attributeBase e f env (eval e env) = eval e env)
    (h : wpAny (model prog w) A (eval e env) (fun o s₁ => wpAny (model prog w) A (getAttr o f true) Q E s₁) E s) : wpAny (model prog w) A (eval (.Attribute e f pos) env) Q E s :=
  Attribute_any_ h (by rw [arm_eval_Attribute, hb])
end
def tFld (K : PySem.W.Frag) (ta : TE) (f : Str) : TE := fun σ H Q => ta σ H fun x H1 => ∃ a C dx fs v, x = .ref a ∧ H1 a = some (.ins C dx fs) ∧ Cls K C ∧ NoAttr K C f ∧ fs.lookup f = some v ∧ Q v H1
def sFld (K : PySem.W.Frag) (ta tv : TE) (f : Str) : TS := fun D σ H => tv σ H fun y H1 => ta σ H1 fun x H2 => ∃ a C dx fs, x = .ref a ∧ H2 a = some (.ins C dx fs) ∧ Cls K C ∧ NoAttr K C f ∧ fs.length < 1000 ∧
  D.nx σ (upd H2 a (.ins C dx (putF f y fs)))
section
variable {X : Cx} {o e value : Expr} {f : Str} {pos pos' tpos : Pos} {ta tv : TE}
theorem pe_fld (he : PE X e ta) (hb : attributeBase e f X.env (eval e X.env) = eval e X.env) : PE X (.Attribute e f pos) (tFld X.K ta f) := by
  intro pins s σ H Q I h
  refine attr_of hb (thn (he pins s σ H _ I h) fun u s1 ⟨x, H1, I1, rx, a, C, dx, fs, v, ex, ea, c, n, l, q⟩ => ?_)
  subst ex
  obtain rfl : u = Value.ref a := rx
  exact getattr_ok I1 ea c n l fun u' s2 I2 ru => ⟨v, H1, I2, ru, q⟩
theorem ps_fld (ha : PE X o ta) (hv : PE X value tv) (hs : swapsWith value (some (.Attribute o f pos')) pos.line X.env = pure false) : PS X (.Assign [.Attribute o f pos'] value pos) (sFld X.K ta tv f) := by
  intro pins s σ H D I h
  refine plainObj_wpAny_Assign_Attribute (thn (hv pins s σ H _ I h) fun u s1 ⟨y, H1, I1, ry, q⟩ => thn (ha pins s1 σ H1 _ I1 q) fun ov s2 ⟨x, H2, I2, rx, a, C, dx, fs, ex, ea, c, n, l, q2⟩ => ?_) hs
  subst ex
  obtain rfl : ov = Value.ref a := rx
  exact setattr_ok I2 ea c n l ry fun s3 I3 => ⟨σ, _, I3, q2⟩
end
section
variable {X : Cx} {pins : List (Addr × Obj)} {σ : St} {H : Hp} {s : Shared} {A : Around} {E : Value → Shared → Prop} {Q : Value → Shared → Prop} {c : Value} {b : Bool}
inductive TyOf (K : PySem.W.Frag) (H : Hp) : V → Value → Prop where
  | non : TyOf K H .non (.type "NoneType")
  | bl (x : Bool) : TyOf K H (.bl x) (.type "bool")
  | int (i : Int) : TyOf K H (.int i) (.type "int")
  | str (x : Str) : TyOf K H (.str x) (.type "str")
  | flt (x : UInt64) : TyOf K H (.flt x) (.type "float")
  | lst {a : Addr} {xs : List V} (e : H a = some (.lst xs)) : TyOf K H (.ref a) (.type "list")
  | frz {a : Addr} {o : Obj} {xs : List V} (e : H a = some (.frz o (.lst xs))) : TyOf K H (.ref a) (.type "list")
  | tup {a : Addr} {xs : List V} (e : H a = some (.tup xs)) : TyOf K H (.ref a) (.type "tuple")
  | dK {a : Addr} {kvs : List (Key × V)} (e : H a = some (.dK kvs)) : TyOf K H (.ref a) (.type "dict")
  | dT {a : Addr} {kvs : List (List Key × V)} (e : H a = some (.dT kvs)) : TyOf K H (.ref a) (.type "dict")
  | ins {a C dx : Addr} {fs : List (Str × V)} (e : H a = some (.ins C dx fs)) (cl : Cls K C) (ha : PySem.W.findIn K (.ref C) "__class__" = some (some (.builtin "object.__class__")))
      (hn : PySem.W.specialIn K (.builtin "object.__class__") "__get__" = some (some (.builtin "getset_descriptor.__get__"))) (htk : PySem.W.takesIn K (.builtin "object.__class__") = some true)
      (hm : PySem.W.mroIn K C (.type "object") = some true) : TyOf K H (.ref a) (.ref C)
theorem isinst_ok {x : V} {u t : Value} (I : Inv X pins σ H s) (rx : RelV x u) (ty : TyOf X.K H x t) (e : PySem.W.kitOne X.K t c = some b) (h : ∀ tk, Q (.bool b) { s with toks := tk }) :
    wpAny (model X.prog X.w) A (call (.builtin "isinstance") [u, c]) Q E s := by
  cases ty with
  | non => cases (show u = Value.none from rx); exact PySem.W.kia_one PySem.W.kitx_none I.kIn True.intro e (fun z => nomatch z) h
  | bl y => cases (show u = Value.bool y from rx); exact PySem.W.kia_one PySem.W.kitx_bool I.kIn True.intro e (fun z => nomatch z) h
  | int i => obtain ⟨t, q⟩ := (show ∃ t, u = Value.int i t from rx); cases q; exact PySem.W.kia_one PySem.W.kitx_int I.kIn True.intro e (fun z => nomatch z) h
  | str y => obtain ⟨t, q⟩ := (show ∃ t, u = Value.str y t from rx); cases q; exact PySem.W.kia_one PySem.W.kitx_str I.kIn True.intro e (fun z => nomatch z) h
  | flt y => obtain ⟨t, q⟩ := (show ∃ t, u = Value.float y t from rx); cases q; exact PySem.W.kia_one PySem.W.kitx_float I.kIn True.intro e (fun z => nomatch z) h
  | @lst a xs ea =>
    cases (show u = Value.ref a from rx)
    obtain ⟨_, _, n, _, h1⟩ := (show ObjOk X.prog X.w H s.heap a (.lst xs) from I.hok a _ ea)
    exact PySem.W.kia_one PySem.W.kitx_list I.kIn ⟨_, h1, rfl⟩ e (fun z => nomatch z) h
  | @frz a ob xs ea =>
    cases (show u = Value.ref a from rx)
    obtain ⟨_, _, _, n, _, h1⟩ := (show ObjOk X.prog X.w H s.heap a (.frz ob (.lst xs)) from I.hok a _ ea)
    exact PySem.W.kia_one PySem.W.kitx_list I.kIn ⟨_, h1, rfl⟩ e (fun z => nomatch z) h
  | @tup a xs ea =>
    cases (show u = Value.ref a from rx)
    obtain ⟨_, _, _, p⟩ := (show ObjOk X.prog X.w H s.heap a (.tup xs) from I.hok a _ ea)
    obtain ⟨o, h1, h2, _⟩ := p
    exact PySem.W.kia_one PySem.W.kitx_tuple I.kIn ⟨o, h1, h2⟩ e (fun z => nomatch z) h
  | @dK a kvs ea =>
    cases (show u = Value.ref a from rx)
    obtain ⟨_, _, vs, _, p⟩ := (show ObjOk X.prog X.w H s.heap a (.dK kvs) from I.hok a _ ea)
    obtain ⟨o, es, ep, h1, h2, _⟩ := p
    exact PySem.W.kia_one PySem.W.kitx_dict I.kIn ⟨o, h1, h2.1⟩ e (fun z => nomatch z) h
  | @dT a kvs ea =>
    cases (show u = Value.ref a from rx)
    obtain ⟨_, _, xs, _, o, es, ep, h1, h2, _⟩ := (show ObjOk X.prog X.w H s.heap a (.dT kvs) from I.hok a _ ea)
    exact PySem.W.kia_one PySem.W.kitx_dict I.kIn ⟨o, h1, h2.1⟩ e (fun z => nomatch z) h
  | @ins a C dx fs ea cl ha hn htk hm =>
    cases (show u = Value.ref a from rx)
    obtain ⟨mA, O, _⟩ := ins_get I.hok ea
    obtain ⟨od, J, _⟩ := O.look
    exact PySem.W.kia_one (PySem.W.kitx_own (cl.get _) cl.hd ha hn htk hm) I.kIn J e (fun z => nomatch z) h
end
end L2
namespace L2
open PySem PySem.Spec PyProof.Rows
structure Room (k : Nat) (A : Around) : Prop where
  hd : A.handled = none
  dp : A.depth + 3 * k + 5 < recursionLimit
  un : A.units + 16 * k + 200 < cLine
theorem Room.mono {j k : Nat} {A : Around} (r : Room k A) (h : j ≤ k) : Room j A := ⟨r.hd, by have := r.dp; omega, by have := r.un; omega⟩
theorem Room.deeper {k : Nat} {A : Around} (r : Room (k + 1) A) (env : Env) : Room k (A.deeper env) :=
  ⟨r.hd, by have := r.dp; show A.depth + 1 + 3 * k + 5 < _; omega, by have := r.un; show A.units + 3 + 16 * k + 200 < _; omega⟩
theorem make_depth {A : Around} {C : Addr} {us : List Value} {kw : List (Str × Value)} : (A.under (.builtin "type.__call__" ⟨.ref C :: us, kw⟩)).depth = A.depth + 1 := by
  first | rfl | simp [Around.under, Code.weight, Code.isCreation, Code.isGuard, Code.isCaller, Code.frames, Code.isFrame, guardIds]
theorem make_units {A : Around} {C : Addr} {us : List Value} {kw : List (Str × Value)} : (A.under (.builtin "type.__call__" ⟨.ref C :: us, kw⟩)).units = A.units + 1 := by
  first | rfl | simp [Around.under, Code.cUnits, Code.frames, Code.isFrame]
theorem Room.make {k : Nat} {A : Around} (r : Room (k + 1) A) (C : Addr) (us : List Value) (kw : List (Str × Value)) : Room k (A.under (.builtin "type.__call__" ⟨.ref C :: us, kw⟩)) :=
  ⟨r.hd, by have := r.dp; rw [make_depth]; omega, by have := r.un; rw [make_units]; omega⟩
theorem Room.depth {k : Nat} {A : Around} (r : Room k A) : A.depth < recursionLimit := by have := r.dp; omega
theorem Room.units {k : Nat} {A : Around} (r : Room k A) : A.units + 64 < cLine := by have := r.un; omega
def tNil : TA := fun _ H Q => Q [] H
def tCons (ta : TE) (tr : TA) : TA := fun σ H Q => ta σ H fun x H1 => tr σ H1 fun xs H2 => Q (x :: xs) H2
section
variable {X : Cx} {e : Expr} {es : List Expr} {te : TE} {t : TA} {pos : Pos}
theorem pa_nil : PA X [] tNil := fun _ _ _ _ H Q I h => Calls.spliced_nil ⟨[], H, I, .nil, h⟩
theorem pa_cons (ha : PE X e te) (hr : PA X es t) (hs : starEach (e :: es) X.env = (false, eval e X.env) :: starEach es X.env := by rfl) : PA X (e :: es) (tCons te t) := by
  intro pos pins s σ H Q I h
  rw [hs]
  show wpAny _ _ (spliced ((false, eval e X.env) :: backTo pos (starEach es X.env))) _ _ s
  refine Calls.spliced_cons (thn (ha pins s σ H _ I h) fun u s1 ⟨x, H1, I1, r1, q1⟩ => ?_)
  exact thn (hr pos pins s1 σ H1 _ I1 q1) fun us s2 ⟨xs, H2, I2, r2, q2⟩ => ⟨x :: xs, H2, I2, .cons r1 r2, q2⟩
def tTup (t : TA) : TE := fun σ H Q => t σ H fun xs H1 => xs.length ≤ sizeLine ∧ ∀ p, H1 p = none → Q (.ref p) (upd H1 p (.tup xs))
def tLst (t : TA) : TE := fun σ H Q => t σ H fun xs H1 => xs.length ≤ sizeLine ∧ ∀ p, H1 p = none → Q (.ref p) (upd H1 p (.lst xs))
theorem pe_tup {x1} (h : PA X es t) : PE X (.Tuple es x1 pos) (tTup t) := by
  intro pins s σ H Q I hq
  refine wpAny_Tuple_spliced (thn (h pos pins s σ H _ I hq) fun us s1 ⟨xs, H1, I1, r, z, q⟩ => ⟨by rw [← r.length]; exact z, ?_⟩)
  have hf : H1 s1.heap.objs.size = none := I1.hok.fresh (Nat.le_refl _)
  refine ⟨.ref s1.heap.objs.size, upd H1 s1.heap.objs.size (.tup xs), I1.laid (t' := s1.toks) (fun b u e => Heap.get?_push_of_some _ e) (Nat.le_refl _) ?_, rfl, q _ hf⟩
  exact ⟨z, us, r, ⟨_, Heap.get?_push_size _ rfl, rfl, _, rfl⟩⟩
theorem pe_lst (h : PA X es t) : PE X (.List es pos) (tLst t) := by
  intro pins s σ H Q I hq
  refine wpAny_List_spliced (thn (h pos pins s σ H _ I hq) fun us s1 ⟨xs, H1, I1, r, z, q⟩ => ⟨by rw [← r.length]; exact z, ?_⟩)
  have hf : H1 s1.heap.objs.size = none := I1.hok.fresh (Nat.le_refl _)
  refine ⟨.ref s1.heap.objs.size, upd H1 s1.heap.objs.size (.lst xs), I1.laid (t' := s1.toks) (fun b u e => Heap.get?_push_of_some _ e) (Nat.le_refl _) ?_, rfl, q _ hf⟩
  exact ⟨z, us, 0, r, Heap.get?_push_size _ rfl⟩
end
abbrev Sp := List V → Hp → VK → XK → Prop
abbrev CXT := List Env → Hp → Shared → XK → Value → Shared → Prop
structure Env0 (P : Program) (w : World) (K : PySem.W.Frag) (mg : Str → Option Value) (base : Heap) (A : Around) (outer : List Env) (s : Shared) (H : Hp) : Prop where
  frames : A.frames = some outer
  mod : Mod K mg base
  bs : ∀ b o, base.get? b = some o → s.heap.get? b = some o ∧ H b = none
  bsz : base.objs.size ≤ s.heap.objs.size
  funs : s.heap.FunFrames base outer
  frf : ∀ b ∈ frs outer, H b = none
  hok : HOk P w H s.heap
  bare : AllBare s.gens
def CE (outer : List Env) (P : Program) (w : World) (H : Hp) (s : Shared) (Q : VK) (u : Value) (s' : Shared) : Prop :=
  ∃ v H', s'.os = s.os ∧ AllBare s'.gens ∧ Un (frs outer) [] H H' s.heap s'.heap ∧ HOk P w H' s'.heap ∧ RelV v u ∧ Q v H'
def CR (CX : CXT) (outer : List Env) (P : Program) (w : World) (H : Hp) (s : Shared) (Q : VK) (E : XK) (r : Result) (s' : Shared) : Prop :=
  match r with
  | .ok (.ret u) => CE outer P w H s Q u s'
  | .ok _ => False
  | .error e => CX outer H s E e s'
structure FnOk (P : Program) (w : World) (K : PySem.W.Frag) (mg : Str → Option Value) (base : Heap) (CX : CXT) (k : Nat) (f : Addr) (fd : FuncData) (ps : List Str) (sp : Sp) : Prop where
  len : ∀ vs H Q E, sp vs H Q E → vs.length = ps.length
  run : ∀ (A : Around) (outer : List Env) (s : Shared) (H : Hp) (args : Args) (us : List Value) (vs : List V) (Q : VK) (E : XK), Room k A → Env0 P w K mg base A outer s H → BindsTo s fd args (ps.zip us) → Vals vs us → sp vs H Q E →
    codeAny (model P w) A (.call (.ref f) args) (CR CX outer P w H s Q E) s
theorem Env0.make {P : Program} {w : World} {K : PySem.W.Frag} {mg : Str → Option Value} {base : Heap} {A : Around} {outer : List Env} {s : Shared} {H : Hp} (e : Env0 P w K mg base A outer s H) (C : Addr) (us : List Value) (kw : List (Str × Value)) :
    Env0 P w K mg base (A.under (.builtin "type.__call__" ⟨.ref C :: us, kw⟩)) outer s H := ⟨by first | exact e.frames | (simpa [Around.under, Code.envs, Code.isFrame, pushEnvs] using e.frames), e.mod, e.bs, e.bsz, e.funs, e.frf, e.hok, e.bare⟩
section
variable {X : Cx} {pins : List (Addr × Obj)} {σ : St} {H : Hp} {s s' : Shared}
theorem Inv.env0 (I : Inv X pins σ H s) : Env0 X.prog X.w X.K X.mg X.base X.A X.stack s H :=
  ⟨I.ok.frames, I.ok.mod, I.bs, Nat.le_trans I.ok.bsz I.sz, I.stack, I.stkFree, I.hok, I.bare⟩
theorem Inv.after {Q : VK} {u : Value} (I : Inv X pins σ H s) (h : CE X.stack X.prog X.w H s Q u s') : EP X pins σ Q u s' := by
  obtain ⟨v, H', os, bare, un, hok, r, q⟩ := h
  obtain ⟨hh, g, d, t, os'⟩ := s'
  obtain rfl : os' = s.os := os
  exact ⟨v, H', I.call (h' := hh) (g' := g) (d' := d) (t' := t) (ch := []) un hok bare (fun b z => absurd z (by simp)), r, q⟩
end
def tCall (sp : Sp) (dvs : List V) (E : XK) (t : TA) : TE := fun σ H Q => t σ H fun vs H1 => sp (vs ++ dvs) H1 Q E
def tMake (C : Addr) (sp : Sp) (dvs : List V) (E : XK) (t : TA) : TE := fun σ H Q => t σ H fun vs H1 => ∀ x dx, H1 x = none → H1 dx = none → dx ≠ x →
  sp (.ref x :: (vs ++ dvs)) (upd (upd H1 dx (.own x)) x (.ins C dx [])) (fun v H2 => v = .non ∧ Q (.ref x) H2) E
def Binds (K : PySem.W.Frag) (fd : FuncData) (ps : List Str) (ds : List Value) : Prop :=
  ∀ (s : Shared) (us : List Value), K.In s.heap → (us ++ ds).length = ps.length → BindsTo s fd ⟨us, []⟩ (ps.zip (us ++ ds))
theorem Binds.all {K : PySem.W.Frag} {fd : FuncData} {ps : List Str} (h : ∀ us : List Value, us.length = ps.length → bindArgs fd ⟨us, []⟩ = pure (ps.zip us)) : Binds K fd ps [] := fun s us _ hl => by
  rw [List.append_nil] at hl ⊢
  exact .of_eq (h us hl)
def Passes (CX : CXT) (X : Cx) (E : XK) : Prop := ∀ (pins : List (Addr × Obj)) (σ : St) (H : Hp) (s : Shared) (e : Value) (s' : Shared), Inv X pins σ H s → CX X.stack H s E e s' → X.xe e s'
section
variable {X : Cx} {CX : CXT} {k : Nat} {f C : Addr} {fd : FuncData} {ps : List Str} {sp : Sp} {dvs : List V} {ds : List Value} {E : XK} {x m : Str} {p pos apos : Pos} {e o : Expr} {es : List Expr} {ta : TE} {t : TA}
theorem run_fn {pins : List (Addr × Obj)} {σ : St} {H : Hp} {s : Shared} {Q : VK} {us : List Value} {vs : List V} (F : FnOk X.prog X.w X.K X.mg X.base CX k f fd ps sp) (hr : Room k X.A) (hb : Binds X.K fd ps ds) (hd : Vals dvs ds) (hx : Passes CX X E)
    (I : Inv X pins σ H s) (r : Vals vs us) (h : sp (vs ++ dvs) H Q E) : wpAny (model X.prog X.w) X.A (call (.ref f) us) (EP X pins σ Q) X.xe s := by
  have r2 : Vals (vs ++ dvs) (us ++ ds) := r.append hd
  have hl : (us ++ ds).length = ps.length := by rw [← r2.length]; exact F.len _ _ _ _ h
  refine wpAny_call (codeAny_mono (F.run X.A X.stack s H ⟨us, []⟩ (us ++ ds) (vs ++ dvs) Q E hr I.env0 (hb s us I.kIn hl) r2 h) fun r s' hq => ?_)
  cases r with
  | error e => exact hx pins σ H s e s' I hq
  | ok fl =>
    cases fl with
    | ret u => exact I.after hq
    | next => exact False.elim hq
    | brk => exact False.elim hq
    | cont => exact False.elim hq
theorem pe_call (F : FnOk X.prog X.w X.K X.mg X.base CX k f fd ps sp) (hr : Room k X.A) (hg : Gl X x) (hm : X.mg x = some (.ref f)) (hk : PySem.W.keepIn X.K (.ref f) = true) (hb : Binds X.K fd ps ds) (hd : Vals dvs ds) (hx : Passes CX X E)
    (ha : PA X (e :: es) t) (hdb : (x == ("__debug__" : Str)) = false := by decide) (he : starEach (e :: es) X.env = (false, eval e X.env) :: starEach es X.env := by rfl) (hpl : (backTo pos (starEach es X.env)).any (·.1) = false := by rfl) :
    PE X (.Call (.Name x p) (e :: es) [] pos) (tCall sp dvs E t) := by
  intro pins s σ H Q I h
  refine wpAny_Call_Name_kw (ld_glob I hg hm ?_ hdb)
  refine PySem.W.callWith_K (h₀ := X.base) I.ok.mod.kin hk (thn (ha pos pins s σ H _ I h) fun us s1 ⟨vs, H1, I1, r, q⟩ => ⟨I1.kIn, ?_⟩) he hpl
  exact run_fn F hr hb hd hx I1 r q
structure Mk (K : PySem.W.Frag) (C f : Addr) : Prop where
  makes : PySem.W.makesIn K C = true
  init : PySem.W.findIn K (.ref C) "__init__" = some (some (.ref f))
  fn : PySem.W.isFn K (.ref f) = true
  kp : PySem.W.keepIn K (.ref C) = true
theorem run_make {pins : List (Addr × Obj)} {σ : St} {H : Hp} {s : Shared} {Q : VK} {us : List Value} {vs : List V} (M : Mk X.K C f) (F : FnOk X.prog X.w X.K X.mg X.base CX k f fd ps sp) (hr : Room (k + 1) X.A) (hb : Binds X.K fd ps ds) (hd : Vals dvs ds)
    (hx : Passes CX X E) (I : Inv X pins σ H s) (r : Vals vs us)
    (h : ∀ x dx, H x = none → H dx = none → dx ≠ x → sp (.ref x :: (vs ++ dvs)) (upd (upd H dx (.own x)) x (.ins C dx [])) (fun v H2 => v = .non ∧ Q (.ref x) H2) E) :
    wpAny (model X.prog X.w) X.A (call (.ref C) us) (EP X pins σ Q) X.xe s := by
  have hq := h (s.heap.objs.size + 1) s.heap.objs.size (I.hok.fresh (Nat.le_succ _)) (I.hok.fresh (Nat.le_refl _)) (Nat.ne_of_lt (Nat.lt_succ_self _))
  have I2 := Inv.made (C := C) I
  have r2 : Vals (V.ref (s.heap.objs.size + 1) :: (vs ++ dvs)) (Value.ref (s.heap.objs.size + 1) :: (us ++ ds)) := .cons rfl (r.append hd)
  have hl : (Value.ref (s.heap.objs.size + 1) :: us ++ ds).length = ps.length := by
    have e := r2.length
    rw [F.len _ _ _ _ hq] at e
    exact e.symm
  refine wpAny_call (make_map (f := f) I.kIn M.makes M.init (beq_iff_eq.mp M.fn) (codeAny_mono (F.run _ X.stack _ _ ⟨Value.ref (s.heap.objs.size + 1) :: us, []⟩ (Value.ref (s.heap.objs.size + 1) :: (us ++ ds)) _ _ E (hr.make C us [])
    (I2.env0.make C us []) (hb _ (Value.ref (s.heap.objs.size + 1) :: us) I2.kIn hl) r2 hq) fun r s' hq' => ?_))
  cases r with
  | error e => exact hx pins σ _ _ e s' I2 hq'
  | ok fl =>
    cases fl with
    | ret u =>
      obtain ⟨v, H', I3, rv, ev, q3⟩ := I2.after hq'
      subst ev
      exact ⟨rv, ⟨V.ref (s.heap.objs.size + 1), H', I3, rfl, q3⟩⟩
    | next => exact False.elim hq'
    | brk => exact False.elim hq'
    | cont => exact False.elim hq'
theorem pe_make (M : Mk X.K C f) (F : FnOk X.prog X.w X.K X.mg X.base CX k f fd ps sp) (hr : Room (k + 1) X.A) (hg : Gl X x) (hm : X.mg x = some (.ref C)) (hb : Binds X.K fd ps ds) (hd : Vals dvs ds) (hx : Passes CX X E)
    (ha : PA X (e :: es) t) (hdb : (x == ("__debug__" : Str)) = false := by decide) (he : starEach (e :: es) X.env = (false, eval e X.env) :: starEach es X.env := by rfl) (hpl : (backTo pos (starEach es X.env)).any (·.1) = false := by rfl) :
    PE X (.Call (.Name x p) (e :: es) [] pos) (tMake C sp dvs E t) := by
  intro pins s σ H Q I h
  refine wpAny_Call_Name_kw (ld_glob I hg hm ?_ hdb)
  refine PySem.W.callWith_K (h₀ := X.base) I.ok.mod.kin M.kp (thn (ha pos pins s σ H _ I h) fun us s1 ⟨vs, H1, I1, r, q⟩ => ⟨I1.kIn, ?_⟩) he hpl
  exact run_make M F hr hb hd hx I1 r q
end
section
variable {X : Cx} {CX : CXT} {k : Nat} {f C : Addr} {fd : FuncData} {ps ks : List Str} {sp : Sp} {E : XK} {x m : Str} {p pos apos kpos : Pos} {e o : Expr} {es : List Expr} {kws : List Keyword} {te ta : TE} {t tk : TA} {nm : Option Str}
structure KBinds (K : PySem.W.Frag) (fd : FuncData) (ps ks : List Str) (g : List Value → List Value → List Value) (gV : List V → List V → List V) : Prop where
  to : ∀ (s : Shared) (us ws : List Value), K.In s.heap → (g us ws).length = ps.length → BindsTo s fd ⟨us, ks.zip ws⟩ (ps.zip (g us ws))
  rel : ∀ {vs : List V} {us : List Value} {zs : List V} {ws : List Value}, Vals vs us → Vals zs ws → Vals (gV vs zs) (g us ws)
variable {g : List Value → List Value → List Value} {gV : List V → List V → List V}
end
structure FnScope (N P : List Str) (sc : Scope) : Prop where
  kind : sc.kind = .function
  co : sc.isCoroutine = false
  gen : sc.isGenerator = false
  nd : N.Nodup
  pre : N.take P.length = P
  par : ∀ x ∈ P, sc.names.lookup x = some .local ∨ sc.names.lookup x = some .cell
  nofree : ∀ y ∈ sc.names, y.2 ≠ .free
theorem bindL_out {kindOf : Str → Option NameKind} {x : Str} : ∀ {binds : List (Str × Value)} {m : Str → Option Value}, (∀ v, (x, v) ∉ binds) → bindL kindOf binds m x = m x
  | [], _, _ => rfl
  | (n, v) :: r, m, h => by
    unfold bindL
    rw [bindL_out fun w hw => h w (List.mem_cons_of_mem _ hw)]
    split
    · have : x ≠ n := by rintro rfl; exact h v List.mem_cons_self
      simp [this]
    · rfl
theorem bindC_out {kindOf : Str → Option NameKind} {x : Str} : ∀ {binds : List (Str × Value)} {m : Str → Option Value}, (∀ v, (x, v) ∉ binds) → bindC kindOf binds m x = m x
  | [], _, _ => rfl
  | (n, v) :: r, m, h => by
    unfold bindC
    rw [bindC_out fun w hw => h w (List.mem_cons_of_mem _ hw)]
    split
    · rfl
    · have : x ≠ n := by rintro rfl; exact h v List.mem_cons_self
      simp [this]
theorem bindL_get {kindOf : Str → Option NameKind} {x : Str} {v : Value} : ∀ {P : List Str} {vs : List Value} {i : Nat} {m : Str → Option Value}, P.Nodup → P[i]? = some x → vs[i]? = some v → kindOf x = some .local →
    bindL kindOf (P.zip vs) m x = some v
  | [], _, _, _, _, h, _, _ => by simp at h
  | _ :: _, [], _, _, _, _, h, _ => by simp at h
  | p :: P, w :: vs, 0, m, nd, h1, h2, hk => by
    simp at h1 h2; subst h1; subst h2
    show bindL kindOf ((p, w) :: P.zip vs) m p = _
    unfold bindL
    rw [bindL_out fun v hv => (List.nodup_cons.mp nd).1 (List.of_mem_zip hv).1, if_pos hk]
    simp
  | p :: P, w :: vs, i + 1, m, nd, h1, h2, hk => by
    show bindL kindOf ((p, w) :: P.zip vs) m x = _
    unfold bindL
    exact bindL_get (i := i) (List.nodup_cons.mp nd).2 (by simpa using h1) (by simpa using h2) hk
theorem bindC_get {kindOf : Str → Option NameKind} {x : Str} {v : Value} : ∀ {P : List Str} {vs : List Value} {i : Nat} {m : Str → Option Value}, P.Nodup → P[i]? = some x → vs[i]? = some v → kindOf x ≠ some .local →
    bindC kindOf (P.zip vs) m x = some v
  | [], _, _, _, _, h, _, _ => by simp at h
  | _ :: _, [], _, _, _, _, h, _ => by simp at h
  | p :: P, w :: vs, 0, m, nd, h1, h2, hk => by
    simp at h1 h2; subst h1; subst h2
    show bindC kindOf ((p, w) :: P.zip vs) m p = _
    unfold bindC
    rw [bindC_out fun v hv => (List.nodup_cons.mp nd).1 (List.of_mem_zip hv).1, if_neg hk]
    simp
  | p :: P, w :: vs, i + 1, m, nd, h1, h2, hk => by
    show bindC kindOf ((p, w) :: P.zip vs) m x = _
    unfold bindC
    exact bindC_get (i := i) (List.nodup_cons.mp nd).2 (by simpa using h1) (by simpa using h2) hk
def start (N : List Str) (vs : List V) : St := vs.map some ++ List.replicate (N.length - vs.length) none
def cxOf (CX : CXT) (P : Program) (w : World) (K : PySem.W.Frag) (mg : Str → Option Value) (base : Heap) (N : List Str) (qual : Str) (scope : Scope) (f : Addr) (cd : Value) (A : Around) (outer : List Env) (s : Shared) (H : Hp) (E : XK) : Cx where
  prog := P
  w := w
  K := K
  mg := mg
  base := base
  A := A.deeper (envOfC qual scope s.heap.objs.size f cd)
  N := N
  s₀ := s
  H₀ := H
  env := envOfC qual scope s.heap.objs.size f cd
  outer := outer
  stack := envOfC qual scope s.heap.objs.size f cd :: outer
  ex := []
  calm := true
  fn := fun _ => true
  pn := []
  xe := fun e s' => wpAny (model P w) (A.deeper (envOfC qual scope s.heap.objs.size f cd)) (leaving (envOfC qual scope s.heap.objs.size f cd) e) (fun _ s'' => CX outer H s E e s'') (fun e' s'' => CX outer H s E e' s'') s'
theorem cell_has {sc : Scope} {n : Nat} {x : Str} (h : sc.names.lookup x = some .cell) : ∃ c, (cellsFrom n sc.names []).lookup x = some c := by
  have q := PySem.W.cellsFrom_some sc.names n [] (.inl h)
  exact Option.isSome_iff_exists.mp q
theorem inv_start {CX : CXT} {P : Program} {w : World} {K : PySem.W.Frag} {mg : Str → Option Value} {base : Heap} {N ps : List Str} {qual : Str} {scope : Scope} {f : Addr} {cd : Value} {A : Around} {outer : List Env} {s s1 : Shared} {H : Hp} {E : XK} {us : List Value} {vs : List V}
    (S : FnScope N ps scope) (hd : A.handled = none) (e0 : Env0 P w K mg base A outer s H) (hl : vs.length = ps.length) (r : Vals vs us)
    (x : InCallC s s.heap.objs.size (bindL (envOfC qual scope s.heap.objs.size f cd).kindOf (ps.zip us) fun _ => none) (cellsFrom (s.heap.objs.size + 1) scope.names []) (bindC (envOfC qual scope s.heap.objs.size f cd).kindOf (ps.zip us) fun _ => none) s1) :
    Inv (cxOf CX P w K mg base N qual scope f cd A outer s H E) [] (start N vs) H s1 := by
  have hpl : ps.length ≤ N.length := by have := congrArg List.length S.pre; rw [List.length_take] at this; omega
  obtain ⟨h1, tk, rfl, hk⟩ := x.done
  have noA : ∀ b : Addr, b ∉ (cxOf CX P w K mg base N qual scope f cd A outer s H E).ex := fun b z => absurd (show b ∈ ([] : List Addr) from z) (by simp)
  refine ⟨⟨e0.mod, S.kind, rfl, rfl, Nat.le_refl _, fun y z c h1 h2 => ?_, fun y hy => ?_, fun y c _ h => ?_, fun _ => hd, Around.frames_deeper e0.frames, .inr ⟨rfl, rfl⟩, fun b z => absurd z (noA b), e0.bs, e0.bsz, fun b _ _ => noA b, fun b z => absurd z (noA b), e0.funs, e0.frf⟩,
    rfl, e0.bare, Un.kept hk, ⟨_, x.toInCall.ns, fun i y v h1 h2 h3 => ?_⟩, fun y c h => ⟨_, x.cell y c h⟩, e0.hok.fresh (Nat.le_refl _), fun y c h => ?_, fun p hp => absurd (show p ∈ ([] : List (Addr × Obj)) from hp) (by simp), e0.hok.kept hk, ?_⟩
  · exact name_of_addr x.apart (PySem.mem_of_lookup h1) (PySem.mem_of_lookup h2)
  · have hy : scope.names.lookup y = some .cell ∨ scope.names.lookup y = some .free := hy
    rcases hy with hy | hy
    · exact cell_has hy
    · exact absurd rfl (S.nofree _ (PySem.mem_of_lookup hy))
  · exact Nat.le_of_lt (x.above y c (PySem.mem_of_lookup h))
  · have hi : i < vs.length := by
      unfold start at h2
      by_cases hi : i < vs.length
      · exact hi
      · rw [List.getElem?_append_right (by simpa using hi)] at h2
        rw [List.getElem?_replicate] at h2
        split at h2 <;> cases h2
    have ha : vs[i]? = some v := by
      unfold start at h2
      rw [List.getElem?_append_left (by simpa using hi), List.getElem?_map] at h2
      cases e : vs[i]? with
      | none => rw [e] at h2; cases h2
      | some a => rw [e] at h2; cases h2; rfl
    obtain ⟨u, hu, rv⟩ := r.get ha
    have hp : ps[i]? = some y := by
      rw [← S.pre, List.getElem?_take_of_lt (by omega)]; exact h1
    have ndP : ps.Nodup := by rw [← S.pre]; exact S.nd.sublist (List.take_sublist _ _)
    refine ⟨u, rv, ?_⟩
    rcases S.par y (List.mem_of_getElem? hp) with k | k
    · exact .inl ⟨k, bindL_get ndP hp hu k⟩
    · obtain ⟨c, e⟩ := cell_has (n := s.heap.objs.size + 1) k
      refine .inr ⟨.inl k, c, e, ?_⟩
      have q := x.cell y c e
      rw [bindC_get ndP hp hu (by show scope.names.lookup y ≠ _; rw [k]; decide)] at q
      exact q
  · exact e0.hok.fresh (Nat.le_of_lt (x.above y c (PySem.mem_of_lookup h)))
  · unfold start
    show _ = N.length
    rw [List.length_append, List.length_map, List.length_replicate]
    omega
theorem fn_of {CX : CXT} {P : Program} {w : World} {K : PySem.W.Frag} {mg : Str → Option Value} {base : Heap} {k : Nat} {f : Addr} {name qual : Str} {params : Arguments} {body : List Stmt} {scope : Scope} {dV kV doc pm cdv ct oc : Value} {an od : Option Addr}
    {osl : Array (Option Value)} {N ps : List Str} {sp : Sp} (lk : K.lookup f = some ⟨oc, od, .func (PySem.W.fnOf name qual params body scope dV kV doc pm an cdv ct), osl⟩) (hcd : PySem.W.codeIn K cdv qual = true) (S : FnScope N ps scope)
    (len : ∀ vs H Q E, sp vs H Q E → vs.length = ps.length)
    (hbody : ∀ (A : Around) (outer : List Env) (s : Shared) (H : Hp) (vs : List V) (Q : VK) (E : XK), Room k (A.deeper (envOfC qual scope s.heap.objs.size f cdv)) → sp vs H Q E →
      ∃ t, PSs (cxOf CX P w K mg base N qual scope f cdv A outer s H E) body t ∧ t { nx := fun _ H' => Q .non H', rt := Q } (start N vs) H) :
    FnOk P w K mg base CX (k + 1) f (PySem.W.fnOf name qual params body scope dV kV doc pm an cdv ct) ps sp := by
  refine ⟨len, fun A outer s H args us vs Q E hr e0 hb r hsp => ?_⟩
  have hl := len _ _ _ _ hsp
  have KX : K.In s.heap := e0.mod.kin.keeps fun b o e => (e0.bs b o e).1
  have lim : s.heap.NoLimit := e0.mod.nolimit.keeps fun b o e => (e0.bs b o e).1
  have hkind : ∀ y ∈ ps.zip us, scope.names.lookup y.1 = some .local ∨ (scope.names.lookup y.1 = some .cell ∧ ((cellsFrom (s.heap.objs.size + 1) scope.names []).lookup y.1).isSome = true) := fun ⟨n, v⟩ hy => by
    rcases S.par n (List.of_mem_zip hy).1 with q | q
    · exact .inl q
    · exact .inr ⟨q, PySem.W.cellsFrom_some _ _ _ (.inl q)⟩
  refine codeAny_call_function hr.depth (KX _ _ lk) rfl S.co S.gen rfl (PySem.W.codeRec_of KX hcd) (hb _ _ _ _ ?_)
  refine wpAny_newFunctionEnv_cells S.kind hkind fun env he s1 x => ?_
  subst he
  refine ⟨lim.keeps x.toInCall.keep, codeAny_func ?_⟩
  obtain ⟨t, ht, hq⟩ := hbody A outer s H vs Q E (hr.deeper _) hsp
  have I : Inv (cxOf CX P w K mg base N qual scope f cdv A outer s H E) [] (start N vs) H s1 := inv_start S hr.hd e0 hl r x
  refine wpAny_mono (ht [] s1 (start N vs) H _ I hq) (fun fl s' hs => ?_) fun e s' hs => hs
  have fin : ∀ {σ' : St} {H' : Hp} {v : V} {u : Value}, Inv (cxOf CX P w K mg base N qual scope f cdv A outer s H E) [] σ' H' s' → RelV v u → Q v H' → CE outer P w H s Q u s' :=
    fun {σ' H' v u} J rv q => ⟨v, H', J.os, J.bare, J.base, J.hok, rv, q⟩
  cases fl with
  | ret u =>
    obtain ⟨v, σ', H', J, rv, q⟩ := hs
    exact fin J rv q
  | next =>
    obtain ⟨σ', H', J, q⟩ := hs
    exact fin (v := V.non) (u := Value.none) J rfl q
  | brk =>
    obtain ⟨_, _, _, q⟩ := hs
    exact False.elim q
  | cont =>
    obtain ⟨_, _, _, q⟩ := hs
    exact False.elim q
end L2
namespace L2
open PySem PySem.Spec PyProof.Rows
section
variable {X : Cx} {x : Str} {p pos : Pos} {e : Expr} {es : List Expr} {t : TA} {id T : String} {r : List V → Hp → VK → Prop}
def tCB (r : List V → Hp → VK → Prop) (t : TA) : TE := fun σ H Q => t σ H fun vs H1 => r vs H1 Q
theorem pe_callB (hc : CallR X (.builtin id) r) (hg : Gl X x) (hm : X.mg x = none) (hv : bootBuiltins x = some (.builtin id)) (ha : PA X (e :: es) t) (hn : x ≠ "__name__" := by decide) (hdb : (x == ("__debug__" : Str)) = false := by decide)
    (he : starEach (e :: es) X.env = (false, eval e X.env) :: starEach es X.env := by rfl) (hpl : (backTo pos (starEach es X.env)).any (·.1) = false := by rfl) : PE X (.Call (.Name x p) (e :: es) [] pos) (tCB r t) := by
  intro pins s σ H Q I h
  refine wpAny_Call_Name_kw (ld_blt I hg hm hv ?_ hn hdb)
  exact PyProof.Rows.callWith_builtin1 (thn (ha pos pins s σ H _ I h) fun us s1 ⟨vs, H1, I1, r1, q1⟩ => hc pins s1 σ H1 vs us Q I1 r1 q1) he hpl
theorem pe_callTy (hc : CallR X (.type T) r) (hg : Gl X x) (hm : X.mg x = none) (hv : bootBuiltins x = some (.type T)) (ha : PA X (e :: es) t) (hn : x ≠ "__name__" := by decide) (hdb : (x == ("__debug__" : Str)) = false := by decide)
    (he : starEach (e :: es) X.env = (false, eval e X.env) :: starEach es X.env := by rfl) (hpl : (backTo pos (starEach es X.env)).any (·.1) = false := by rfl) : PE X (.Call (.Name x p) (e :: es) [] pos) (tCB r t) := by
  intro pins s σ H Q I h
  refine wpAny_Call_Name_kw (ld_blt I hg hm hv ?_ hn hdb)
  exact PyProof.Rows.callWith_type1 (thn (ha pos pins s σ H _ I h) fun us s1 ⟨vs, H1, I1, r1, q1⟩ => hc pins s1 σ H1 vs us Q I1 r1 q1) he hpl
end
end L2
namespace HT
open PySem PyProof.Rows
section
open PySem.SeqAt
open PySem.AutoSeq1 (wpAny_loadPart')
open PySem.MeetsSeq PySem.MeetsSeq2 PySem.MeetsSeq3
end
section
variable {prog : Program} {w : World} {A : Around} {E : Value → Shared → Prop} {s : Shared}
theorem cat_tup {t b : Addr} {vs ws : List Value} {Q : Value → Shared → Prop} (ht : IsTup s.heap t vs.toArray) (hb : IsTup s.heap b ws.toArray) (hv : vs ≠ [])
    (h1 : ws = [] → Q (.ref t) s) (h2 : ws ≠ [] → Q (.ref s.heap.objs.size) { s with heap := s.heap.push { cls := .type "tuple", data := .seq (vs ++ ws).toArray } })
    (hsz : vs.length + ws.length ≤ sizeLine) : wpAny (model prog w) A (binaryOp .Add (.ref t) (.ref b)) Q E s := by
  obtain ⟨⟨cls, dd, data, sl⟩, ho, hc, n, hd⟩ := id ht
  obtain ⟨⟨cls2, dd2, data2, sl2⟩, ho2, hc2, n2, hd2⟩ := id hb
  simp only at hc hd hc2 hd2
  subst hc hd hc2 hd2
  have e : vs.toArray ++ ws.toArray = (vs ++ ws).toArray := by simp
  by_cases hw : ws = []
  · exact concat_meets ⟨_, ho, rfl⟩ ⟨_, ho2, rfl⟩ noFill_tuple_add seq_tuple_add PySem.F.slot_tuple_add PySem.F.entry_tuple_add (PySem.F.args_tuple_add_2 _ _)
      (tuple_addW1 t b vs.toArray ws.toArray n n2 dd dd2 sl sl2 (by simpa using hv) (by simp [hw])) ⟨ho, ho2, h1 hw⟩
  · refine concat_meets ⟨_, ho, rfl⟩ ⟨_, ho2, rfl⟩ noFill_tuple_add seq_tuple_add PySem.F.slot_tuple_add PySem.F.entry_tuple_add (PySem.F.args_tuple_add_2 _ _)
      (tuple_addW2 t b vs.toArray ws.toArray n n2 dd dd2 sl sl2 (by simpa using hv) (by simpa using hw) (by rw [List.size_toArray, List.size_toArray]; exact hsz)) ⟨ho, ho2, ?_⟩
    rw [e]
    exact h2 hw
def sIx (n d : Nat) : Option Int → Nat
  | none => d
  | some v => if v < 0 then (v + (n : Int)).toNat else min v.toNat n
theorem sIx_le (n d : Nat) (hd : d ≤ n) (o : Option Int) : sIx n d o ≤ n := by
  cases o with
  | none => exact hd
  | some v =>
    show (if v < 0 then (v + (n : Int)).toNat else min v.toNat n) ≤ n
    by_cases hv : v < 0
    · rw [if_pos hv]; omega
    · rw [if_neg hv]; exact Nat.min_le_right _ _
theorem clip_eq (v : Int) (n d : Nat) : (if v < 0 then max (v + (n : Int)) 0 else min v (n : Int)) = ((sIx n d (some v) : Nat) : Int) := by
  show (if v < 0 then max (v + (n : Int)) 0 else min v (n : Int)) = (((if v < 0 then (v + (n : Int)).toNat else min v.toNat n) : Nat) : Int)
  by_cases hv : v < 0
  · simp only [if_pos hv]; omega
  · simp only [if_neg hv]; omega
theorem adjust_gen (lo hi : Option Int) (n : Nat) : Builtin.Slice.sliceAdjust lo hi 1 (n : Int) = (((sIx n 0 lo : Nat) : Int), ((sIx n n hi : Nat) : Int)) := by
  have h1 : ¬ ((1 : Int) < 0) := by omega
  unfold Builtin.Slice.sliceAdjust
  simp only [h1, if_false]
  refine Prod.ext ?_ ?_
  · cases lo with
    | none => rfl
    | some v => exact clip_eq v n 0
  · cases hi with
    | none => rfl
    | some v => exact clip_eq v n n
theorem places_gen (i j : Nat) : Builtin.Slice.slicePlaces (i : Int) (j : Int) 1 = j - i := by
  unfold Builtin.Slice.slicePlaces
  have h1 : (1 : Int) > 0 := by omega
  simp only [h1, if_true, Int.ediv_one]
  split <;> omega
theorem slicePart_ {v : Value} {o : Option Int} {Q : Option Int → Shared → Prop} (p : IsPart v o) (h : Q o s) : wpAny (model prog w) A (Builtin.Slice.slicePartIndex v) Q E s := by
  cases p with
  | none => exact slicePart_none h
  | int i t => exact slicePart_int h
theorem sliceApplied_gen {sl : Addr} {vl vu : Value} {lo hi : Option Int} {n : Nat} {Q : Int × Int × Nat → Shared → Prop} (hs : s.heap.IsSliceOf sl vl vu .none) (pl : IsPart vl lo) (pu : IsPart vu hi)
    (h : Q (((sIx n 0 lo : Nat) : Int), 1, sIx n n hi - sIx n 0 lo) s) : wpAny (model prog w) A (Builtin.Slice.sliceApplied (.ref sl) (pure (n : Int))) Q E s := by
  obtain ⟨os, hos, hcs, hds⟩ := id hs
  unfold Builtin.Slice.sliceApplied Builtin.Slice.sliceFields
  refine wpAny_bind (wpAny_bind (wpAny_field hos hds (x := vl) rfl (wpAny_bind (wpAny_field hos hds (x := vu) rfl (wpAny_bind (wpAny_field hos hds (x := .none) rfl (wpAny_pure ?_)))))))
  refine wpAny_bind (slicePart_none ?_)
  show wpAny _ _ (if ((1 : Int) == 0) = true then _ else _) _ _ s
  rw [if_neg (by decide)]
  refine wpAny_bind (slicePart_ pl (wpAny_bind (slicePart_ pu (wpAny_bind (wpAny_pure ?_)))))
  show wpAny _ _ (match Builtin.Slice.sliceAdjust lo hi 1 (n : Int) with | (lo, hi) => pure (lo, (1 : Int), Builtin.Slice.slicePlaces lo hi 1)) _ _ s
  rw [adjust_gen lo hi n]
  show wpAny _ _ (pure (((sIx n 0 lo : Nat) : Int), (1 : Int), Builtin.Slice.slicePlaces ((sIx n 0 lo : Nat) : Int) ((sIx n n hi : Nat) : Int) 1)) _ _ s
  rw [places_gen]
  exact wpAny_pure h
theorem pick_gen (xs : Array Value) (i k : Nat) : ((List.range k).filterMap fun (m : Nat) => xs[((i : Int) + (m : Int) * 1).toNat]?).toArray = ((xs.toList.drop i).take k).toArray := by
  have e : (fun (m : Nat) => xs[((i : Int) + (m : Int) * 1).toNat]?) = fun m => xs[i + m]? := by
    funext m
    have : ((i : Int) + (m : Int) * 1).toNat = i + m := by omega
    rw [this]
  rw [e]
  have := pick_run xs i k
  rw [List.filterMap_map] at this
  have e2 : ((fun x => xs[x]?) ∘ fun x => i + x) = fun m => xs[i + m]? := rfl
  rw [e2] at this
  rw [this]
theorem getItem_tuple_cut {t sl : Addr} {items : Array Value} {vl vu : Value} {lo hi : Option Int} {Q : Value → Shared → Prop} (ht : IsTup s.heap t items) (hs : s.heap.IsSliceOf sl vl vu .none) (pl : IsPart vl lo) (pu : IsPart vu hi)
    (hw : ¬ (sIx items.size 0 lo = 0 ∧ sIx items.size items.size hi = items.size))
    (h : Q (.ref s.heap.objs.size) { s with heap := s.heap.push { cls := .type "tuple", data := .seq ((items.toList.drop (sIx items.size 0 lo)).take (sIx items.size items.size hi - sIx items.size 0 lo)).toArray } })
    (hsz : items.size ≤ sizeLine) : wpAny (model prog w) A (getItem (.ref t) (.ref sl)) Q E s := by
  have htake : sizeOk (.seq ((items.toList.drop (sIx items.size 0 lo)).take (sIx items.size items.size hi - sIx items.size 0 lo)).toArray) := by
    show ((items.toList.drop (sIx items.size 0 lo)).take (sIx items.size items.size hi - sIx items.size 0 lo)).toArray.size ≤ sizeLine
    rw [List.size_toArray, List.length_take, List.length_drop, Array.length_toList]
    omega
  have hj : sIx items.size items.size hi ≤ items.size := sIx_le _ _ (Nat.le_refl _) hi
  obtain ⟨os, hos, hcs, hds⟩ := id hs
  have hTs : s.TypeIs (.ref sl) "slice" := ⟨os, hos, hcs⟩
  unfold getItem
  try with_reducible refine wpAny_holding ?_
  first | refine wpAny_bind (wpAny_pure ?_) | skip
  refine wpAny_bind (wpAny_sequenceKey ht.typeIs (by decide) ?_)
  refine wpAny_bind (wpAny_callSpecial?_slot (name := Str.ofString "__getitem__") ht.typeIs PyProof.Rows.slot_tuple_getitem
    (wpAny_call_entry PyProof.Rows.slot_tuple_getitem ht.typeIs entry_tuple_getitem ?_ (args_tuple_getitem _ _)))
  show wpAny _ _ (Builtin.Tuple.tupleItemsOf (.ref t) >>= _) _ _ s
  refine wpAny_bind (tupleItemsOf_ ht ?_)
  refine wpAny_bind (wpAny_typeOf hTs ?_)
  rw [if_pos (by decide)]
  refine wpAny_bind (sliceApplied_gen hs pl pu ?_)
  have hno : ¬ ((((sIx items.size 0 lo : Nat) : Int) == 0 && (1 : Int) == 1 && (sIx items.size items.size hi - sIx items.size 0 lo) == items.size) = true) := by
    intro q
    rw [Bool.and_eq_true, Bool.and_eq_true] at q
    have q1 : ((sIx items.size 0 lo : Nat) : Int) = 0 := eq_of_beq q.1.1
    have q2 : sIx items.size items.size hi - sIx items.size 0 lo = items.size := eq_of_beq q.2
    exact hw ⟨by omega, by omega⟩
  show wpAny _ _ (if (((sIx items.size 0 lo : Nat) : Int) == 0 && (1 : Int) == 1 && (sIx items.size items.size hi - sIx items.size 0 lo) == items.size) = true then _ else _) _ _ s
  rw [if_neg hno, pick_gen]
  first
    | exact wpAny_bind (m := Builtin.Tuple.tupleExact _) (wpAny_newObj_type (wpAny_pure ⟨_, rfl, wpAny_pure h⟩) htake)
    | exact wpAny_bind (m := Builtin.Tuple.tupleExact _) (wpAny_newObj_type (wpAny_bind (wpAny_pure (wpAny_pure ⟨_, rfl, wpAny_pure h⟩))) htake)
    | exact wpAny_bind (wpAny_bind (m := Builtin.Tuple.tupleExact _) (wpAny_newObj_type (wpAny_pure (wpAny_pure ⟨_, rfl, wpAny_pure h⟩)) htake))
    | exact wpAny_bind (wpAny_bind (m := Builtin.Tuple.tupleExact _) (wpAny_newObj_type (wpAny_pure ⟨_, rfl, wpAny_pure h⟩) htake))
end
end HT
namespace L2
open PySem PySem.Spec PyProof.Rows
abbrev TO := St → Hp → (Option Int → Hp → Prop) → Prop
def PO (X : Cx) (e : Option Expr) (t : TO) : Prop :=
  ∀ (pins : List (Addr × Obj)) (s : Shared) (σ : St) (H : Hp) (Q : Option Int → Hp → Prop), Inv X pins σ H s → t σ H Q →
    wpAny (model X.prog X.w) X.A (evalPart e X.env) (fun u s' => ∃ o H', Inv X pins σ H' s' ∧ IsPart u o ∧ Q o H') X.xe s
def tNoPart : TO := fun _ H Q => Q none H
def tPart (t : TE) : TO := fun σ H Q => t σ H fun x H1 => ∃ i, x = .int i ∧ Q (some i) H1
section
variable {X : Cx} {e : Expr} {te : TE} {lo hi : Option Expr} {tl th : TO} {pos p2 : Pos}
theorem po_none : PO X none tNoPart := by
  intro pins s σ H Q I h
  rw [evalPart_none]
  exact wpAny_pure ⟨none, H, I, .none, h⟩
theorem po_some (h : PE X e te) : PO X (some e) (tPart te) := by
  intro pins s σ H Q I hw
  rw [evalPart_some]
  refine thn (h pins s σ H _ I hw) fun u s1 ⟨x, H1, I1, r1, q1⟩ => ?_
  obtain ⟨i, rfl, q⟩ := q1
  obtain ⟨t, rfl⟩ := r1
  exact ⟨some i, H1, I1, .int i t, q⟩
def SlR (X : Cx) (r : V → Option Int → Option Int → Hp → VK → Prop) : Prop :=
  ∀ (pins : List (Addr × Obj)) (s : Shared) (σ : St) (H : Hp) (x : V) (v vl vu : Value) (lo hi : Option Int) (sl : Addr) (Q : VK), Inv X pins σ H s → RelV x v → s.heap.IsSliceOf sl vl vu .none → IsPart vl lo → IsPart vu hi → r x lo hi H Q →
    ∃ T id, typeLookup (.type T) "__getitem__" = pure (some (.builtin id)) ∧ s.TypeIs v T ∧ wpAny (model X.prog X.w) X.A (getItem v (.ref sl)) (EP X pins σ Q) X.xe s
def tSl (r : V → Option Int → Option Int → Hp → VK → Prop) (te : TE) (tl th : TO) : TE := fun σ H Q => te σ H fun x H1 => tl σ H1 fun l H2 => th σ H2 fun u H3 => r x l u H3 Q
theorem pe_slice {r : V → Option Int → Option Int → Hp → VK → Prop} (hr : SlR X r) (he : PE X e te) (hl : PO X lo tl) (hu : PO X hi th) : PE X (.Subscript e (.Slice lo hi none p2) pos) (tSl r te tl th) := by
  intro pins s σ H Q I h
  refine Subscript_ (thn (he pins s σ H _ I h) fun v s1 ⟨x, H1, I1, r1, q1⟩ => ?_)
  refine wpAny_Slice (thn (hl pins s1 σ H1 _ I1 q1) fun vl s2 ⟨l, H2, I2, pl, q2⟩ => thn (hu pins s2 σ H2 _ I2 q2) fun vu s3 ⟨u, H3, I3, pu, q3⟩ => ?_)
  rw [evalPart_none]
  refine wpAny_pure ?_
  have I4 : Inv X pins σ H3 { s3 with heap := s3.heap.push { cls := .type "slice", data := .fields #[vl, vu, .none] } } := I3.kept (t' := s3.toks) fun b ob q => Heap.get?_push_of_some _ q
  obtain ⟨T, id, hT, ht, hg⟩ := hr pins { s3 with heap := s3.heap.push { cls := .type "slice", data := .fields #[vl, vu, .none] } } σ H3 x v vl vu l u s3.heap.objs.size Q I4 r1 (Heap.IsSliceOf.new ..) pl pu q3
  show wpAny (model X.prog X.w) X.A (subscriptTail e (.Slice lo hi none p2) v (.ref s3.heap.objs.size)) (EP X pins σ Q) X.xe { s3 with heap := s3.heap.push { cls := .type "slice", data := .fields #[vl, vu, .none] } }
  exact tail_any (ops := [.ref s3.heap.objs.size, v]) ht hT hg (by with_unfolding_all rfl)
def cutV (xs : List V) (lo hi : Option Int) : List V := (xs.drop (HT.sIx xs.length 0 lo)).take (HT.sIx xs.length xs.length hi - HT.sIx xs.length 0 lo)
theorem cutV_length (xs : List V) (lo hi : Option Int) : (cutV xs lo hi).length ≤ xs.length := by
  unfold cutV
  rw [List.length_take, List.length_drop]
  omega
def rSlT (K : PySem.W.Frag) : V → Option Int → Option Int → Hp → VK → Prop := fun x lo hi H Q => ∃ a xs, x = .ref a ∧ SqT K H a xs ∧
  ¬ (HT.sIx xs.length 0 lo = 0 ∧ HT.sIx xs.length xs.length hi = xs.length) ∧ ∀ p, H p = none → Q (.ref p) (upd H p (.tup (cutV xs lo hi)))
theorem sl_tup : SlR X (rSlT X.K) := by
  intro pins s σ H x v vl vu lo hi sl Q I rx hs pl pu h
  obtain ⟨a, xs, rfl, hx, hw, q⟩ := h
  cases rx
  obtain ⟨its, r, ht, hz⟩ := I.tuple hx
  have hlen : its.toArray.size = xs.length := by rw [List.size_toArray]; exact r.length.symm
  refine ⟨"tuple", _, PyProof.Rows.slot_tuple_getitem.lookup, ht.typeIs, ?_⟩
  refine HT.getItem_tuple_cut ht hs pl pu (by rw [hlen]; exact hw) ?_ (by rw [hlen]; exact hz)
  rw [hlen]
  refine ⟨.ref s.heap.objs.size, _, I.laid (t' := s.toks) (o := .tup (cutV xs lo hi)) (fun b ob q => Heap.get?_push_of_some _ q) (Nat.le_refl _) ?_, rfl, q _ (I.hok.fresh (Nat.le_refl _))⟩
  exact ⟨Nat.le_trans (cutV_length xs lo hi) hz, _, (r.drop (HT.sIx xs.length 0 lo)).take (HT.sIx xs.length xs.length hi - HT.sIx xs.length 0 lo), IsTup.new _ _⟩
def rCatT (K : PySem.W.Frag) : R2 := fun x y H Q => ∃ a b xs ys, x = .ref a ∧ y = .ref b ∧ SqT K H a xs ∧ SqT K H b ys ∧ xs ≠ [] ∧ xs.length + ys.length ≤ sizeLine ∧
  (ys = [] → Q (.ref a) H) ∧ (ys ≠ [] → ∀ p, H p = none → Q (.ref p) (upd H p (.tup (xs ++ ys))))
theorem Vals.nil_iff {xs : List V} {us : List Value} (r : Vals xs us) : us = [] ↔ xs = [] := by
  cases r with
  | nil => simp
  | cons _ _ => simp
theorem op_catT : OpR X (binaryOp .Add) (rCatT X.K) := by
  intro pins s σ H x y v u Q I rx ry h
  obtain ⟨a, b, xs, ys, rfl, rfl, ha, hb, hx, hz, q1, q2⟩ := h
  cases rx
  cases ry
  obtain ⟨its, r1, p1, _⟩ := I.tuple ha
  obtain ⟨its2, r2, p2, _⟩ := I.tuple hb
  refine HT.cat_tup p1 p2 (fun z => hx (r1.nil_iff.mp z)) (fun z => ⟨.ref a, H, I, rfl, q1 (r2.nil_iff.mp z)⟩) (fun z => ?_) (by rw [← r1.length, ← r2.length]; exact hz)
  refine ⟨.ref s.heap.objs.size, _, I.laid (t' := s.toks) (o := .tup (xs ++ ys)) (fun b ob q => Heap.get?_push_of_some _ q) (Nat.le_refl _) ?_, rfl, q2 (fun w => z (r2.nil_iff.mpr w)) _ (I.hok.fresh (Nat.le_refl _))⟩
  exact ⟨by rw [List.length_append]; exact hz, _, r1.append r2, IsTup.new _ _⟩
end
end L2
namespace L2
open PySem PySem.Spec PyProof.Rows
def ixN (n : Nat) (i : Int) : Option Nat := if 0 ≤ i then (if i < n then some i.toNat else none) else if -(n : Int) ≤ i then some (i + n).toNat else none
def atI {α : Type} (xs : List α) (i : Int) : Option α := (ixN xs.length i).bind fun j => xs[j]?
theorem ixN_seq {n : Nat} {i : Int} {j : Nat} (h : ixN n i = some j) : seqIndex? i n = some j ∧ j < n ∧ -(n : Int) ≤ i ∧ i < n := by
  unfold ixN at h
  by_cases h0 : 0 ≤ i
  · rw [if_pos h0] at h
    by_cases h1 : i < n
    · rw [if_pos h1] at h
      have e : i.toNat = j := Option.some.inj h
      exact ⟨by rw [seqIndex_of h0 h1, e], by omega, by omega, h1⟩
    · rw [if_neg h1] at h; cases h
  · rw [if_neg h0] at h
    by_cases h1 : -(n : Int) ≤ i
    · rw [if_pos h1] at h
      have e : (i + n).toNat = j := Option.some.inj h
      exact ⟨by rw [seqIndex_neg (by omega) h1, e], by omega, h1, by omega⟩
    · rw [if_neg h1] at h; cases h
theorem atI_get {α : Type} {xs : List α} {i : Int} {v : α} (h : atI xs i = some v) : ∃ j, seqIndex? i xs.length = some j ∧ xs[j]? = some v ∧ j < xs.length ∧ -(xs.length : Int) ≤ i ∧ i < xs.length := by
  unfold atI at h
  cases e : ixN xs.length i with
  | none => rw [e] at h; cases h
  | some j =>
    rw [e] at h
    obtain ⟨h1, h2, h3, h4⟩ := ixN_seq e
    exact ⟨j, h1, h, h2, h3, h4⟩
theorem atI_nat {α : Type} {xs : List α} {j : Nat} {v : α} (h : xs[j]? = some v) : atI xs (j : Int) = some v := by
  have hj : j < xs.length := (List.getElem?_eq_some_iff.mp h).1
  have e : ixN xs.length (j : Int) = some j := by
    unfold ixN
    rw [if_pos (by omega), if_pos (by omega)]; simp
  unfold atI; rw [e]; exact h
def PlainIx (b : Expr) : Prop := ∀ o i, subscripted b false o i = operate [o, i] (getItem o i)
def IxR (X : Cx) (r : R2) : Prop :=
  ∀ (value slice : Expr) (pins : List (Addr × Obj)) (s : Shared) (σ : St) (H : Hp) (x y : V) (v u : Value) (Q : VK), Inv X pins σ H s → RelV x v → RelV y u → r x y H Q →
    subscripted slice false v u = operate [v, u] (getItem v u) → wpAny (model X.prog X.w) X.A (subscriptTail value slice v u) (EP X pins σ Q) X.xe s
def MtR (X : Cx) (id : String) (r : V → List V → Hp → VK → Prop) : Prop :=
  ∀ (pins : List (Addr × Obj)) (s : Shared) (σ : St) (H : Hp) (x : V) (xs : List V) (v : Value) (us : List Value) (Q : VK), Inv X pins σ H s → RelV x v → Vals xs us → r x xs H Q →
    wpAny (model X.prog X.w) X.A (call (.builtin id) (v :: us)) (EP X pins σ Q) X.xe s
section
variable {X : Cx} {a b : Expr} {ta tb : TE} {pos : Pos}
theorem pe_ix {r : R2} (hr : IxR X r) (ha : PE X a ta) (hb : PE X b tb) (hs : PlainIx b) : PE X (.Subscript a b pos) (tOp r ta tb) := by
  intro pins s σ H Q I h
  exact Subscript_ (binT ha hb I h fun v u s2 x y H2 I2 rx ry q => hr a b pins s2 σ H2 x y v u Q I2 rx ry q (hs _ _))
def rIxL (K : PySem.W.Frag) : R2 := fun x y H Q => ∃ p xs i v, x = .ref p ∧ y = .int i ∧ SqL K H p xs ∧ atI xs i = some v ∧ Q v H
def rIxT (K : PySem.W.Frag) : R2 := fun x y H Q => ∃ p xs i v, x = .ref p ∧ y = .int i ∧ SqT K H p xs ∧ atI xs i = some v ∧ Q v H
def rIxS : R2 := fun x y H Q => ∃ z i c, x = .str z ∧ y = .int i ∧ z.length ≤ sizeLine ∧ atI z.cps.toList i = some c ∧ Q (.str ⟨#[c]⟩) H
theorem ix_list : IxR X (rIxL X.K) := by
  intro value slice pins s σ H x y v u Q I rx ry h hs
  obtain ⟨p, xs, i, z, rfl, rfl, hq, he, q⟩ := h
  cases rx
  obtain ⟨t, rfl⟩ := ry
  obtain ⟨its, r, pl, hz⟩ := I.list hq
  obtain ⟨j, h1, h2, h3, h4, h5⟩ := atI_get he
  obtain ⟨w, ew, rw'⟩ := r.get h2
  have hl := r.length
  have hn := line63
  have fin : EP X pins σ Q w s := ⟨z, H, I, rw', q⟩
  by_cases h0 : 0 ≤ i
  · have hj : i.toNat = j := by
      rw [seqIndex_of h0 h5] at h1
      exact Option.some.inj h1
    exact item_listR pl.isList h0 (by omega) (by rw [hj]; simpa using ew) fin hs
  · have hj : (i + (its.toArray.size : Int)).toNat = j := by
      rw [seqIndex_neg (by omega) h4] at h1
      rw [List.size_toArray, ← hl]
      exact Option.some.inj h1
    exact subscriptTail_builtinR (x := w) pl.isList.typeIs slot_list_getitem.lookup
      (wpAny_getItem_list_neg (Q := fun r s' => r = w ∧ EP X pins σ Q r s') pl.isList (by omega) (by rw [List.size_toArray] <;> omega) (by omega) (by rw [hj]; simpa using ew) ⟨rfl, fin⟩) hs
theorem ix_tup : IxR X (rIxT X.K) := by
  intro value slice pins s σ H x y v u Q I rx ry h hs
  obtain ⟨p, xs, i, z, rfl, rfl, hq, he, q⟩ := h
  cases rx
  obtain ⟨t, rfl⟩ := ry
  obtain ⟨its, r, pl, hz⟩ := I.tuple hq
  obtain ⟨j, h1, h2, h3, h4, h5⟩ := atI_get he
  obtain ⟨w, ew, rw'⟩ := r.get h2
  have hl := r.length
  have hn := line63
  have fin : EP X pins σ Q w s := ⟨z, H, I, rw', q⟩
  exact subscriptTail_builtinR (x := w) pl.typeIs slot_tuple_getitem.lookup
    (getItem_tuple (j := j) (Q := fun r s' => r = w ∧ EP X pins σ Q r s') pl (by omega) (by omega) (by rw [List.size_toArray, ← hl]; exact h1) (by simpa using ew) ⟨rfl, fin⟩) hs
theorem ix_str : IxR X rIxS := by
  intro value slice pins s σ H x y v u Q I rx ry h hs
  obtain ⟨z, i, c, rfl, rfl, hz, he, q⟩ := h
  obtain ⟨t, rfl⟩ := rx
  obtain ⟨t', rfl⟩ := ry
  obtain ⟨j, h1, h2, h3, h4, h5⟩ := atI_get he
  have hl : z.cps.toList.length = z.length := by simp [Str.length]
  rw [hl] at h1 h4 h5
  have hn := line63
  exact tail_any (typeIs_str s z t) slot_str_getitem.lookup (getItem_str (c := c) (by
    have e1 : decide (i < -(2 ^ 63 : Int)) = false := decide_eq_false (by omega)
    have e2 : decide (i ≥ 2 ^ 63) = false := decide_eq_false (by omega)
    rw [e1, e2, Bool.or_false]) (by rw [h1]; simpa using h2) ⟨.str ⟨#[c]⟩, H, I.tok _, ⟨_, rfl⟩, q⟩) hs
theorem Inv.lst {pins : List (Addr × Obj)} {σ : St} {H : Hp} {s : Shared} {p : Addr} {xs : List V} (I : Inv X pins σ H s) (h : H p = some (.lst xs)) :
    ∃ (its : List Value) (n : Nat), Vals xs its ∧ s.heap.get? p = some { cls := .type "list", data := .seq its.toArray n } ∧ xs.length ≤ sizeLine := by
  obtain ⟨z, its, n, r, e⟩ := I.hok p _ h
  exact ⟨its, n, r, e, z⟩
theorem Inv.lstUpd {pins : List (Addr × Obj)} {σ : St} {H : Hp} {s : Shared} {p : Addr} {xs ys : List V} {its its' : List Value} {n n' : Nat} {f : Obj → Obj} (I : Inv X pins σ H s) (h : H p = some (.lst xs))
    (ho : s.heap.get? p = some { cls := .type "list", data := .seq its.toArray n }) (hf : f { cls := .type "list", data := .seq its.toArray n } = { cls := .type "list", data := .seq its'.toArray n' }) (r : Vals ys its') (hz : ys.length ≤ sizeLine) (t : Nat) :
    Inv X pins σ (upd H p (.lst ys)) { s with heap := s.heap.update p f, toks := t } := by
  have e : (s.heap.update p f).get? p = some { cls := .type "list", data := .seq its'.toArray n' } := by
    rw [Heap.get?_update_self f ho (by rw [hf] <;> rfl), hf]
  refine I.write (x := p) (e := p) (by rw [h]; trivial) (.inl rfl) (fun b u hb q => (Heap.get?_update_other _ _ (Ne.symm hb)).trans q) ⟨_, e⟩ ?_
  exact ⟨hz, its', n', r, e⟩
theorem slice_bounds (lo hi : Option Int) (n : Nat) : (sliceBounds lo hi none n).1 = ((HT.sIx n 0 lo : Nat) : Int) ∧ (sliceBounds lo hi none n).2.1 = ((HT.sIx n n hi : Nat) : Int) ∧ (sliceBounds lo hi none n).2.2 = 1 := by
  refine ⟨?_, ?_, rfl⟩
  · cases lo with
    | none => simp [sliceBounds, HT.sIx]
    | some i =>
      simp only [sliceBounds, HT.sIx, Option.getD_none, show (1 : Int) > 0 by decide, if_true]
      by_cases h : i < 0
      · simp only [h, if_true] <;> omega
      · simp only [h, if_false] <;> omega
  · cases hi with
    | none => simp [sliceBounds, HT.sIx]
    | some i =>
      simp only [sliceBounds, HT.sIx, Option.getD_none, show (1 : Int) > 0 by decide, if_true]
      by_cases h : i < 0
      · simp only [h, if_true] <;> omega
      · simp only [h, if_false] <;> omega
theorem slicePick_cut (its : List Value) (lo hi : Option Int) : slicePick its.toArray lo hi none = ((its.drop (HT.sIx its.length 0 lo)).take (HT.sIx its.length its.length hi - HT.sIx its.length 0 lo)).toArray := by
  obtain ⟨h1, h2, h3⟩ := slice_bounds lo hi its.toArray.size
  unfold slicePick
  rw [h1, h2, h3]
  simp only [sliceRange_one, pick_run, List.size_toArray] <;> rfl
def rSlL (K : PySem.W.Frag) : V → Option Int → Option Int → Hp → VK → Prop := fun x lo hi H Q => ∃ a xs, x = .ref a ∧ SqL K H a xs ∧ ∀ p, H p = none → Q (.ref p) (upd H p (.lst (cutV xs lo hi)))
theorem sl_list : SlR X (rSlL X.K) := by
  intro pins s σ H x v vl vu lo hi sl Q I rx hs pl pu h
  obtain ⟨a, xs, rfl, hx, q⟩ := h
  cases rx
  obtain ⟨its, r, ht, hz⟩ := I.list hx
  have hlen := r.length
  refine ⟨"list", _, slot_list_getitem.lookup, ht.isList.typeIs, ?_⟩
  refine wpAny_getItem_list_slice ht.isList hs pl pu .none (by simp) ?_ (by rw [List.size_toArray] <;> omega)
  rw [slicePick_cut, ← hlen]
  refine ⟨.ref s.heap.objs.size, _, I.laid (t' := s.toks) (o := .lst (cutV xs lo hi)) (fun b ob q => Heap.get?_push_of_some _ q) (Nat.le_refl _) ?_, rfl, q _ (I.hok.fresh (Nat.le_refl _))⟩
  exact ⟨Nat.le_trans (cutV_length xs lo hi) hz, _, 0, (r.drop (HT.sIx xs.length 0 lo)).take (HT.sIx xs.length xs.length hi - HT.sIx xs.length 0 lo), Heap.get?_push_size _ rfl⟩
def flatV : V → Bool
  | .non => true
  | .bl _ => true
  | .int _ => true
  | .str _ => true
  | _ => false
def eqV : V → V → Bool
  | .non, .non => true
  | .bl a, .bl b => a == b
  | .bl a, .int b => (if a then 1 else 0) == b
  | .int a, .bl b => a == (if b then 1 else 0)
  | .int a, .int b => a == b
  | .str a, .str b => a == b
  | _, _ => false
theorem eqAt_V {A : Around} {s : Shared} {y x : V} {u v : Value} (ry : RelV y u) (rx : RelV x v) (fy : flatV y = true) (fx : flatV x = true) : SeqAt.EqAt A s u v (eqV y x) := by
  cases y with
  | non =>
    cases ry
    cases x with
    | non => cases rx; exact SeqAt.EqAt.same _
    | bl b => cases rx; exact SeqAt.EqAt.none_bool b
    | int b => obtain ⟨t, rfl⟩ := rx; exact SeqAt.EqAt.none_int b t
    | str b => obtain ⟨t, rfl⟩ := rx; exact SeqAt.EqAt.none_str b t
    | _ => exact absurd (show false = true from fx) Bool.false_ne_true
  | bl a =>
    cases ry
    cases x with
    | non => cases rx; exact SeqAt.EqAt.bool_none a
    | bl b => cases rx; exact SeqAt.EqAt.bool_bool a b
    | int b => obtain ⟨t, rfl⟩ := rx; exact SeqAt.EqAt.bool_int a b t
    | str b => obtain ⟨t, rfl⟩ := rx; exact SeqAt.EqAt.bool_str a b t
    | _ => exact absurd (show false = true from fx) Bool.false_ne_true
  | int a =>
    obtain ⟨t', rfl⟩ := ry
    cases x with
    | non => cases rx; exact SeqAt.EqAt.int_none a t'
    | bl b => cases rx; exact SeqAt.EqAt.int_bool a t' b
    | int b => obtain ⟨t, rfl⟩ := rx; exact SeqAt.EqAt.int_int a t' b t
    | str b => obtain ⟨t, rfl⟩ := rx; exact SeqAt.EqAt.int_str a t' b t
    | _ => exact absurd (show false = true from fx) Bool.false_ne_true
  | str a =>
    obtain ⟨t', rfl⟩ := ry
    cases x with
    | non => cases rx; exact SeqAt.EqAt.str_none a t'
    | bl b => cases rx; exact SeqAt.EqAt.str_bool a t' b
    | int b => obtain ⟨t, rfl⟩ := rx; exact SeqAt.EqAt.str_int a t' b t
    | str b => obtain ⟨t, rfl⟩ := rx; exact SeqAt.EqAt.str_str a t' b t
    | _ => exact absurd (show false = true from fx) Bool.false_ne_true
  | _ => exact absurd (show false = true from fy) Bool.false_ne_true
def eqU (x : V) (u : Value) : Bool := match u with
  | .none => eqV .non x
  | .bool b => eqV (.bl b) x
  | .int i _ => eqV (.int i) x
  | .str z _ => eqV (.str z) x
  | _ => false
theorem eqU_of {x y : V} {u : Value} (r : RelV y u) (f : flatV y = true) : eqU x u = eqV y x := by
  cases y with
  | non => cases r; rfl
  | bl b => cases r; rfl
  | int i => obtain ⟨t, rfl⟩ := r; rfl
  | str z => obtain ⟨t, rfl⟩ := r; rfl
  | _ => exact absurd (show false = true from f) Bool.false_ne_true
theorem any_eqU {x : V} : ∀ {xs : List V} {us : List Value}, Vals xs us → xs.all flatV = true → us.any (eqU x) = xs.any fun y => eqV y x
  | _, _, .nil, _ => rfl
  | y :: xs, u :: us, .cons r t, f => by
    rw [List.all_cons, Bool.and_eq_true] at f
    rw [List.any_cons, List.any_cons, eqU_of r f.1, any_eqU t f.2]
theorem mem_eqAt {A : Around} {s : Shared} {x : V} {v : Value} (rx : RelV x v) (fx : flatV x = true) : ∀ {xs : List V} {us : List Value}, Vals xs us → xs.all flatV = true → ∀ u ∈ us, SeqAt.EqAt A s u v (eqU x u)
  | _, _, .nil, _ => fun u hu => by cases hu
  | y :: xs, u :: us, .cons r t, f => fun u' hu => by
    rw [List.all_cons, Bool.and_eq_true] at f
    rcases List.mem_cons.mp hu with rfl | hu
    · rw [eqU_of r f.1]; exact eqAt_V r rx f.1 fx
    · exact mem_eqAt rx fx t f.2 u' hu
def inV (x : V) (xs : List V) : Bool := xs.any fun y => eqV y x
def rIn (K : PySem.W.Frag) (neg : Bool) : R2 := fun x y H Q => ∃ p xs, y = .ref p ∧ (SqL K H p xs ∨ SqT K H p xs) ∧ flatV x = true ∧ xs.all flatV = true ∧ Q (.bl (if neg then !inV x xs else inV x xs)) H
theorem op_in_seq : OpR X (compareOp .In) (rIn X.K false) := by
  intro pins s σ H x y v u Q I rx ry h
  obtain ⟨p, xs, rfl, hq, fx, fs, q⟩ := h
  cases ry
  rcases hq with hq | hq
  · obtain ⟨its, r, pl, hz⟩ := I.list hq
    refine SeqAt.in_listAt (eqU x) pl.isList (fun w hw => mem_eqAt rx fx r fs w (by simpa using hw)) ⟨.bl _, H, I, rfl, ?_⟩
    rw [show its.toArray.any (eqU x) = its.any (eqU x) by simp, any_eqU r fs]
    exact q
  · obtain ⟨its, r, pl, hz⟩ := I.tuple hq
    refine SeqAt.in_tupleAt (eqU x) pl (fun w hw => mem_eqAt rx fx r fs w (by simpa using hw)) ⟨.bl _, H, I, rfl, ?_⟩
    rw [show its.toArray.any (eqU x) = its.any (eqU x) by simp, any_eqU r fs]
    exact q
theorem op_notIn_seq : OpR X (compareOp .NotIn) (rIn X.K true) := by
  intro pins s σ H x y v u Q I rx ry h
  obtain ⟨p, xs, rfl, hq, fx, fs, q⟩ := h
  cases ry
  rcases hq with hq | hq
  · obtain ⟨its, r, pl, hz⟩ := I.list hq
    refine SeqAt.notIn_listAt (eqU x) pl.isList (fun w hw => mem_eqAt rx fx r fs w (by simpa using hw)) ⟨.bl _, H, I, rfl, ?_⟩
    rw [show its.toArray.any (eqU x) = its.any (eqU x) by simp, any_eqU r fs]
    exact q
  · obtain ⟨its, r, pl, hz⟩ := I.tuple hq
    refine SeqAt.notIn_tupleAt (eqU x) pl (fun w hw => mem_eqAt rx fx r fs w (by simpa using hw)) ⟨.bl _, H, I, rfl, ?_⟩
    rw [show its.toArray.any (eqU x) = its.any (eqU x) by simp, any_eqU r fs]
    exact q
theorem op_notIn_str : OpR X (compareOp .NotIn) (fun x y H Q => ∃ i j, x = .str i ∧ y = .str j ∧ Q (.bl (!(!(Builtin.Str.occurrences j i 0 j.length 1).isEmpty))) H) := by
  intro pins s σ H x y v u Q I rx ry h
  obtain ⟨i, j, rfl, rfl, q⟩ := h
  obtain ⟨t, rfl⟩ := rx
  obtain ⟨t', rfl⟩ := ry
  exact notIn_str ⟨.bl _, H, I, rfl, q⟩
theorem call_len_seq : CallR X (.builtin "len") (fun xs H Q => ∃ p ys, xs = [.ref p] ∧ (SqL X.K H p ys ∨ SqT X.K H p ys) ∧ Q (.int ys.length) H) := by
  intro pins s σ H xs us Q I r h
  obtain ⟨p, ys, rfl, hq, q⟩ := h
  obtain ⟨u, rfl, rx⟩ := vals1 r
  cases rx
  have hn := line63
  rcases hq with hq | hq
  · obtain ⟨its, r', pl, hz⟩ := I.list hq
    have hlen := r'.length
    exact Calls.call_len_list pl.isList (by simp only [List.size_toArray] <;> omega) ⟨.int ys.length, H, I.tok _, ⟨s.toks + 1, by rw [List.size_toArray, hlen]⟩, q⟩
  · obtain ⟨its, r', pl, hz⟩ := I.tuple hq
    have hlen := r'.length
    exact len_tuple pl (by simp only [List.size_toArray] <;> omega) ⟨.int ys.length, H, I.tok _, ⟨s.toks + 1, by rw [List.size_toArray, hlen]⟩, q⟩
theorem call_len_str : CallR X (.builtin "len") (fun xs H Q => ∃ z, xs = [.str z] ∧ z.length ≤ sizeLine ∧ Q (.int z.length) H) := by
  intro pins s σ H xs us Q I r h
  obtain ⟨z, rfl, hz, q⟩ := h
  obtain ⟨u, rfl, t, rfl⟩ := vals1 r
  have hn := line63
  exact len_str (by omega) ⟨.int z.length, H, I.tok _, ⟨_, rfl⟩, q⟩
theorem call_tuple_of : CallR X (.type "tuple") (fun xs H Q => ∃ p ys, xs = [.ref p] ∧ ((SqL X.K H p ys ∧ ∀ l, H l = none → Q (.ref l) (upd H l (.tup ys))) ∨ (SqT X.K H p ys ∧ Q (.ref p) H))) := by
  intro pins s σ H xs us Q I r h
  obtain ⟨p, ys, rfl, h⟩ := h
  obtain ⟨u, rfl, rx⟩ := vals1 r
  cases rx
  rcases h with ⟨hq, q⟩ | ⟨hq, q⟩
  · obtain ⟨its, r', pl, hz⟩ := I.list hq
    have hlen := r'.length
    refine call_tuple_list pl.isList (fun h' kp => ?_) (by simp only [List.size_toArray] <;> omega)
    have I1 : Inv X pins σ H { s with heap := h' } := I.kept (t' := s.toks) kp
    have I2 : Inv X pins σ (upd H h'.objs.size (.tup ys)) { s with heap := h'.push { cls := .type "tuple", data := .seq its.toArray } } :=
      I1.laid (t' := s.toks) (fun b o e => Heap.get?_push_of_some _ e) (Nat.le_refl _) (show ObjOk X.prog X.w _ _ _ (.tup ys) from ⟨hz, its, r', IsTup.new _ _⟩)
    exact ⟨.ref h'.objs.size, _, I2, rfl, q _ (I1.hok.fresh (Nat.le_refl _))⟩
  · obtain ⟨its, r', pl, hz⟩ := I.tuple hq
    exact call_tuple_same pl ⟨.ref p, H, I, rfl, q⟩
def tyV (K : PySem.W.Frag) (T : String) (x : V) (H : Hp) : Prop := match x with
  | .str _ => T = "str"
  | .int _ => T = "int"
  | .ref p => (T = "list" ∧ ∃ xs, SqL K H p xs) ∨ (T = "tuple" ∧ ∃ o, K.lookup p = some o ∧ o.cls = .type "tuple" ∧ o.dict = none) ∨
      (T = "dict" ∧ ((∃ kvs, H p = some (.dK kvs)) ∨ ∃ kvs, H p = some (.dT kvs))) ∨ (T = "set" ∧ ∃ S n, H p = some (.set S n))
  | _ => False
theorem tyV_is {pins : List (Addr × Obj)} {σ : St} {H : Hp} {s : Shared} {T : String} {x : V} {v : Value} (I : Inv X pins σ H s) (r : RelV x v) (ty : tyV X.K T x H) :
    s.TypeIs v T ∧ ∀ a, v = .ref a → ∃ ob, s.heap.get? a = some ob ∧ ob.dict = none := by
  cases x with
  | str z =>
    obtain ⟨t, rfl⟩ := r
    cases (show T = "str" from ty)
    exact ⟨typeIs_str s z t, fun _ e => nomatch e⟩
  | int i =>
    obtain ⟨t, rfl⟩ := r
    cases (show T = "int" from ty)
    exact ⟨typeIs_int s i t, fun _ e => nomatch e⟩
  | ref p =>
    cases r
    rcases ty with ⟨rfl, xs, hq⟩ | ⟨rfl, o, hk, hc, hd⟩ | ⟨rfl, hk⟩ | ⟨rfl, S, n, hk⟩
    · obtain ⟨its, _, pl, _⟩ := I.list hq
      refine ⟨pl.isList.typeIs, fun a e => ?_⟩
      cases e
      obtain ⟨o, n, e, c, hd, _⟩ := pl
      exact ⟨o, e, hd⟩
    · refine ⟨⟨o, I.kIn p o hk, hc⟩, fun a e => ?_⟩
      cases e
      exact ⟨o, I.kIn _ o hk, hd⟩
    · have z : ∃ o, s.heap.get? p = some o ∧ o.ExactDict := by
        rcases hk with ⟨kvs, hk⟩ | ⟨kvs, hk⟩
        · obtain ⟨_, _, _, _, o, _, _, e, ex, _⟩ := I.hok p _ hk
          exact ⟨o, e, ex⟩
        · obtain ⟨_, _, _, _, o, _, _, e, ex, _⟩ := I.hok p _ hk
          exact ⟨o, e, ex⟩
      obtain ⟨o, e, ex⟩ := z
      refine ⟨⟨o, e, ex.1⟩, fun a e2 => ?_⟩
      cases e2
      exact ⟨o, e, ex.2.1⟩
    · obtain ⟨o, _, _, _, e, ex, _⟩ := I.hok p _ hk
      refine ⟨⟨o, e, ex.1⟩, fun a e2 => ?_⟩
      cases e2
      exact ⟨o, e, ex.2.1⟩
  | _ => exact False.elim ty
def tBM (K : PySem.W.Frag) (T : String) (r : V → List V → Hp → VK → Prop) (to : TE) (t : TA) : TE := fun σ H Q => to σ H fun x H1 => tyV K T x H1 ∧ t σ H1 fun xs H2 => r x xs H2 Q
variable {o e : Expr} {es : List Expr} {to : TE} {t : TA} {name : Str} {apos cpos : Pos} {T id : String} {r : V → List V → Hp → VK → Prop}
theorem pe_bm (pa : PlainAttrs T) (slot : Slot T name id) (hty : typeOf (.builtin id) = pure (.type "method_descriptor")) (hm : MtR X id r) (ho : PE X o to) (ha : PA X (e :: es) t)
    (hbase : attributeBase o name X.env (eval o X.env) = eval o X.env := by rfl)
    (hfew : ((backTo cpos (starEach (e :: es) X.env)).all (fun x => !x.1) && (backToKw cpos (keywordEach [] X.env)).all (fun x => x.1.isSome)
      && decide ((e :: es).length + ([] : List Keyword).length + (if ([] : List Keyword).isEmpty then 0 else 1) < 30)) = true := by rfl)
    (hline : (apos.endLine == cpos.line) = true := by rfl) (hs : starEach (e :: es) X.env = (false, eval e X.env) :: starEach es X.env := by rfl) (hplain : (backTo cpos (starEach es X.env)).any (·.1) = false := by rfl) :
    PE X (.Call (.Attribute o name apos) (e :: es) [] cpos) (tBM X.K T r to t) := by
  intro pins s σ H Q I h
  refine wpAny_Call_method_late hbase hfew hline rfl (thn (ho pins s σ H _ I h) fun v s1 ⟨x, H1, I1, r1, ty, q1⟩ => ?_)
  obtain ⟨h1, h2⟩ := tyV_is I1 r1 ty
  refine ⟨T, id, pa, slot, hty, h1, h2, ?_⟩
  have hA := ha cpos pins s1 σ H1 _ I1 q1
  rw [hs] at hA ⊢
  refine Calls.callWith_builtin (by show (false || (backTo cpos (starEach es X.env)).any (·.1)) = false; rw [hplain] <;> rfl) (Calls.evalArgs_plain ?_)
  exact thn hA fun us s2 ⟨vs, H2, I2, r2, q2⟩ => hm pins s2 σ H2 x vs v us Q I2 r1 r2 q2
end
end L2
namespace L2
open PySem PySem.Spec PyProof.Rows
section
variable {X : Cx} {pins : List (Addr × Obj)} {σ : St} {H : Hp} {s : Shared} {l b : Addr} {xs ys zs : List V}
theorem Inv.lset {its its' : List Value} {n : Nat} {f : Array Value → Array Value} {t' : Nat} (I : Inv X pins σ H s) (hH : H l = some (.lst xs))
    (e : s.heap.get? l = some { cls := .type "list", data := .seq its.toArray n }) (hf : f its.toArray = its'.toArray) (hv : Vals ys its') (hz : ys.length ≤ sizeLine) :
    Inv X pins σ (upd H l (.lst ys)) { s with heap := s.heap.update l (Obj.mapSeq f), toks := t' } := by
  have q := PySem.IsL.update e f
  rw [hf] at q
  refine I.write (x := l) (e := l) (by rw [hH]; exact trivial) (.inl rfl) (fun b' u hb hu => (Heap.get?_update_other s.heap (Obj.mapSeq f) (Ne.symm hb)).trans hu) ⟨_, q⟩ ?_
  exact ⟨hz, its', _, hv, q⟩
theorem Inv.lnew {its : List Value} {t' : Nat} (I : Inv X pins σ H s) (hv : Vals ys its) (hz : ys.length ≤ sizeLine) :
    Inv X pins σ (upd H s.heap.objs.size (.lst ys)) { s with heap := s.heap.push { cls := .type "list", data := .seq its.toArray }, toks := t' } :=
  I.laid (fun _ _ q => Heap.get?_push_of_some _ q) (Nat.le_refl _) ⟨hz, its, 0, hv, Heap.get?_push_size _ rfl⟩
theorem Inv.fresh (I : Inv X pins σ H s) : H s.heap.objs.size = none := I.hok.fresh (Nat.le_refl _)
theorem Inv.lstM (I : Inv X pins σ H s) (hH : H l = some (.lst xs)) : xs.length ≤ sizeLine ∧ ∃ (its : List Value) (n : Nat), Vals xs its ∧ xs.length = its.length ∧ s.heap.get? l = some { cls := .type "list", data := .seq its.toArray n } := by
  obtain ⟨z, its, n, r, e⟩ := I.hok l _ hH
  exact ⟨z, its, n, r, r.length, e⟩
end
section
variable {X : Cx}
end
section
variable {prog : Program} {w : World} {A : Around} {E : Value → Shared → Prop} {s : Shared}
end
section
variable {X : Cx}
end
end L2
namespace Att
open PySem PySem.W PySem.Calls PyProof.Rows
theorem ints_of_wellAll {P : Params} {h : Heap} : ∀ (ns : List Int) (vs : List Value), WellAll P h vs (ns.map WData.int) → IntsAre vs ns := by
  intro ns
  induction ns with
  | nil =>
    intro vs w
    rw [List.map_nil] at w
    cases w
    exact .nil
  | cons n ns ih =>
    intro vs w
    rw [List.map_cons] at w
    cases w with
    | cons a b =>
      cases a
      exact .cons _ _ (ih _ b)
theorem script_of {l : OpenLaw} {n : Nat} (hn : l.most = some n) {P : Params} {h : Heap} {args : List WData} {vals : List Value}
    (hpre : l.row.toRowW.claim.pre args = true) (hwl : WellAll P h vals args) :
    ∃ a vs ns, vals = [Value.ref a] ∧ args = [WData.list (ns.map WData.int)] ∧ h.get? a = some { cls := .type "list", data := .seq vs.toArray } ∧ IntsAre vs ns ∧ ns.length ≤ n := by
  have hsh : WShape.hasAll [] args [.list .int] = true := (pre_splitW hpre).1
  have hc : l.pre.holds [] { args := args } = true := (pre_splitW hpre).2
  obtain ⟨d, r, rfl, h1, h2⟩ := hasAllW_cons hsh
  obtain rfl := hasAllW_nil h2
  obtain ⟨xs, rfl, h3⟩ := hasW_list h1
  obtain ⟨ns, rfl⟩ := items_int h3
  have hlen : ns.length ≤ n := by
    unfold OpenLaw.pre at hc
    have h4 : (WTm.not (.lt (.lit (.int (n : Int))) (.len (.arg 0)))).holds [] { args := [.list (ns.map .int)] } = true := by
      have h4 := (holds_andW hc).1
      rw [hn] at h4
      exact h4
    have h5 := condW_of h4 (w_not (w_lt w_lit (w_len_list (w_arg rfl))))
    rw [List.length_map] at h5
    refine Nat.le_of_not_lt fun q => ?_
    have q' : (n : Int) < ((ns.length : Nat) : Int) := by omega
    first
      | (rw [decide_eq_true q'] at h5; exact absurd h5 (by decide))
      | (simp at h5; omega)
  cases hwl with
  | cons w1 w2 =>
    cases w2
    cases w1 with
    | list ho hall => exact ⟨_, _, ns, rfl, rfl, ho, ints_of_wellAll ns _ hall, hlen⟩
theorem post_true (l : OpenLaw) (args : List WData) : l.row.toRowW.claim.post args (.bool true) args = true :=
  postW_of (r := l.row.toRowW) (X := (true == true))
    (show WShape.has [] (.bool true) .bool = true by first | rfl | decide | simp [WShape.has, WShape.arms, WShape.armsAll])
    (show (WTm.eq .res (.lit (.bool true))).value [] { args := args, res := some (.bool true), after := args } = some (.bool (true == true)) from w_eq_bool (w_res rfl) w_lit) rfl
theorem attach_call {l : OpenLaw} {n : Nat} {q : Program} {loose : List Str} {XP : (Str → Option Value) → Heap → Prop} {YP : World → Heap → Prop} {d : DefRec}
    (hn : l.most = some n) (hdf : d.params.defaults = [])
    (call : ∀ (w : World) (s₀ s₁ : Shared) (mg mb : Str → Option Value) (fa : Addr) (o : Obj) (pm cd doc : Value) (a : Addr) (vs : List Value) (ns : List Int),
      Ground q loose [] XP w s₀ mg mb s₁.heap → YP w s₁.heap →
      s₁.heap.get? fa = some o → o.data = .func (docDef d.name d.params d.body d.scope pm cd doc) → s₁.heap.CodeRec cd d.name → mg d.name = some (.ref fa) →
      s₁.heap.get? a = some { cls := .type "list", data := .seq vs.toArray } → IntsAre vs ns → ns.length ≤ n → s₁.gens = #[] →
      codeAny (model l.prog w) callerA (.call (.ref fa) ⟨[.ref a], []⟩) (fun r s' => r = .ok (.ret (.bool true)) ∧ OldK s₁.heap s'.heap ∧ s'.os = s₁.os ∧ AllBare s'.gens) s₁) :
    WalkO q loose XP YP l.row.toRowW d [] (fun f vs => PySem.call f vs) := by
  intro w s₀ s₁ mg mb G Y fa o pm cd doc dV kV ho hd hcd hD hmg hg args vals as hpre hlay hrd hwl hlo
  obtain rfl : dV = .none := Dflts.none hD hdf
  obtain rfl : kV = .none := Dflts.noKw hD
  obtain ⟨a, vs, ns, rfl, rfl, hobj, hints, hlen⟩ := script_of hn hpre hwl
  refine enter_call (codeAny_mono (call w s₀ s₁ mg mb fa o pm cd doc a vs ns G Y ho (fd_plain hd) hcd hmg hobj hints hlen hg) fun r s' hq => ?_)
  obtain ⟨rfl, h2, h3, h4⟩ := hq
  exact ⟨.inl ⟨.bool true, .bool true, [], rfl, fun _ => rfl, .bool true, post_true l _, fun _ => ⟨List.Pairwise.nil, fun _ hm => (nomatch hm)⟩⟩, h2, h3, h4⟩
section
variable {prog : Program} {w : World} {A : Around} {E : Value → Shared → Prop} {s : Shared} {K : Frag}
end
end Att
namespace L2
open PySem PySem.Spec PyProof.Rows
theorem vals_ints : ∀ {vs : List Value} {ns : List Int}, IntsAre vs ns → Vals (ns.map V.int) vs
  | _, _, .nil => .nil
  | _, _, .cons n t h => .cons ⟨t, rfl⟩ (vals_ints h)
def Only (H : Hp) : Prop := ∀ b, H b = none ∨ ∃ o xs, H b = some (.frz o (.lst xs))
theorem law_call {P : Program} {w : World} {K : PySem.W.Frag} {mg mb : Str → Option Value} {CX : CXT} {k : Nat} {fa a : Addr} {fd : FuncData} {x : Str} {sp : Sp} {s₁ : Shared} {vs : List Value} {ns : List Int}
    (KX : K.In s₁.heap) (hns : s₁.heap.Ns mainGlobals mg) (hb : s₁.heap.Ns builtinsNs mb) (hbb : ∀ x : Str, x ≠ "__name__" → mb x = bootBuiltins x) (hlim : s₁.heap.NoLimit) (hg : s₁.gens = #[])
    (ha : s₁.heap.get? a = some { cls := .type "list", data := .seq vs.toArray }) (hi : IntsAre vs ns) (hl : ns.length ≤ sizeLine) (hr : Room k callerA)
    (F : ∀ base : Heap, K.In base → base.Ns mainGlobals mg → FnOk P w K mg base CX k fa fd [x] sp) (hbind : ∀ (s : Shared) (u : Value), BindsTo s fd ⟨[u], []⟩ [(x, u)])
    (hsp : ∀ H : Hp, Only H → SqL K H a (ns.map V.int) → sp [.ref a] H (fun v _ => v = .bl true) fun _ _ _ => False)
    (hCX : ∀ H e s', CX [] H s₁ (fun _ _ _ => False) e s' → False) :
    codeAny (model P w) callerA (.call (.ref fa) ⟨[.ref a], []⟩) (fun r s' => r = .ok (.ret (.bool true)) ∧ OldK s₁.heap s'.heap ∧ s'.os = s₁.os ∧ AllBare s'.gens) s₁ := by
  have rv := vals_ints hi
  have lenV := hi.length
  have core : ∀ H : Hp, Only H → SqL K H a (ns.map V.int) → HOk P w H s₁.heap → (∀ b, H b ≠ none → b = a) → (H a ≠ none → K.lookup a = none) →
      codeAny (model P w) callerA (.call (.ref fa) ⟨[.ref a], []⟩) (fun r s' => r = .ok (.ret (.bool true)) ∧ OldK s₁.heap s'.heap ∧ s'.os = s₁.os ∧ AllBare s'.gens) s₁ := by
    intro H hO hS hok hA hK
    have base_of : ∀ {b : Addr} {o : Obj}, s₁.heap.get? b = some o → H b = none → (hidT s₁.heap H).get? b = some o := fun e n => hidT_get e n
    have noA : ∀ {b : Addr} {o : Obj} {es : Array DictEntry} {ep : Nat}, s₁.heap.get? b = some o → o.data = .dict es ep → H b = none := fun {b o es ep} e d => by
      cases q : H b with
      | none => rfl
      | some u =>
        have e' : b = a := hA b (by rw [q]; simp)
        subst e'
        rw [ha] at e; cases e
        have d' : Data.seq vs.toArray _ = Data.dict es ep := d
        cases d'
    have nsK : ∀ {b : Addr} {m : Str → Option Value}, s₁.heap.Ns b m → (hidT s₁.heap H).Ns b m := fun {b m} ⟨o, es, ep, e, d, r⟩ => ⟨o, es, ep, base_of e (noA e d), d, r⟩
    have hKb : K.In (hidT s₁.heap H) := fun b o e => base_of (KX b o e) (by
      cases q : H b with
      | none => rfl
      | some u =>
        have e' : b = a := hA b (by rw [q]; simp)
        subst e'
        rw [hK (by rw [q]; simp)] at e; cases e)
    have hM : Mod K mg (hidT s₁.heap H) := ⟨hKb, nsK hns, ⟨mb, nsK hb, hbb⟩, let ⟨mc, h1, h2⟩ := hlim; ⟨mc, nsK h1, h2⟩⟩
    have e0 : Env0 P w K mg (hidT s₁.heap H) callerA [] s₁ H := ⟨rfl, hM, fun b o e => of_hidT e, Nat.le_of_eq (hidT_size _ _), trivial, fun b hb => absurd (show b ∈ ([] : List Addr) from hb) (by simp), hok, .of_eq hg⟩
    refine codeAny_mono ((F _ hKb (nsK hns)).run callerA [] s₁ H ⟨[.ref a], []⟩ [.ref a] [.ref a] _ _ hr e0 (hbind s₁ (.ref a)) (.cons rfl .nil) (hsp H hO hS)) fun r s' h => ?_
    cases r with
    | error e => exact (hCX H e s' h).elim
    | ok fl =>
      cases fl with
      | next => exact False.elim h
      | brk => exact False.elim h
      | cont => exact False.elim h
      | ret u =>
        obtain ⟨v, H', os, bare, un, hok', r', q⟩ := h
        have q' : v = .bl true := q
        subst q'
        obtain rfl : u = Value.bool true := r'
        refine ⟨rfl, OldK.of_keep fun b o e => ?_, os, bare⟩
        cases q : H b with
        | none => exact un.keep b o e q (by intro z; exact absurd (show b ∈ ([] : List Addr) from z) (by simp)) (by simp)
        | some u =>
          rcases hO b with z | ⟨ob, xs, z⟩
          · rw [q] at z; cases z
          · have z2 := un.frzs b ob _ z
            obtain ⟨e1, _⟩ := hok b _ z
            obtain ⟨e2, _⟩ := hok' b _ z2
            rw [e] at e1; cases e1
            exact e2
  cases hk : K.lookup a with
  | some o =>
    have e := KX a o hk
    rw [ha] at e
    cases e
    refine core (fun _ => none) (fun _ => .inl rfl) (.inr ⟨_, vs.toArray, _, hk, rfl, rfl, rfl, by rw [List.size_toArray, lenV]; exact hl, by simpa using rv⟩) (fun b u z => by have z' : (none : Option HO) = some u := z; cases z') (fun b z => absurd rfl z) fun z => absurd rfl z
  | none =>
    refine core (fun b => if b = a then some (.frz { cls := .type "list", data := .seq vs.toArray } (.lst (ns.map V.int))) else none) (fun b => ?_) (.inl (.inr ⟨{ cls := .type "list", data := .seq vs.toArray }, if_pos rfl⟩)) (fun b u z => ?_) (fun b z => ?_) fun _ => hk
    · by_cases hb : b = a
      · exact .inr ⟨_, _, if_pos hb⟩
      · exact .inl (if_neg hb)
    · by_cases hb : b = a
      · have z' := (if_pos hb).symm.trans z
        cases z'
        subst hb
        exact ⟨ha, by rw [List.length_map]; exact hl, vs, _, rv, ha⟩
      · have z' := (if_neg hb).symm.trans z
        cases z'
    · by_cases hb : b = a
      · exact hb
      · exact absurd (if_neg hb) z
end L2
namespace L2
open PySem PySem.Spec PyProof.Rows
theorem walk_of {l : PySem.W.OpenLaw} {n k : Nat} {q : Program} {loose : List Str} {XP : (Str → Option Value) → Heap → Prop} {YP : World → Heap → Prop} {d : DefRec} {K : Params → PySem.W.Frag} {CX : World → CXT} {sp : World → Sp} {x : Str}
    (hn : l.most = some n) (hn2 : n ≤ sizeLine) (hdf : d.params.defaults = []) (hr : Room k callerA)
    (hY : ∀ (w : World) (h : Heap), YP w h → (K w.params).In h)
    (F : ∀ (w : World) (mg : Str → Option Value) (fa : Addr) (h : Heap), (K w.params).In h → h.Ns mainGlobals mg → mg d.name = some (.ref fa) →
      ∃ fd : FuncData, (∀ (s : Shared) (u : Value), BindsTo s fd ⟨[u], []⟩ [(x, u)]) ∧
        ∀ base : Heap, (K w.params).In base → base.Ns mainGlobals mg → FnOk l.prog w (K w.params) mg base (CX w) k fa fd [x] (sp w))
    (hsp : ∀ (w : World) (H : Hp) (a : Addr) (ns : List Int), ns.length ≤ n → Only H → SqL (K w.params) H a (ns.map V.int) → sp w [.ref a] H (fun v _ => v = .bl true) fun _ _ _ => False)
    (hCX : ∀ (w : World) (H : Hp) (s : Shared) (e : Value) (s' : Shared), CX w [] H s (fun _ _ _ => False) e s' → False) :
    PySem.W.WalkO q loose XP YP l.row.toRowW d [] (fun f vs => PySem.call f vs) := by
  refine Att.attach_call hn hdf fun w s₀ s₁ mg mb fa o pm cd doc a vs ns G Y ho hd hcd hmg hobj hints hlen hg => ?_
  have KX := hY w _ Y
  obtain ⟨fd, hb, hF⟩ := F w mg fa _ KX G.T.g hmg
  exact law_call KX G.T.g G.T.b G.T.builtins G.T.nolimit hg hobj hints (Nat.le_trans hlen hn2) hr hF hb (fun H hO hS => hsp w H a ns hlen hO hS) fun H e s' => hCX w H s₁ e s'
end L2
namespace L2
open PySem PySem.Spec PyProof.Rows
def inClass (s : Stmt) (j : Nat) : Stmt := match s with
  | .ClassDef _ _ _ body _ _ _ _ _ _ _ => body.getD j (.Pass ⟨0, 0, 0, 0⟩)
  | _ => .Pass ⟨0, 0, 0, 0⟩
def defArgs (s : Stmt) : Arguments := match s with
  | .FunctionDef _ a _ _ _ _ _ _ _ _ => a
  | _ => { posonlyargs := [], args := [], vararg := none, kwonlyargs := [], kw_defaults := [], kwarg := none, defaults := [] }
def defBody (s : Stmt) : List Stmt := match s with
  | .FunctionDef _ _ b _ _ _ _ _ _ _ => b
  | _ => []
def defScope (s : Stmt) : Scope := match s with
  | .FunctionDef _ _ _ _ _ _ sc _ _ _ => sc
  | _ => { kind := .function, names := [], isGenerator := false, isCoroutine := false }
abbrev CX0 : CXT := fun _ _ _ _ _ _ => False
abbrev E0 : XK := fun _ _ _ => False
theorem pass0 {X : Cx} : Passes CX0 X E0 := fun _ _ _ _ _ _ _ h => h.elim
structure Fun (K : PySem.W.Frag) (x qual : Str) (st : Stmt) (f : Addr) (fd : FuncData) : Prop where
  ex : ∃ (oc : Value) (od : Option Addr) (kV doc pm : Value) (an : Option Addr) (cdv ct : Value) (osl : Array (Option Value)),
    fd = PySem.W.fnOf x qual (defArgs st) (defBody st) (defScope st) .none kV doc pm an cdv ct ∧ K.lookup f = some ⟨oc, od, .func fd, osl⟩ ∧ PySem.W.codeIn K cdv qual = true
  kp : PySem.W.keepIn K (.ref f) = true
section
variable {P : Program} {w : World} {K : PySem.W.Frag} {mg : Str → Option Value} {base : Heap}
theorem Fun.ok {x qual : Str} {st : Stmt} {f : Addr} {fd : FuncData} {N ps : List Str} {k : Nat} {sp : Sp} (F : Fun K x qual st f fd) (S : FnScope N ps (defScope st)) (len : ∀ vs H Q E, sp vs H Q E → vs.length = ps.length)
    (hbody : ∀ (cdv : Value) (A : Around) (outer : List Env) (s : Shared) (H : Hp) (vs : List V) (Q : VK) (E : XK), Room k (A.deeper (envOfC qual (defScope st) s.heap.objs.size f cdv)) → sp vs H Q E →
      ∃ t, PSs (cxOf CX0 P w K mg base N qual (defScope st) f cdv A outer s H E).nox (defBody st) t ∧ t { nx := fun _ H' => Q .non H', rt := Q } (start N vs) H) : FnOk P w K mg base CX0 (k + 1) f fd ps sp := by
  obtain ⟨oc, od, kV, doc, pm, an, cdv, ct, osl, rfl, lk, hcd⟩ := F.ex
  refine fn_of lk hcd S len fun A outer s H vs Q E hr hsp => ?_
  obtain ⟨t, h, q⟩ := hbody cdv A outer s H vs Q E hr hsp
  exact ⟨t, h.nox, q⟩
theorem Fun.binds {x qual : Str} {st : Stmt} {f : Addr} {fd : FuncData} {ps : List Str} (F : Fun K x qual st f fd)
    (h : ∀ (kV doc pm : Value) (an : Option Addr) (cdv ct : Value) (us : List Value), us.length = ps.length → bindArgs (PySem.W.fnOf x qual (defArgs st) (defBody st) (defScope st) .none kV doc pm an cdv ct) ⟨us, []⟩ = pure (ps.zip us)) : Binds K fd ps [] := by
  obtain ⟨oc, od, kV, doc, pm, an, cdv, ct, osl, rfl, lk, hcd⟩ := F.ex
  exact .all (h kV doc pm an cdv ct)
theorem fun_mk {x qual : Str} {st : Stmt} {f : Addr} {oc : Value} {od an : Option Addr} {osl : Array (Option Value)} {kV doc pm cdv ct : Value} (l : K.lookup f = some ⟨oc, od, .func (PySem.W.fnOf x qual (defArgs st) (defBody st) (defScope st) .none kV doc pm an cdv ct), osl⟩)
    (c : PySem.W.codeIn K cdv qual = true) (k : PySem.W.keepIn K (.ref f) = true) : Fun K x qual st f (PySem.W.fnOf x qual (defArgs st) (defBody st) (defScope st) .none kV doc pm an cdv ct) := ⟨⟨oc, od, kV, doc, pm, an, cdv, ct, osl, rfl, l, c⟩, k⟩
end
section
variable {X : Cx}
theorem pv (i : Nat) {x : Str} {pos : Pos} (hN : X.N[i]? = some x := by rfl) (hv : Vis X.env.scope x := by first | exact Or.inl rfl | exact Or.inr (Or.inl rfl) | exact Or.inr (Or.inr rfl)) (hd : (x == ("__debug__" : Str)) = false := by decide)
    (hcd : (x == ("__classdict__" : Str)) = false := by decide) : PE X (.Name x pos) (tVar i) := pe_var hN hv hd hcd
end
theorem iteF {A B : Prop} (h : B) : if false = true then A else B := by
  rw [if_neg Bool.false_ne_true]
  exact h
theorem iteT {A B : Prop} (h : A) : if true = true then A else B := by
  rw [if_pos rfl]
  exact h
theorem ite2 {c A B : Prop} [Decidable c] (h1 : c → A) (h2 : ¬ c → B) : if c then A else B := by
  by_cases h : c
  · rw [if_pos h]
    exact h1 h
  · rw [if_neg h]
    exact h2 h
end L2
namespace L2
open PySem PySem.Spec PyProof.Rows
section
variable {κ : Type} [DecidableEq κ]
end
section
variable {P : Program} {w : World} {H : Hp} {h : Heap} {a : Addr}
end
section
variable {X : Cx} {pins : List (Addr × Obj)} {σ : St} {H : Hp} {s : Shared} {a : Addr} {y v : V} {u r : Value} {o : Option V} {A : Around} {E : Value → Shared → Prop}
theorem Inv.big (I : Inv X pins σ H s) : sysModules < s.heap.objs.size := by
  have h : mainGlobals < s.heap.objs.size := (I.mod.glob.keeps I.bk).lt
  exact Nat.lt_trans (by decide) h
end
section
variable {X : Cx} {pins : List (Addr × Obj)} {σ : St} {H : Hp} {s : Shared} {a : Addr} {kvs : List (Key × V)} {k : Key} {u : Value} {A : Around} {E : Value → Shared → Prop}
end
section
variable {X : Cx} {o i e value : Expr} {pos pos' tpos : Pos} {td ty tv : TE}
end
section
variable {X : Cx} {pos : Pos}
end
structure M1 (X : Cx) (o : Expr) (m : Str) (apos : Pos) (e : Expr) (cpos : Pos) : Prop where
  base : attributeBase o m X.env (eval o X.env) = eval o X.env
  few : ((backTo cpos (starEach [e] X.env)).all (fun x => !x.1) && (backToKw cpos (keywordEach [] X.env)).all (fun x => x.1.isSome)
    && decide (([e] : List Expr).length + ([] : List Keyword).length + (if ([] : List Keyword).isEmpty then 0 else 1) < 30)) = true
  line : (apos.endLine == cpos.line) = true
  trees : backTo cpos (starEach [e] X.env) = [(false, eval e X.env)]
structure M2 (X : Cx) (o : Expr) (m : Str) (apos : Pos) (e f : Expr) (cpos : Pos) : Prop where
  base : attributeBase o m X.env (eval o X.env) = eval o X.env
  few : ((backTo cpos (starEach [e, f] X.env)).all (fun x => !x.1) && (backToKw cpos (keywordEach [] X.env)).all (fun x => x.1.isSome)
    && decide (([e, f] : List Expr).length + ([] : List Keyword).length + (if ([] : List Keyword).isEmpty then 0 else 1) < 30)) = true
  line : (apos.endLine == cpos.line) = true
  trees : backTo cpos (starEach [e, f] X.env) = [(false, eval e X.env), (false, eval f X.env)]
section
variable {X : Cx} {pins : List (Addr × Obj)} {σ : St} {H : Hp} {s : Shared} {a : Addr} {y d : V} {u r : Value} {o : Option V} {A : Around} {E : Value → Shared → Prop}
end
section
variable {X : Cx} {o e f : Expr} {apos cpos : Pos} {td ty tx : TE}
end
section
variable {X : Cx} {pins : List (Addr × Obj)} {σ : St} {H : Hp} {s : Shared} {a : Addr} {kvs : List (Key × V)} {A : Around} {E : Value → Shared → Prop}
end
section
variable {X : Cx} {pins : List (Addr × Obj)} {σ : St} {H : Hp} {s : Shared} {a : Addr} {y : V} {u : Value} {A : Around} {E : Value → Shared → Prop}
end
end L2
namespace L2
open PySem PySem.Spec PyProof.Rows
section
variable {X : Cx}
end
section
variable {κ : Type} [DecidableEq κ]
end
end L2
namespace L2
open PySem PySem.Spec PyProof.Rows
def clOf (env : Env) : List (Str × NameKind) → List (Str × Addr) → List (Str × Addr)
  | [], acc => acc
  | (n, k) :: r, acc => clOf env r (if k == .free then (n, (env.cells.lookup n).getD 0) :: acc else acc)
theorem forIn_cl {env : Env} {f : (Str × NameKind) → List (Str × Addr) → Sem (ForInStep (List (Str × Addr)))}
    (hf : ∀ x cs, (x.2 = .free → ∃ c, env.cells.lookup x.1 = some c) → f x cs = pure (.yield (if x.2 == .free then (x.1, (env.cells.lookup x.1).getD 0) :: cs else cs))) :
    ∀ (l : List (Str × NameKind)) (acc : List (Str × Addr)), (∀ x ∈ l, x.2 = .free → ∃ c, env.cells.lookup x.1 = some c) → forIn l acc f = pure (clOf env l acc)
  | [], acc, _ => by rw [List.forIn_nil]; rfl
  | (n, k) :: r, acc, h => by
    rw [List.forIn_cons, hf (n, k) acc (h _ List.mem_cons_self), pure_bind]
    exact forIn_cl hf r _ fun x hx => h x (List.mem_cons_of_mem _ hx)
theorem closureFor_is {scope : Scope} {env : Env} (h : ∀ x ∈ scope.names, x.2 = .free → ∃ c, env.cells.lookup x.1 = some c) : closureFor scope env = pure (clOf env scope.names []) := by
  unfold closureFor
  have e := forIn_cl (env := env) (f := fun (x : Str × NameKind) (cs : List (Str × Addr)) => (do
      if x.2 == .free then
        let a ← cellOf env x.1
        pure (ForInStep.yield ((x.1, a) :: cs))
      else pure (ForInStep.yield cs))) (fun x cs hx => by
    cases hk : x.2 == NameKind.free with
    | false => simp
    | true =>
      obtain ⟨c, hc⟩ := hx (by simpa using hk)
      simp [cellOf, hc]) scope.names [] h
  first
    | exact (congrArg (· >>= pure) e).trans (by simp)
    | (simp only [bind_pure]; exact e)
    | (rw [← e]; rfl)
theorem cl_sub {env : Env} {x : Str} {c : Addr} : ∀ {l : List (Str × NameKind)} {acc : List (Str × Addr)}, (∀ x ∈ l, x.2 = .free → ∃ c, env.cells.lookup x.1 = some c) → (∀ x c, acc.lookup x = some c → env.cells.lookup x = some c) → (clOf env l acc).lookup x = some c → env.cells.lookup x = some c
  | [], acc, _, ha, h => ha x c h
  | (n, k) :: r, acc, hl, ha, h => by
    refine cl_sub (l := r) (acc := if k == .free then (n, (env.cells.lookup n).getD 0) :: acc else acc) (fun y hy => hl y (List.mem_cons_of_mem _ hy)) (fun y d hd => ?_) h
    cases hk : k == NameKind.free with
    | false => rw [hk] at hd; exact ha y d (by simpa using hd)
    | true =>
      rw [hk, if_pos rfl] at hd
      obtain ⟨e, he⟩ := hl (n, k) List.mem_cons_self (by simpa using hk)
      rw [List.lookup_cons] at hd
      cases hy : y == n with
      | true =>
        rw [hy] at hd
        have yn : y = n := by simpa using hy
        subst yn
        have he : env.cells.lookup y = some e := he
        rw [he] at hd ⊢
        exact hd
      | false =>
        rw [hy] at hd
        exact ha y d hd
theorem cl_acc {env : Env} {x : Str} : ∀ {l : List (Str × NameKind)} {acc : List (Str × Addr)}, (∃ c, acc.lookup x = some c) → ∃ c, (clOf env l acc).lookup x = some c
  | [], _, h => h
  | (n, k) :: r, acc, h => by
    refine cl_acc (l := r) ?_
    cases hk : k == NameKind.free with
    | false => simpa using h
    | true =>
      rw [if_pos rfl, List.lookup_cons]
      cases hy : x == n with
      | true => exact ⟨_, rfl⟩
      | false => exact h
theorem cl_has {env : Env} {x : Str} : ∀ {l : List (Str × NameKind)} {acc : List (Str × Addr)}, l.lookup x = some .free → ∃ c, (clOf env l acc).lookup x = some c
  | [], _, h => by simp at h
  | (n, k) :: r, acc, h => by
    rw [List.lookup_cons] at h
    cases hy : x == n with
    | true =>
      rw [hy] at h
      have hk : k = .free := Option.some.inj h
      subst hk
      refine cl_acc (l := r) ⟨(env.cells.lookup n).getD 0, ?_⟩
      show List.lookup x (if NameKind.free == NameKind.free then (n, (env.cells.lookup n).getD 0) :: acc else acc) = some ((env.cells.lookup n).getD 0)
      rw [if_pos (by rfl), List.lookup_cons, hy]
    | false =>
      rw [hy] at h
      exact cl_has (l := r) h
theorem lookup_relabel {env : Env} {x : Str} : ∀ {l : List (Str × NameKind)},
    (l.map fun (n, k) => if (k == NameKind.free && env.scope.kind == .function && env.kindOf n == some .cell) then (n, NameKind.cell) else (n, k)).lookup x
      = (l.lookup x).map fun k => if (k == NameKind.free && env.scope.kind == .function && env.kindOf x == some .cell) then NameKind.cell else k
  | [] => rfl
  | (n, k) :: r => by
    rw [List.map_cons]
    show List.lookup x ((if (k == NameKind.free && env.scope.kind == .function && env.kindOf n == some .cell) = true then (n, NameKind.cell) else (n, k)) :: _) = _
    cases hy : x == n with
    | true =>
      have yn : x = n := by simpa using hy
      subst yn
      by_cases hc : (k == NameKind.free && env.scope.kind == .function && env.kindOf x == some .cell) = true
      · rw [if_pos hc, List.lookup_cons, List.lookup_cons, hy]; simp only [Option.map_some]; rw [if_pos hc]
      · rw [if_neg hc, List.lookup_cons, List.lookup_cons, hy]; simp only [Option.map_some]; rw [if_neg hc]
    | false =>
      by_cases hc : (k == NameKind.free && env.scope.kind == .function && env.kindOf n == some .cell) = true
      · rw [if_pos hc, List.lookup_cons, List.lookup_cons, hy]; exact lookup_relabel
      · rw [if_neg hc, List.lookup_cons, List.lookup_cons, hy]; exact lookup_relabel
def sel (ix : List (Option Nat)) (σ : St) : St := ix.map fun o => o.bind fun i => (σ[i]?).join
abbrev Cx.comp (X : Cx) (scope : Scope) (N' : List Str) (C : Addr) (s0 : Shared) (H0 : Hp) (ex : List Addr) : Cx :=
  { X with N := N', s₀ := s0, H₀ := H0, env := compEnvC scope (clOf X.env scope.names []) C X.env, outer := X.stack, ex := ex, fn := fun _ => false, pn := [], xe := fun _ _ => False }
structure CompScope (X : Cx) (scope : Scope) (ix : List (Option Nat)) (N' : List Str) : Prop where
  kind : scope.kind = .function
  nocell : ∀ y ∈ scope.names, y.2 ≠ .cell
  nam : ∀ y ∈ scope.names, y.2 = .local → scope.names.lookup y.1 = some .local
  fre : ∀ y ∈ scope.names, y.2 = .free → X.env.scope.names.lookup y.1 = some .cell ∨ X.env.scope.names.lookup y.1 = some .free
  len : ix.length = N'.length
  at_ : ∀ (j i : Nat) (x : Str), ix[j]? = some (some i) → N'[j]? = some x → X.N[i]? = some x ∧ scope.names.lookup x = some .free
section
variable {X : Cx} {scope : Scope} {ix : List (Option Nat)} {N' : List Str} {pins : List (Addr × Obj)} {σ : St} {H : Hp} {s : Shared} {fp : List Addr}
theorem CompScope.cells (S : CompScope X scope ix N') (ok : X.Ok) : ∀ x ∈ scope.names, x.2 = .free → ∃ c, X.env.cells.lookup x.1 = some c := fun x hx hk => ok.has x.1 (S.fre x hx hk)
theorem CompScope.sub (S : CompScope X scope ix N') (ok : X.Ok) {x : Str} {c : Addr} (h : (clOf X.env scope.names []).lookup x = some c) : X.env.cells.lookup x = some c := cl_sub (S.cells ok) (fun _ _ z => by simp at z) h
theorem mem_of_lookupK {x : Str} {k : NameKind} : ∀ {l : List (Str × NameKind)}, l.lookup x = some k → (x, k) ∈ l
  | [], h => by simp at h
  | (n, j) :: r, h => by
    rw [List.lookup_cons] at h
    cases hy : x == n with
    | true =>
      rw [hy] at h
      have yn : x = n := by simpa using hy
      subst yn
      rw [Option.some.inj h]
      exact List.mem_cons_self
    | false =>
      rw [hy] at h
      exact List.mem_cons_of_mem _ (mem_of_lookupK h)
theorem Inv.comp {C : Addr} {h1 : Heap} {tk : Nat} (I : Inv X pins σ H s) (S : CompScope X scope ix N') (hf : ∀ b ∈ fp, FpOk X pins H b) (hlt : ∀ b ∈ fp, b < s.heap.objs.size) (hC : s.heap.objs.size ≤ C)
    (k : ∀ b o, s.heap.get? b = some o → h1.get? b = some o) (hn : h1.Ns C (fun _ => none)) : Inv (X.comp scope N' C s H fp) (X.pn ++ pins) (sel ix σ) H { s with heap := h1, toks := tk } := by
  have sub : ∀ {x : Str} {c : Addr}, (clOf X.env scope.names []).lookup x = some c → X.env.cells.lookup x = some c := fun h => S.sub I.ok h
  refine ⟨⟨I.ok.mod, S.kind, I.ok.glob, I.ok.blt, hC, fun x y c e1 e2 => I.ok.inj x y c (sub e1) (sub e2), fun x hx => ?_, fun _ _ z => (Bool.false_ne_true z).elim, I.ok.hd, I.ok.frames, .inl rfl, fun b hb => ⟨Nat.ne_of_lt (Nat.lt_of_lt_of_le (hlt b hb) hC), fun x c e => (hf b hb).2.2.2.2.1 x c (sub e)⟩, I.bs,
      Nat.le_trans I.ok.bsz I.sz, fun b o e hb => ?_, fun b hb hfs => ?_, I.stack, I.stkFree⟩, rfl, I.bare, Un.kept k, ⟨_, hn, fun i x v e1 e2 e3 => ?_⟩, fun x c e => ?_, I.hok.fresh hC, fun x c e => I.freeC x c (sub e), fun p hp => ?_, I.hok.kept k, ?_⟩
  · have hx : (relabel scope X.env).names.lookup x = some .cell ∨ (relabel scope X.env).names.lookup x = some .free := hx
    have e : (relabel scope X.env).names.lookup x = (scope.names.lookup x).map fun k => if (k == NameKind.free && X.env.scope.kind == .function && X.env.kindOf x == some .cell) then NameKind.cell else k := lookup_relabel
    rw [e] at hx
    cases q : scope.names.lookup x with
    | none => rw [q] at hx; rcases hx with hx | hx <;> simp at hx
    | some kd =>
      cases kd with
      | free => exact cl_has q
      | cell => exact absurd rfl (S.nocell _ (mem_of_lookupK q))
      | _ => rw [q] at hx; rcases hx with hx | hx <;> simp at hx
  · rcases (hf b hb).2.2.2.1 with z | z
    · exact I.ok.noex b o e z
    · exact absurd (Nat.lt_of_lt_of_le (Heap.lt_size e) (Nat.le_trans I.ok.bsz z)) (Nat.lt_irrefl _)
  · rcases List.mem_cons.mp (I.stkSub b hfs) with z | z
    · exact (hf b hb).2.1 z
    · exact (hf b hb).2.2.1 z
  · have e2' : (ix[i]?).map (fun o => o.bind fun i => (σ[i]?).join) = some (some v) := by
      have z : (sel ix σ)[i]? = some (some v) := e2
      unfold sel at z
      rw [List.getElem?_map] at z
      exact z
    cases q : ix[i]? with
    | none => rw [q] at e2'; cases e2'
    | some o =>
      rw [q] at e2'
      cases o with
      | none => cases e2'
      | some j =>
        have e2'' : (σ[j]?).join = some v := Option.some.inj e2'
        have e4 : σ[j]? = some (some v) := by
          cases r : σ[j]? with
          | none => rw [r] at e2''; cases e2''
          | some w => rw [r] at e2''; exact congrArg some e2''
        obtain ⟨n1, n2⟩ := S.at_ i j x q e1
        obtain ⟨m, hm, hl⟩ := I.loc
        have hk := S.fre _ (mem_of_lookupK n2) rfl
        have hv : Vis X.env.scope x := by
          rcases hk with z | z
          · exact .inr (.inl z)
          · exact .inr (.inr z)
        obtain ⟨u, ru, lk⟩ := hl j x v n1 e4 hv
        refine ⟨u, ru, ?_⟩
        have hk' : X.env.kindOf x = some .cell ∨ X.env.kindOf x = some .free := hk
        rcases lk with ⟨z, _⟩ | ⟨_, c, hc, hcell⟩
        · rcases hk' with y | y <;> (rw [y] at z; cases z)
        · obtain ⟨c', hc'⟩ := cl_has (env := X.env) (acc := []) n2
          have := sub hc'
          rw [hc] at this
          cases this
          refine .inr ⟨?_, c, hc', hcell.keeps k⟩
          show (relabel scope X.env).names.lookup x = some .cell ∨ (relabel scope X.env).names.lookup x = some .free
          have e : (relabel scope X.env).names.lookup x = (scope.names.lookup x).map fun k => if (k == NameKind.free && X.env.scope.kind == .function && X.env.kindOf x == some .cell) then NameKind.cell else k := lookup_relabel
          rw [e, n2]
          simp only [Option.map_some]
          split
          · exact .inl rfl
          · exact .inr rfl
  · obtain ⟨v, q⟩ := I.cell x c (sub e)
    exact ⟨v, q.keeps k⟩
  · obtain ⟨e, n, ne, nf, d⟩ := I.pin p (by simpa using hp)
    refine ⟨k _ _ e, n, Nat.ne_of_lt (Nat.lt_of_lt_of_le (Heap.lt_size e) hC), fun z => ?_, d⟩
    rcases List.mem_cons.mp (I.stkSub p.1 z) with y | y
    · exact ne y
    · exact nf y
  · show (sel ix σ).length = N'.length
    unfold sel
    rw [List.length_map]
    exact S.len
end
section
variable {prog : Program} {w : World} {A : Around} {R : Result → Shared → Prop} {s : Shared}
theorem codeAny_compLoop_any {elt target iter : Expr} {ifs : List Expr} {scope : Scope} {pos : Pos} {it acc : Value} {env : Env} (I : Nat → Shared → Prop)
    (turn : ∀ n s, I n s → wpAny (model prog w) A (pyNext it) (fun r s₁ => match r with
      | none => R (.ok .next) s₁
      | some v => wpAny (model prog w) A (letOwnedTupleGo target it v) (fun _ s₁ => wpAny (model prog w) A (assign target env v) (fun _ s₂ =>
          wpAny (model prog w) A (forIn ifs true fun c r => if r = true then do let ok ← isTrue c env (eval c env); pure (ForInStep.yield ok) else pure (ForInStep.yield r)) (fun ok s₃ =>
            if ok = true then wpAny (model prog w) A (eval elt env) (fun x s₄ =>
              wpAny (model prog w) A (call (.builtin "list.append") [acc, x]) (fun _ s₅ => ∃ m, m < n ∧ I m s₅) (fun _ _ => False) s₄) (fun _ _ => False) s₃
            else ∃ m, m < n ∧ I m s₃) (fun _ _ => False) s₂) (fun _ _ => False) s₁) (fun _ _ => False) s₁) (fun _ _ => False) s)
    (n : Nat) (h : I n s) :
    codeAny (model prog w) A (.compLoop (.ListComp elt [⟨target, iter, ifs, 0⟩] scope pos) 0 it acc env) R s := by
  refine codeAny_loop rfl I (fun n s hI => ?_) n h
  show wpAny _ A ((compTurn (.ListComp elt [⟨target, iter, ifs, 0⟩] scope pos) 0 it acc env).onRaise (fun x => do noteFrame x env; theTreesLotGoes x)) _ _ s
  refine wpAny_noted ?_
  rw [compTurn_list]
  refine wpAny_bind (wpAny_standAt (wpAny_bind (wpAny_mono (turn n s hI) (fun r s₁ h₁ => ?_) fun _ _ h' => h'.elim)))
  cases r with
  | none => exact wpAny_pure h₁
  | some v =>
    refine wpAny_bind (wpAny_mono h₁ (fun _ s₁' h₁' => ?_) fun _ _ h' => h'.elim)
    refine wpAny_bind (wpAny_mono h₁' (fun _ s₂ h₂ => wpAny_bind (wpAny_mono h₂ (fun ok s₃ h₃ => ?_) fun _ _ h' => h'.elim)) fun _ _ h' => h'.elim)
    cases ok with
    | false => exact wpAny_pure ⟨rfl, h₃⟩
    | true =>
      exact wpAny_bind (wpAny_bind (wpAny_mono h₃ (fun x s₄ h₄ => wpAny_bind (wpAny_mono h₄ (fun _ s₅ h₅ => wpAny_pure (wpAny_pure ⟨rfl, h₅⟩)) fun _ _ h' => h'.elim)) fun _ _ h' => h'.elim))
end
def PF (X : Cx) (ifs : List Expr) (t : TT) : Prop :=
  ∀ (pins : List (Addr × Obj)) (s : Shared) (σ : St) (H : Hp) (Q : Bool → Hp → Prop), Inv X pins σ H s → t σ H Q →
    wpAny (model X.prog X.w) X.A (forIn ifs true fun c r => if r = true then do let ok ← isTrue c X.env (eval c X.env); pure (ForInStep.yield ok) else pure (ForInStep.yield r)) (TP X pins σ Q) X.xe s
def tNoIf : TT := fun _ H Q => Q true H
theorem pf_nil {X : Cx} : PF X [] tNoIf := fun _ _ _ H _ I h => wpAny_tests_nil ⟨H, I, h⟩
def CompW (ix : List (Option Nat)) (g : TG) (tt : TT) (te : TE) (σ : St) (J : It) (Q : VK) (H : Hp) : Prop :=
  ∃ W : Nat → Nat → List V → St → Hp → Prop, (∃ m, W 0 m [] (sel ix σ) H) ∧ ∀ i m ys σ' H, W i m ys σ' H →
    (J.stop i H ∧ ys.length ≤ sizeLine ∧ ∀ D, H D = none → Q (.ref D) (upd H D (.lst ys))) ∨
    (J.go i H ∧ ys.length < sizeLine ∧ ∀ x H', J.yld i H x H' → g x σ' H' fun σ2 H2 => tt σ2 H2 fun b H3 => if b = true then te σ2 H3 fun y H4 => ∃ m', m' < m ∧ W (i + 1) m' (ys ++ [y]) σ2 H4 else ∃ m', m' < m ∧ W (i + 1) m' ys σ2 H3)
def tComp (ix : List (Option Nat)) (wi : TI) (g : TG) (tt : TT) (te : TE) : TE := fun σ H Q => wi σ H fun J H1 => CompW ix g tt te σ J Q H1
section
variable {X : Cx} {scope : Scope} {ix : List (Option Nat)} {N' : List Str} {pins : List (Addr × Obj)} {σ : St} {H : Hp} {s : Shared} {fp : List Addr} {tg iter elt : Expr} {ifs : List Expr} {pos : Pos} {g : TG} {tt : TT} {te : TE} {J : It} {it : Addr} {tn : Nat → Heap → Prop} {Q : VK}
theorem comp_block {RR : Value → Addr → Result → Shared → Prop} {E : Value → Shared → Prop} (hc : X.calm = true) (S : CompScope X scope ix N') (I : Inv X pins σ H s) (T : Turn X.prog X.w X.K tg J fp it tn) (st : tn 0 s.heap) (hf : ∀ b ∈ fp, FpOk X pins H b)
    (hg : ∀ C s0 H0 ex, PG (X.comp scope N' C s0 H0 ex) tg g) (ht : ∀ C s0 H0 ex, PF (X.comp scope N' C s0 H0 ex) ifs tt) (he : ∀ C s0 H0 ex, PE (X.comp scope N' C s0 H0 ex) elt te)
    (hw : CompW ix g tt te σ J Q H)
    (fin : ∀ D C s' H' m, s.heap.objs.size ≤ C → H' C = none → s'.heap.Ns C m → Inv X pins σ H' s' → Q (.ref D) H' → RR (.ref D) C (.ok .next) s') :
    wpAny (model X.prog X.w) X.A (newList []) (fun acc s₃ => wpAny (model X.prog X.w) X.A (newFunctionEnv scope X.env.globals (clOf X.env scope.names []) [] X.env.qual none .none (some X.env)) (fun cenv s₄ =>
      codeAny (model X.prog X.w) X.A (.compStart (.ListComp elt [⟨tg, iter, ifs, 0⟩] scope pos) 0 (.ref it) acc { cenv with scope := relabel scope X.env }) (RR acc cenv.locals) s₄) E s₃) E s := by
  obtain ⟨W, ⟨m0, w0⟩, turn⟩ := hw
  have hlt : ∀ b ∈ fp, b < s.heap.objs.size := fun b hb => by
    obtain ⟨o, e, _⟩ := T.obj _ _ st b hb
    exact Heap.lt_size e
  refine wpAny_newObj_type (wpAny_newFunctionEnv S.nocell (by intro y hy; simp at hy) (fun h₁ hns₁ hsb₁ => ?_) S.kind)
  dsimp only at hns₁ hsb₁ ⊢
  generalize hH2 : s.heap.push { cls := .type "list", dict := none, data := .seq ([] : List Value).toArray } = H2 at hns₁ hsb₁ ⊢
  have hC : H2.objs.size = s.heap.objs.size + 1 := by rw [← hH2, Heap.size_push]
  have hDC : s.heap.objs.size ≠ H2.objs.size := by rw [hC]; exact Nat.ne_of_lt (Nat.lt_succ_self _)
  have hCle : s.heap.objs.size ≤ H2.objs.size := by rw [hC]; exact Nat.le_succ _
  have below : ∀ b, b < s.heap.objs.size → b ≠ H2.objs.size ∧ b ≠ s.heap.objs.size := fun b hb => ⟨by rw [hC]; exact Nat.ne_of_lt (Nat.lt_succ_of_lt hb), Nat.ne_of_lt hb⟩
  have old : ∀ b o, s.heap.get? b = some o → h₁.get? b = some o := fun b o e => hsb₁.extBut b o (below b (Heap.lt_size e)).1 (Heap.get?_push_of_some _ (hH2 ▸ Heap.get?_push_of_some _ e))
  have hacc : h₁.get? s.heap.objs.size = some { cls := .type "list", data := .seq ([] : List Value).toArray 0 } := hsb₁.extBut _ _ hDC (Heap.get?_push_of_some _ (hH2 ▸ Heap.get?_push_size _ rfl))
  have hns₁ : h₁.Ns H2.objs.size (fun _ => none) := hns₁
  have stat : ∀ {H' : Hp} {pl : List (Addr × Obj)}, (∀ b ∈ fp, H' b = none) → (∀ p ∈ pl, p.1 ∉ fp) → ∀ b ∈ fp, FpOk (X.comp scope N' H2.objs.size s H fp) (X.pn ++ pins ++ pl) H' b := fun {H' pl} hn hpl b hb => by
    refine ⟨hn b hb, Nat.ne_of_lt (Nat.lt_of_lt_of_le (hlt b hb) hCle), fun z => ?_, .inl hb, fun x c e => (hf b hb).2.2.2.2.1 x c (S.sub I.ok e), fun p hp => ?_⟩
    · rcases List.mem_cons.mp (I.stkSub b z) with y | y
      · exact (hf b hb).2.1 y
      · exact (hf b hb).2.2.1 y
    · rcases List.mem_append.mp (show p ∈ X.pn ++ pins ++ pl by simpa using hp) with z | z
      · exact (hf b hb).2.2.2.2.2 p z
      · intro q
        exact hpl p z (q ▸ hb)
  have loop : ∀ s₃ : Shared, s₃ = { s with heap := h₁, toks := s.toks + ([] : List (Str × Value)).length } →
      codeAny (model X.prog X.w) X.A (.compLoop (.ListComp elt [⟨tg, iter, ifs, 0⟩] scope pos) 0 (.ref it) (.ref s.heap.objs.size) (compEnvC scope (clOf X.env scope.names []) H2.objs.size X.env))
        (RR (.ref s.heap.objs.size) H2.objs.size) s₃ := by
    rintro s₃ rfl
    refine codeAny_compLoop_any (fun n s' => ∃ (i : Nat) (ys : List V) (us : List Value) (k : Nat) (σ' : St) (H' : Hp), Inv (X.comp scope N' H2.objs.size s H fp) (X.pn ++ pins) σ' H' s' ∧ tn i s'.heap ∧ (∀ b ∈ fp, H' b = none) ∧ H' s.heap.objs.size = none ∧
      s'.heap.get? s.heap.objs.size = some { cls := .type "list", data := .seq us.toArray k } ∧ Vals ys us ∧ ys.length ≤ sizeLine ∧ W i n ys σ' H') ?_ m0
      ⟨0, [], [], 0, sel ix σ, H, I.comp S hf hlt hCle old hns₁, T.keep _ _ _ st fun b _ o e => old b o e, fun b hb => (hf b hb).1, I.hok.fresh (Nat.le_refl _), hacc, .nil, Nat.zero_le _, w0⟩
    rintro n s' ⟨i, ys, us, k, σ', H', I', st', fr', hD', ho', rv', hz', w'⟩
    have cellD : ∀ x c, (X.comp scope N' H2.objs.size s H fp).env.cells.lookup x = some c → c ≠ s.heap.objs.size := fun x c e => by
      obtain ⟨v, q⟩ := I.cell x c (S.sub I.ok e)
      exact Nat.ne_of_lt q.lt
    have pinD : ∀ p ∈ X.pn ++ pins, p.1 ≠ s.heap.objs.size := fun p hp => Nat.ne_of_lt (Heap.lt_size (I.pin p hp).1)
    have dfs : s.heap.objs.size ∉ (X.comp scope N' H2.objs.size s H fp).fs := fun z => by
      rcases List.mem_cons.mp (I.stkSub _ z) with y | y
      · exact absurd I.lt (by rw [← y]; exact Nat.lt_irrefl _)
      · exact I.nofs (Nat.le_refl _) y
    have dfp : s.heap.objs.size ∉ fp := fun z => absurd (hlt _ z) (Nat.lt_irrefl _)
    have IpD : Inv (X.comp scope N' H2.objs.size s H fp) (X.pn ++ pins ++ [(s.heap.objs.size, { cls := .type "list", data := .seq us.toArray k })]) σ' H' s' := I'.pins_of fun p hp => by
      rcases List.mem_append.mp hp with z | z
      · exact I'.pin p (List.mem_append_right _ z)
      · have e : p = (s.heap.objs.size, { cls := .type "list", data := .seq us.toArray k }) := by simpa using z
        subst e
        exact ⟨ho', hD', hDC, dfs, fun v z => by cases z⟩
    have pfp : ∀ p ∈ [((s.heap.objs.size, { cls := .type "list", data := .seq us.toArray k }) : Addr × Obj)], p.1 ∉ fp := fun p hp => by
      have e : p = (s.heap.objs.size, { cls := .type "list", data := .seq us.toArray k }) := by simpa using hp
      subst e
      exact dfp
    rcases turn i n ys σ' H' w' with ⟨stop, hz, q⟩ | ⟨go, hz, step⟩
    · refine wpAny_mono (T.done (X.comp scope N' H2.objs.size s H fp) rfl rfl rfl hc i _ s' σ' H' (fun _ _ => False) IpD (stat fr' pfp) st' stop) (fun r s1 ⟨hr, I1⟩ => ?_) fun _ _ z => z
      subst hr
      show RR _ _ _ _
      have ho1 : s1.heap.get? s.heap.objs.size = some { cls := .type "list", data := .seq us.toArray k } := (I1.pin (s.heap.objs.size, { cls := .type "list", data := .seq us.toArray k }) (by simp)).1
      obtain ⟨m, hnC, _⟩ := id I1.loc
      refine fin _ _ s1 (upd H' s.heap.objs.size (.lst ys)) m hCle (by rw [upd_ne (Ne.symm hDC)]; exact I1.free) hnC ?_ (q _ hD')
      have nD : ∀ b o, s.heap.get? b = some o → b ≠ s.heap.objs.size := fun b o e => (below b (Heap.lt_size e)).2
      have hD0 : H s.heap.objs.size = none := I.hok.fresh (Nat.le_refl _)
      refine I.call' (s' := s1) (ch := fp) I1.os ⟨fun b o e n1 n2 n3 => ?_, fun b o e n1 n2 n3 => ?_, fun b o e n1 n2 => ?_, fun b o e n1 => ?_, fun b xs e => ?_, fun b o u e => ?_, fun b ps e => ?_⟩ (fun b u e => ?_) I1.bare fun b hb => ⟨(hf b hb).2.2.2.1, (hf b hb).2.1, (hf b hb).2.2.2.2.1, (hf b hb).2.2.2.2.2⟩
      · exact I1.base.keep b o e n1 n2 n3
      · exact I1.base.slot b o e n1 n2 n3
      · rw [upd_ne (nD b o e)]
        exact I1.base.free b o e n1 n2
      · exact I1.base.there b o e n1
      · rw [upd_ne (ne_of_none e hD0)]
        exact I1.base.tups b xs e
      · rw [upd_ne (ne_of_none e hD0)]
        exact I1.base.frzs b o u e
      · obtain ⟨more, z⟩ := I1.base.tbls b ps e
        exact ⟨more, by rw [upd_ne (ne_of_none e hD0)]; exact z⟩
      · by_cases hb : b = s.heap.objs.size
        · subst hb
          rw [upd_same] at e
          cases e
          exact ⟨hz, us, k, rv', ho1⟩
        · rw [upd_ne hb] at e
          exact (I1.hok b u e).stay (fun c v _ z => z) (fun c z => by rw [upd_ne (ne_of_none z hD')]; exact z) (fun c xs z => by rw [upd_ne (ne_of_none z hD')]; exact z)
    · refine wpAny_mono (T.item (X.comp scope N' H2.objs.size s H fp) rfl rfl rfl hc i _ s' σ' H' (fun _ _ => False) IpD (stat fr' pfp) st' go) (fun r s1 ⟨v, hr, h4⟩ => ?_) fun _ _ z => z
      subst hr
      show wpAny _ _ (letOwnedTupleGo tg (.ref it) v) _ _ s1
      refine wpAny_mono h4 (fun _ s2 ⟨x, H5, I5, r5, y5, st5, fr5⟩ => ?_) fun _ _ z => z
      have I5' := I5.pinned (stat fr5 pfp) (T.obj _ _ st5)
      refine wpAny_mono (hg H2.objs.size s H fp _ s2 σ' H5 x v _ I5' r5 (step x H5 y5)) (fun _ s3 ⟨σ6, H6, I6, q6⟩ => ?_) fun _ _ z => z
      refine wpAny_mono (ht H2.objs.size s H fp _ s3 σ6 H6 _ I6 q6) (fun ok s4 ⟨H7, I7, q7⟩ => ?_) fun _ _ z => z
      have facts : ∀ {σ7 : St} {H7 : Hp} {s7 : Shared}, Inv (X.comp scope N' H2.objs.size s H fp) (X.pn ++ pins ++ [(s.heap.objs.size, { cls := .type "list", data := .seq us.toArray k })] ++ pinsAt fp s2.heap) σ7 H7 s7 →
          tn (i + 1) s7.heap ∧ (∀ b ∈ fp, H7 b = none) ∧ H7 s.heap.objs.size = none ∧ s7.heap.get? s.heap.objs.size = some { cls := .type "list", data := .seq us.toArray k } := fun {σ7 H7 s7} K7 => by
        have pd := K7.pin (s.heap.objs.size, { cls := .type "list", data := .seq us.toArray k }) (by simp)
        refine ⟨T.keep _ _ _ st5 fun b hb o e => (K7.pin (b, o) (List.mem_append_right _ (List.mem_append_right _ (mem_pinsAt hb e)))).1, fun b hb => ?_, pd.2.1, pd.1⟩
        obtain ⟨o, e, d⟩ := T.obj _ _ st5 b hb
        exact (K7.pin (b, o) (List.mem_append_right _ (List.mem_append_right _ (mem_pinsAt hb e)))).2.1
      cases ok with
      | false =>
        rw [if_neg Bool.false_ne_true] at q7 ⊢
        obtain ⟨m', hm, w7⟩ := q7
        obtain ⟨t7, f7, d7, o7⟩ := facts I7
        exact ⟨m', hm, i + 1, ys, us, k, σ6, H7, I7.unpinned.unpinned, t7, f7, d7, o7, rv', hz', w7⟩
      | true =>
        rw [if_pos rfl] at q7 ⊢
        refine wpAny_mono (he H2.objs.size s H fp _ s4 σ6 H7 _ I7 q7) (fun yv s5 ⟨y, H8, I8, r8, m', hm, w8⟩ => ?_) fun _ _ z => z
        obtain ⟨t8, f8, d8, o8⟩ := facts I8
        have hsz : us.toArray.size ≤ sizeLine := by
          rw [List.size_toArray, ← rv'.length]
          exact hz'
        refine append_at (hsz := hsz) o8 fun h' sb od => ?_
        refine ⟨m', hm, i + 1, ys ++ [y], us ++ [yv], k + 1, σ6, H8, ?_, T.keep _ _ _ t8 fun b hb o e => (sb.2 b fun q => dfp (q ▸ hb)).trans e, f8, d8, ?_, rv'.append (.cons r8 .nil), ?_, w8⟩
        · exact I8.unpinned.unpinned.turned (it := s.heap.objs.size) (t' := s5.toks) (fun b o hb e => (sb.2 b hb).trans e) d8 hDC (.inr (Nat.le_refl _)) cellD (by simpa using pinD)
        · rw [od, List.push_toArray]
        · rw [List.length_append, List.length_singleton]
          exact hz
  exact codeAny_compStart_list (loop _ rfl) (T.self _ 0 _ _ _ (T.keep _ _ _ st fun b _ o e => old b o e) (loop _ rfl))
theorem Inv.letGo {C : Addr} {s' : Shared} {H' : Hp} {σ' : St} {h' : Heap} (I : Inv X pins σ H s) (I' : Inv X pins σ' H' s') (hC : s.heap.objs.size ≤ C) (hn : H' C = none) (hs : Heap.SameBut C s'.heap h') : Inv X pins σ' H' { s' with heap := h' } :=
  I'.turned (t' := s'.toks) (it := C) (fun b o hb e => (hs.2 b hb).trans e) hn (fun z => absurd (Nat.lt_of_lt_of_le I.lt hC) (by rw [z]; exact Nat.lt_irrefl _)) (.inr (Nat.le_trans I.sz hC))
    (fun x c e z => by
      obtain ⟨v, r⟩ := I.cell x c e
      exact absurd (Nat.lt_of_lt_of_le r.lt hC) (by rw [z]; exact Nat.lt_irrefl _))
    (fun p hp z => absurd (Nat.lt_of_lt_of_le (Heap.lt_size (I.pin p hp).1) hC) (by rw [z]; exact Nat.lt_irrefl _))
theorem pe_comp {wi : TI} (hc : X.calm = true) (S : CompScope X scope ix N') (hi : PI X tg iter wi) (hg : ∀ C s0 H0 ex, PG (X.comp scope N' C s0 H0 ex) tg g) (ht : ∀ C s0 H0 ex, PF (X.comp scope N' C s0 H0 ex) ifs tt) (he : ∀ C s0 H0 ex, PE (X.comp scope N' C s0 H0 ex) elt te)
    (hs : ∀ x, foldedSetIterable iter X.env x = pure x := by intro _; rfl) : PE X (.ListComp elt [⟨tg, iter, ifs, 0⟩] scope pos) (tComp ix wi g tt te) := by
  intro pins s σ H Q I h
  rw [eval_ListComp]
  refine wpAny_comprehension_free (use := none) rfl hs (closureFor_is (S.cells I.ok)) S.kind S.nam (wpAny_mono (hi pins s σ H _ I h) (fun xv s₁ h₁ => wpAny_mono h₁ (fun itv s₂ h₂ => ?_) fun _ _ e => e) fun _ _ e => e)
  obtain ⟨it, fp, tn, J, H2, e, I2, T, st2, f2, hw⟩ := h₂
  subst e
  refine comp_block (RR := fun acc C => compPost (model X.prog X.w) X.A X.xe none (EP X pins σ Q) acc C) hc S I2 T st2 f2 hg ht he hw fun D C s' H' m hCs hCn hn I3 q => ?_
  exact ⟨m, hn, fun h' hs' => ⟨.ref D, _, I2.letGo I3 hCs hCn hs', rfl, q⟩⟩
theorem ps_setComp {wi : TI} {i : Nat} {x : Str} {px spos : Pos} (hN : X.N.Nodup) (hix : X.N[i]? = some x) (hx : Loc X.env.scope x) (hc : X.calm = true) (S : CompScope X scope ix N') (hi : PI X tg iter wi) (hg : ∀ C s0 H0 ex, PG (X.comp scope N' C s0 H0 ex) tg g) (ht : ∀ C s0 H0 ex, PF (X.comp scope N' C s0 H0 ex) ifs tt)
    (he : ∀ C s0 H0 ex, PE (X.comp scope N' C s0 H0 ex) elt te) (hsw : swapsWith (.ListComp elt [⟨tg, iter, ifs, 0⟩] scope pos) (some (.Name x px)) spos.line X.env = pure true)
    (hf : X.fn x = true ∨ X.env.scope.names.lookup x = some .local := by first | exact .inl rfl | exact .inr rfl | assumption) (hs : ∀ x, foldedSetIterable iter X.env x = pure x := by intro _; rfl) :
    PS X (.Assign [.Name x px] (.ListComp elt [⟨tg, iter, ifs, 0⟩] scope pos) spos) (tAsg (tComp ix wi g tt te) (gName i)) := by
  intro pins s σ H D I h
  rw [exec_Assign_Name_used _ _ _ _ hsw]
  refine wpAny_bind (wpAny_standAt (wpAny_bind ?_))
  show wpAny _ X.A (do let _ ← comprehension (.ListComp elt [⟨tg, iter, ifs, 0⟩] scope pos) scope X.env _ (newList []) false (eval iter X.env) (some (assign (.Name x px) X.env))) _ _ s
  refine wpAny_bind (wpAny_mono (wpAny_comprehension_free (use := some (assign (.Name x px) X.env)) (Q := fun _ s' => SP X pins D .next s') rfl hs (closureFor_is (S.cells I.ok)) S.kind S.nam
    (wpAny_mono (hi pins s σ H _ I h) (fun xv s₁ h₁ => wpAny_mono h₁ (fun itv s₂ h₂ => ?_) fun _ _ e => e) fun _ _ e => e)) (fun _ s' hq => wpAny_pure (wpAny_pure hq)) fun _ _ e => e)
  obtain ⟨it, fp, tn, J, H2, e, I2, T, st2, f2, hw⟩ := h₂
  subst e
  refine comp_block (RR := fun acc C => compPost (model X.prog X.w) X.A X.xe (some (assign (.Name x px) X.env)) (fun _ s' => SP X pins D .next s') acc C) hc S I2 T st2 f2 hg ht he hw fun Da C s' H' m hCs hCn hn I3 q => ?_
  show wpAny _ X.A (assign (.Name x px) X.env (.ref Da)) _ _ _
  refine wpAny_assign_Name (store_ok2 I3 hN hix hx (v := .ref Da) rfl (fun s4 I4 ⟨a, sb, ha⟩ => ?_) hf)
  have ca : C ≠ a := fun z => by
    rcases ha with y | y
    · exact absurd (Nat.lt_of_lt_of_le I2.lt hCs) (by rw [z, y]; exact Nat.lt_irrefl _)
    · obtain ⟨v, r⟩ := I2.cell x a y
      exact absurd (Nat.lt_of_lt_of_le r.lt hCs) (by rw [z]; exact Nat.lt_irrefl _)
  exact ⟨m, hn.sameBut sb ca, fun h' hs' => ⟨_, H', I2.letGo I4 hCs hCn hs', q⟩⟩
end
end L2
namespace L2
open PySem PySem.Spec PyProof.Rows
section
variable {prog : Program} {w : World} {A : Around} {E : Value → Shared → Prop}
end
end L2
namespace L2
open PySem PySem.Spec PyProof.Rows
section
variable {prog : Program} {w : World} {A : Around} {E : Value → Shared → Prop} {R : Result → Shared → Prop} {κ : Type} [DecidableEq κ] {knd : PySem.KeyKind prog w κ}
  {I : Addr} {fp wr : List Addr} {G : Array GenState → Array GenState → Prop} {P : Nat → Value → Prop} {St : Nat → Shared → Prop}
end
end L2
namespace L2
open PySem PySem.Spec PyProof.Rows
section
variable {prog : Program} {w : World} {A : Around} {E : Value → Shared → Prop} {κ : Type} [DecidableEq κ] {knd : PySem.KeyKind prog w κ} {s : Shared}
end
end L2
namespace L2
open PySem PySem.Spec PyProof.Rows
section
variable {prog : Program} {w : World} {A : Around} {E : Value → Shared → Prop} {R : Result → Shared → Prop} {κ : Type} [DecidableEq κ] [BEq κ] [LawfulBEq κ] {knd : PySem.KeyKind prog w κ}
  {I : Addr} {fp wr : List Addr} {G : Array GenState → Array GenState → Prop} {P : Nat → Value → Prop} {St : Nat → Shared → Prop}
end
section
variable {prog : Program} {w : World} {A : Around} {E : Value → Shared → Prop} {κ : Type} [DecidableEq κ] [BEq κ] [LawfulBEq κ] {knd : PySem.KeyKind prog w κ} {s : Shared}
end
section
variable {prog : Program} {w : World} {A : Around} {E : Value → Shared → Prop} {κ : Type} [DecidableEq κ] [BEq κ] [LawfulBEq κ] {knd : PySem.KeyKind prog w κ} {s : Shared}
end
end L2
namespace HT
open PySem PyProof.Rows
section
variable {prog : Program} {w : World} {A : Around} {E : Value → Shared → Prop} {s : Shared}
theorem getItem_tuple_all {t sl : Addr} {items : Array Value} {vl vu : Value} {lo hi : Option Int} {Q : Value → Shared → Prop} (ht : IsTup s.heap t items) (hs : s.heap.IsSliceOf sl vl vu .none) (pl : IsPart vl lo) (pu : IsPart vu hi)
    (hw : sIx items.size 0 lo = 0 ∧ sIx items.size items.size hi = items.size) (h : Q (.ref t) s) : wpAny (model prog w) A (getItem (.ref t) (.ref sl)) Q E s := by
  obtain ⟨os, hos, hcs, hds⟩ := id hs
  have hTs : s.TypeIs (.ref sl) "slice" := ⟨os, hos, hcs⟩
  unfold getItem
  try with_reducible refine wpAny_holding ?_
  first | refine wpAny_bind (wpAny_pure ?_) | skip
  refine wpAny_bind (wpAny_sequenceKey ht.typeIs (by decide) ?_)
  refine wpAny_bind (wpAny_callSpecial?_slot (name := Str.ofString "__getitem__") ht.typeIs PyProof.Rows.slot_tuple_getitem (wpAny_call_entry PyProof.Rows.slot_tuple_getitem ht.typeIs entry_tuple_getitem ?_ (args_tuple_getitem _ _)))
  show wpAny _ _ (Builtin.Tuple.tupleItemsOf (.ref t) >>= _) _ _ s
  refine wpAny_bind (tupleItemsOf_ ht ?_)
  refine wpAny_bind (wpAny_typeOf hTs ?_)
  rw [if_pos (by decide)]
  refine wpAny_bind (sliceApplied_gen hs pl pu ?_)
  have yes : (((sIx items.size 0 lo : Nat) : Int) == 0 && (1 : Int) == 1 && (sIx items.size items.size hi - sIx items.size 0 lo) == items.size) = true := by
    rw [hw.1, hw.2]
    simp
  show wpAny _ _ (if (((sIx items.size 0 lo : Nat) : Int) == 0 && (1 : Int) == 1 && (sIx items.size items.size hi - sIx items.size 0 lo) == items.size) = true then _ else _) _ _ s
  rw [if_pos yes]
  have hT := ht.typeIs
  obtain ⟨hp, g, d, tk, o⟩ := s
  repeat (any_goals (first | assumption | wp_step))
  exact ⟨_, rfl, wpAny_pure h⟩
end
end HT
namespace L2
open PySem PySem.Spec PyProof.Rows
section
variable {X : Cx} {p p2 pos pos2 : Pos} {e : Expr} {te : TE}
def rSlA (K : PySem.W.Frag) : V → Option Int → Option Int → Hp → VK → Prop := fun x lo hi H Q => ∃ a xs, x = .ref a ∧ SqT K H a xs ∧ (HT.sIx xs.length 0 lo = 0 ∧ HT.sIx xs.length xs.length hi = xs.length) ∧ Q (.ref a) H
theorem sl_all : SlR X (rSlA X.K) := by
  intro pins s σ H x v vl vu lo hi sl Q I rx hs pl pu h
  obtain ⟨a, xs, rfl, hx, hw, q⟩ := h
  cases rx
  obtain ⟨its, r, ht, hz⟩ := I.tuple hx
  have hlen : its.toArray.size = xs.length := by rw [List.size_toArray]; exact r.length.symm
  exact ⟨"tuple", _, PyProof.Rows.slot_tuple_getitem.lookup, ht.typeIs, HT.getItem_tuple_all ht hs pl pu (by rw [hlen]; exact hw) ⟨.ref a, H, I, rfl, q⟩⟩
local instance (priority := 5000) keyBEq : BEq Key := instBEqOfDecidableEq
local instance (priority := 5000) keyLaw : LawfulBEq Key := inferInstanceAs (LawfulBEq (Sum Int Str))
end
section
variable {X : Cx} {pins : List (Addr × Obj)} {σ : St} {H : Hp} {s : Shared}
end
section
variable {X : Cx}
end
end L2
namespace L2
open PySem PySem.Spec PyProof.Rows
section
variable {prog : Program} {w : World} {A : Around} {E : Value → Shared → Prop} {s : Shared} {a : Addr} {δ : Type} {R : δ → Value → Prop} {D : List (Str × δ)} {k : Str} {tk : Tok}
end
section
variable {X : Cx} {x : Str} {F : List (Str × List Str)}
end
section
variable {X : Cx} {tg : Expr}
end
end L2
namespace L3
open PySem PySem.Spec PyProof.Rows L2
inductive D where
  | non | bl (b : Bool) | int (i : Int) | str (x : Str) | tup (ds : List D) | ref (a : Addr) | ty (n : String)
  | rl (ds : List D)
def RoL (K : PySem.W.Frag) (H : Hp) (a : Addr) (xs : List V) : Prop := (∃ o, H a = some (.frz o (.lst xs))) ∨
  ∃ (o : Obj) (its : Array Value) (n : Nat), K.lookup a = some o ∧ o.cls = .type "list" ∧ o.dict = none ∧ o.data = .seq its n ∧ its.size ≤ sizeLine ∧ Vals xs its.toList
theorem RoL.sq {K : PySem.W.Frag} {H : Hp} {a : Addr} {xs : List V} (h : RoL K H a xs) : SqL K H a xs := by
  rcases h with ⟨o, h⟩ | h
  · exact .inl (.inr ⟨o, h⟩)
  · exact .inr h
mutual
def Has (K : PySem.W.Frag) (H : Hp) : D → V → Prop
  | .non, v => v = .non
  | .bl b, v => v = .bl b
  | .int i, v => v = .int i
  | .str x, v => v = .str x
  | .ref a, v => v = .ref a
  | .ty n, v => v = .ty n
  | .tup ds, v => ∃ a xs, v = .ref a ∧ SqT K H a xs ∧ HasL K H ds xs
  | .rl ds, v => ∃ a xs, v = .ref a ∧ RoL K H a xs ∧ HasL K H ds xs
def HasL (K : PySem.W.Frag) (H : Hp) : List D → List V → Prop
  | [], xs => xs = []
  | d :: ds, xs => ∃ x r, xs = x :: r ∧ Has K H d x ∧ HasL K H ds r
end
structure ExtT (K : PySem.W.Frag) (H H' : Hp) : Prop where
  t : ∀ a xs, SqT K H a xs → SqT K H' a xs
  f : ∀ a o xs, H a = some (.frz o (.lst xs)) → H' a = some (.frz o (.lst xs))
theorem ExtT.refl {K : PySem.W.Frag} {H : Hp} : ExtT K H H := ⟨fun _ _ h => h, fun _ _ _ h => h⟩
theorem ExtT.trans {K : PySem.W.Frag} {H H1 H2 : Hp} (a : ExtT K H H1) (b : ExtT K H1 H2) : ExtT K H H2 := ⟨fun c xs h => b.t c xs (a.t c xs h), fun c o xs h => b.f c o xs (a.f c o xs h)⟩
theorem ExtT.upd {K : PySem.W.Frag} {H : Hp} {p : Addr} {o : HO} (h : ∀ xs, ¬ Rd H p (.tup xs)) (h' : ∀ u xs, H p ≠ some (.frz u (.lst xs))) : ExtT K H (upd H p o) := ⟨fun a xs q => by
  rcases q with q | q
  · have ne : a ≠ p := fun z => h xs (z ▸ q)
    rcases q with q | ⟨u, q⟩
    · exact .inl (.inl (by rw [upd_ne ne]; exact q))
    · exact .inl (.inr ⟨u, by rw [upd_ne ne]; exact q⟩)
  · exact .inr q, fun a u xs q => by
  have ne : a ≠ p := fun z => h' u xs (z ▸ q)
  rw [upd_ne ne]
  exact q⟩
theorem ExtT.new {K : PySem.W.Frag} {H : Hp} {p : Addr} {o : HO} (h : H p = none) : ExtT K H (L2.upd H p o) := .upd (fun xs q => by
  rcases q with q | ⟨u, q⟩ <;> (rw [h] at q; cases q)) fun u xs q => by rw [h] at q; cases q
theorem RoL.mono {K : PySem.W.Frag} {H H' : Hp} {a : Addr} {xs : List V} (e : ExtT K H H') (h : RoL K H a xs) : RoL K H' a xs := by
  rcases h with ⟨o, h⟩ | h
  · exact .inl ⟨o, e.f a o xs h⟩
  · exact .inr h
mutual
theorem Has.mono {K : PySem.W.Frag} {H H' : Hp} (e : ExtT K H H') : ∀ {d : D} {v : V}, Has K H d v → Has K H' d v
  | .non, _, h => h
  | .bl _, _, h => h
  | .int _, _, h => h
  | .str _, _, h => h
  | .ref _, _, h => h
  | .ty _, _, h => h
  | .tup ds, v, h => by
    unfold Has at h ⊢
    obtain ⟨a, xs, e1, e2, e3⟩ := h
    exact ⟨a, xs, e1, e.t _ _ e2, HasL.mono e e3⟩
  | .rl ds, v, h => by
    unfold Has at h ⊢
    obtain ⟨a, xs, e1, e2, e3⟩ := h
    exact ⟨a, xs, e1, e2.mono e, HasL.mono e e3⟩
theorem HasL.mono {K : PySem.W.Frag} {H H' : Hp} (e : ExtT K H H') : ∀ {ds : List D} {xs : List V}, HasL K H ds xs → HasL K H' ds xs
  | [], _, h => h
  | d :: ds, xs, h => by
    unfold HasL at h ⊢
    obtain ⟨x, r, e1, e2, e3⟩ := h
    exact ⟨x, r, e1, Has.mono e e2, HasL.mono e e3⟩
end
section
variable {K : PySem.W.Frag} {H H' : Hp}
theorem HasL.nil : HasL K H [] [] := by unfold HasL; rfl
theorem HasL.cons {d : D} {ds : List D} {x : V} {xs : List V} (a : Has K H d x) (b : HasL K H ds xs) : HasL K H (d :: ds) (x :: xs) := by unfold HasL; exact ⟨x, xs, rfl, a, b⟩
theorem HasL.inv {d : D} {ds : List D} {xs : List V} (h : HasL K H (d :: ds) xs) : ∃ x r, xs = x :: r ∧ Has K H d x ∧ HasL K H ds r := by unfold HasL at h; exact h
theorem HasL.nil_inv {xs : List V} (h : HasL K H [] xs) : xs = [] := by unfold HasL at h; exact h
theorem HasL.length : ∀ {ds : List D} {xs : List V}, HasL K H ds xs → ds.length = xs.length
  | [], _, h => by rw [h.nil_inv]; rfl
  | d :: ds, _, h => by
    obtain ⟨x, r, rfl, _, e⟩ := h.inv
    simp [HasL.length e]
theorem HasL.get : ∀ {ds : List D} {xs : List V} {i : Nat} {d : D}, HasL K H ds xs → ds[i]? = some d → ∃ x, xs[i]? = some x ∧ Has K H d x
  | [], _, _, _, _, e => by simp at e
  | d :: ds, _, 0, _, h, e => by
    obtain ⟨x, r, rfl, a, _⟩ := h.inv
    simp at e
    subst e
    exact ⟨x, by simp, a⟩
  | d :: ds, _, i + 1, _, h, e => by
    obtain ⟨x, r, rfl, _, b⟩ := h.inv
    obtain ⟨y, e1, e2⟩ := HasL.get b (by simpa using e)
    exact ⟨y, by simpa using e1, e2⟩
theorem HasL.append : ∀ {ds es : List D} {xs ys : List V}, HasL K H ds xs → HasL K H es ys → HasL K H (ds ++ es) (xs ++ ys)
  | [], _, _, _, h, g => by rw [h.nil_inv]; exact g
  | d :: ds, _, _, _, h, g => by
    obtain ⟨x, r, rfl, a, b⟩ := h.inv
    exact .cons a (HasL.append b g)
theorem HasL.take : ∀ {ds : List D} {xs : List V} (n : Nat), HasL K H ds xs → HasL K H (ds.take n) (xs.take n)
  | _, _, 0, _ => by simp only [List.take_zero]; exact .nil
  | [], _, n + 1, h => by rw [h.nil_inv]; exact .nil
  | d :: ds, _, n + 1, h => by
    obtain ⟨x, r, rfl, a, b⟩ := h.inv
    exact .cons a (HasL.take n b)
theorem HasL.drop : ∀ {ds : List D} {xs : List V} (n : Nat), HasL K H ds xs → HasL K H (ds.drop n) (xs.drop n)
  | _, _, 0, h => h
  | [], _, n + 1, h => by rw [h.nil_inv]; exact .nil
  | d :: ds, _, n + 1, h => by
    obtain ⟨x, r, rfl, a, b⟩ := h.inv
    exact HasL.drop n b
theorem HasL.snoc {ds : List D} {xs : List V} {d : D} {x : V} (h : HasL K H ds xs) (a : Has K H d x) : HasL K H (ds ++ [d]) (xs ++ [x]) := h.append (.cons a .nil)
theorem HasL.ints : ∀ {ns : List Int}, HasL K H (ns.map D.int) (ns.map V.int)
  | [] => .nil
  | n :: r => .cons (by unfold Has; rfl) HasL.ints
theorem Has.tup {ds : List D} {a : Addr} {xs : List V} (q : SqT K H a xs) (h : HasL K H ds xs) : Has K H (.tup ds) (.ref a) := by unfold Has; exact ⟨a, xs, rfl, q, h⟩
theorem Has.tup_inv {ds : List D} {v : V} (h : Has K H (.tup ds) v) : ∃ a xs, v = .ref a ∧ SqT K H a xs ∧ HasL K H ds xs := by unfold Has at h; exact h
theorem Has.rl_inv {ds : List D} {v : V} (h : Has K H (.rl ds) v) : ∃ a xs, v = .ref a ∧ RoL K H a xs ∧ HasL K H ds xs := by unfold Has at h; exact h
theorem Has.int {i : Int} : Has K H (.int i) (.int i) := by unfold Has; rfl
theorem Has.bl {i : Bool} : Has K H (.bl i) (.bl i) := by unfold Has; rfl
theorem Has.str {i : Str} : Has K H (.str i) (.str i) := by unfold Has; rfl
theorem Has.ref {i : Addr} : Has K H (.ref i) (.ref i) := by unfold Has; rfl
theorem Has.non : Has K H .non .non := by unfold Has; rfl
theorem Has.int_inv {i : Int} {v : V} (h : Has K H (.int i) v) : v = .int i := by unfold Has at h; exact h
theorem Has.bl_inv {i : Bool} {v : V} (h : Has K H (.bl i) v) : v = .bl i := by unfold Has at h; exact h
theorem Has.str_inv {i : Str} {v : V} (h : Has K H (.str i) v) : v = .str i := by unfold Has at h; exact h
theorem Has.ref_inv {i : Addr} {v : V} (h : Has K H (.ref i) v) : v = .ref i := by unfold Has at h; exact h
theorem Has.ty_inv {i : String} {v : V} (h : Has K H (.ty i) v) : v = .ty i := by unfold Has at h; exact h
theorem Has.non_inv {v : V} (h : Has K H .non v) : v = .non := by unfold Has at h; exact h
end
inductive Cell where
  | lst (ds : List D)
  | ins (C : Addr) (fs : List (Str × D))
  | dk (kvs : List (Key × D))
abbrev Mp := Addr → Option Cell
def updM (M : Mp) (a : Addr) (c : Cell) : Mp := fun b => if b = a then some c else M b
theorem updM_same {M : Mp} {a : Addr} {c : Cell} : updM M a c a = some c := by unfold updM; rw [if_pos rfl]
theorem updM_ne {M : Mp} {a b : Addr} {c : Cell} (h : b ≠ a) : updM M a c b = M b := by unfold updM; rw [if_neg h]
theorem updM_updM {M : Mp} {a : Addr} {c d : Cell} : updM (updM M a c) a d = updM M a d := by
  funext b; unfold updM; split <;> rfl
theorem neM {M : Mp} {a b : Addr} {c : Cell} (h : M a = some c) (h' : M b = none) : a ≠ b := by
  intro e; subst e; rw [h] at h'; cases h'
def FldOk (K : PySem.W.Frag) (H : Hp) (fs : List (Str × D)) (vs : List (Str × V)) : Prop := vs.map (·.1) = fs.map (·.1) ∧ HasL K H (fs.map (·.2)) (vs.map (·.2))
def CellOk (K : PySem.W.Frag) (H : Hp) (a : Addr) : Cell → Prop
  | .lst ds => ∃ xs, H a = some (.lst xs) ∧ HasL K H ds xs
  | .ins C fs => ∃ dx vs, H a = some (.ins C dx vs) ∧ Cls K C ∧ (∀ f, f ∈ fs.map (·.1) → NoAttr K C f) ∧ FldOk K H fs vs
  | .dk kvs => ∃ vs, H a = some (.dK vs) ∧ vs.map (·.1) = kvs.map (·.1) ∧ HasL K H (kvs.map (·.2)) (vs.map (·.2))
def HM (K : PySem.W.Frag) (H : Hp) (M : Mp) : Prop := ∀ a c, M a = some c → CellOk K H a c
section
variable {K : PySem.W.Frag} {H H' : Hp} {M : Mp}
theorem FldOk.mono {fs : List (Str × D)} {vs : List (Str × V)} (e : ExtT K H H') (h : FldOk K H fs vs) : FldOk K H' fs vs := ⟨h.1, h.2.mono e⟩
theorem CellOk.keep {a : Addr} {c : Cell} (e : ExtT K H H') (k : H' a = H a) (h : CellOk K H a c) : CellOk K H' a c := by
  cases c with
  | lst ds => obtain ⟨xs, e1, e2⟩ := h; exact ⟨xs, by rw [k]; exact e1, e2.mono e⟩
  | ins C fs => obtain ⟨dx, vs, e1, c, n, e2⟩ := h; exact ⟨dx, vs, by rw [k]; exact e1, c, n, e2.mono e⟩
  | dk kvs => obtain ⟨vs, e1, e2, e3⟩ := h; exact ⟨vs, by rw [k]; exact e1, e2, e3.mono e⟩
theorem CellOk.there {a : Addr} {c : Cell} (h : CellOk K H a c) : ∃ o, H a = some o ∧ (∀ xs, ¬ Rd H a (.tup xs)) ∧ ∀ u xs, H a ≠ some (.frz u (.lst xs)) := by
  have go : ∀ o, H a = some o → (∀ xs, o ≠ .tup xs) → (∀ u v, o ≠ .frz u v) → ∃ o, H a = some o ∧ (∀ xs, ¬ Rd H a (.tup xs)) ∧ ∀ u xs, H a ≠ some (.frz u (.lst xs)) := fun o e n1 n2 => ⟨o, e, fun xs q => by
    rcases q with q | ⟨u, q⟩
    · rw [e] at q; exact n1 xs (Option.some.inj q)
    · rw [e] at q; exact n2 u _ (Option.some.inj q), fun u xs q => by rw [e] at q; exact n2 u _ (Option.some.inj q)⟩
  cases c with
  | lst ds => obtain ⟨xs, e1, e2⟩ := h; exact go _ e1 (fun _ z => by cases z) fun _ _ z => by cases z
  | ins C fs => obtain ⟨dx, vs, e1, e2⟩ := h; exact go _ e1 (fun _ z => by cases z) fun _ _ z => by cases z
  | dk kvs => obtain ⟨vs, e1, e2, e3⟩ := h; exact go _ e1 (fun _ z => by cases z) fun _ _ z => by cases z
theorem HM.fresh (h : HM K H M) {p : Addr} (n : H p = none) : M p = none := by
  cases e : M p with
  | none => rfl
  | some c =>
    obtain ⟨o, q, _⟩ := (h p c e).there
    rw [n] at q; cases q
theorem HM.keep (h : HM K H M) (e : ExtT K H H') (k : ∀ a c, M a = some c → H' a = H a) : HM K H' M := fun a c q => (h a c q).keep e (k a c q)
theorem HM.add (h : HM K H M) {p : Addr} {o : HO} (n : H p = none) : HM K (upd H p o) M := h.keep (.new n) fun a c q => by
  obtain ⟨u, e, _⟩ := (h a c q).there
  rw [upd_ne (ne_of_none e n)]
theorem HM.new (h : HM K H M) {p : Addr} {o : HO} {c : Cell} (n : H p = none) (ok : CellOk K (upd H p o) p c) : HM K (upd H p o) (updM M p c) := fun a d q => by
  by_cases e : a = p
  · subst e; rw [updM_same] at q; cases q; exact ok
  · rw [updM_ne e] at q
    exact h.add n a d q
theorem HM.put (h : HM K H M) {p : Addr} {o : HO} {c c0 : Cell} (e0 : M p = some c0) (ok : ExtT K H (upd H p o) → CellOk K (upd H p o) p c) : HM K (upd H p o) (updM M p c) ∧ ExtT K H (upd H p o) := by
  obtain ⟨u, eu, nt, nf⟩ := (h p c0 e0).there
  have x : ExtT K H (upd H p o) := .upd nt nf
  refine ⟨fun a d q => ?_, x⟩
  by_cases e : a = p
  · subst e; rw [updM_same] at q; cases q; exact ok x
  · rw [updM_ne e] at q
    exact (h a d q).keep x (upd_ne e)
end
abbrev St := L2.St
abbrev DSt := List (Option D)
abbrev DK := D → Mp → Prop
abbrev T3 := DSt → Mp → DK → Prop
abbrev T3T := DSt → Mp → (Bool → Mp → Prop) → Prop
abbrev T3A := DSt → Mp → (List D → Mp → Prop) → Prop
structure Ends3 where
  nx : DSt → Mp → Prop
  rt : DK
  bk : DSt → Mp → Prop := fun _ _ => False
  ct : DSt → Mp → Prop := fun _ _ => False
abbrev T3S := Ends3 → DSt → Mp → Prop
def St3 (K : PySem.W.Frag) (H : Hp) (σ : St) (δ : DSt) : Prop := ∀ (i : Nat) (d : D), δ[i]? = some (some d) → ∃ v, σ[i]? = some (some v) ∧ Has K H d v
theorem St3.mono {K : PySem.W.Frag} {H H' : Hp} {σ : St} {δ : DSt} (e : ExtT K H H') (h : St3 K H σ δ) : St3 K H' σ δ := fun i d q => by
  obtain ⟨v, e1, e2⟩ := h i d q
  exact ⟨v, e1, e2.mono e⟩
theorem St3.set {K : PySem.W.Frag} {H : Hp} {σ : St} {δ : DSt} {i : Nat} {d : D} {v : V} (h : St3 K H σ δ) (hv : Has K H d v) (hi : i < σ.length) : St3 K H (σ.set i (some v)) (δ.set i (some d)) := fun j e q => by
  by_cases hj : j = i
  · subst hj
    rw [List.getElem?_set_self hi]
    by_cases hl : j < δ.length
    · rw [List.getElem?_set_self hl] at q
      cases q
      exact ⟨v, rfl, hv⟩
    · rw [List.getElem?_eq_none (by simpa using hl)] at q
      cases q
  · rw [List.getElem?_set_ne (Ne.symm hj)] at q ⊢
    exact h j e q
def lo (K : PySem.W.Frag) (t : T3) : TE := fun σ H Q' => ∃ δ M Q, St3 K H σ δ ∧ HM K H M ∧ t δ M Q ∧ ∀ v H' d M', Has K H' d v → HM K H' M' → ExtT K H H' → Q d M' → Q' v H'
def loT (K : PySem.W.Frag) (t : T3T) : TT := fun σ H Q' => ∃ δ M Q, St3 K H σ δ ∧ HM K H M ∧ t δ M Q ∧ ∀ b H' M', HM K H' M' → ExtT K H H' → Q b M' → Q' b H'
def loA (K : PySem.W.Frag) (t : T3A) : TA := fun σ H Q' => ∃ δ M Q, St3 K H σ δ ∧ HM K H M ∧ t δ M Q ∧ ∀ vs H' ds M', HasL K H' ds vs → HM K H' M' → ExtT K H H' → Q ds M' → Q' vs H'
def loS (K : PySem.W.Frag) (t : T3S) : TS := fun D' σ H => ∃ δ M D, St3 K H σ δ ∧ HM K H M ∧ t D δ M ∧ (∀ σ' H' δ' M', St3 K H' σ' δ' → HM K H' M' → ExtT K H H' → σ'.length = σ.length → D.nx δ' M' → D'.nx σ' H') ∧
  (∀ v H' d M', Has K H' d v → HM K H' M' → ExtT K H H' → D.rt d M' → D'.rt v H') ∧ (∀ σ' H' δ' M', St3 K H' σ' δ' → HM K H' M' → ExtT K H H' → σ'.length = σ.length → D.bk δ' M' → D'.bk σ' H') ∧
  (∀ σ' H' δ' M', St3 K H' σ' δ' → HM K H' M' → ExtT K H H' → σ'.length = σ.length → D.ct δ' M' → D'.ct σ' H')
def E3 (X : Cx) (e : Expr) (t : T3) : Prop := PE X e (lo X.K t)
def B3 (X : Cx) (e : Expr) (t : T3T) : Prop := PT X e (loT X.K t)
def A3 (X : Cx) (es : List Expr) (t : T3A) : Prop := PA X es (loA X.K t)
def S3 (X : Cx) (st : Stmt) (t : T3S) : Prop := PS X st (loS X.K t)
def Ss3 (X : Cx) (st : List Stmt) (t : T3S) : Prop := PSs X st (loS X.K t)
theorem PE.mono {X : Cx} {e : Expr} {t t' : TE} (h : PE X e t) (m : ∀ σ H Q, t' σ H Q → t σ H Q) : PE X e t' := fun pins s σ H Q I q => h pins s σ H Q I (m σ H Q q)
theorem PT.mono {X : Cx} {e : Expr} {t t' : TT} (h : PT X e t) (m : ∀ σ H Q, t' σ H Q → t σ H Q) : PT X e t' := fun pins s σ H Q I q => h pins s σ H Q I (m σ H Q q)
theorem PA.mono {X : Cx} {e : List Expr} {t t' : TA} (h : PA X e t) (m : ∀ σ H Q, t' σ H Q → t σ H Q) : PA X e t' := fun pos pins s σ H Q I q => h pos pins s σ H Q I (m σ H Q q)
theorem PS.mono {X : Cx} {e : Stmt} {t t' : TS} (h : PS X e t) (m : ∀ D σ H, t' D σ H → t D σ H) : PS X e t' := fun pins s σ H D I q => h pins s σ H D I (m D σ H q)
theorem PSs.mono {X : Cx} {e : List Stmt} {t t' : TS} (h : PSs X e t) (m : ∀ D σ H, t' D σ H → t D σ H) : PSs X e t' := fun pins s σ H D I q => h pins s σ H D I (m D σ H q)
theorem PS.monoL {X : Cx} {e : Stmt} {t t' : TS} (h : PS X e t) (m : ∀ D σ H, σ.length = X.N.length → t' D σ H → t D σ H) : PS X e t' := fun pins s σ H D I q => h pins s σ H D I (m D σ H I.len q)
theorem lo_up {K : PySem.W.Frag} {H H1 : Hp} {Q' : VK} {Q : DK} (x : ExtT K H H1) (f : ∀ v H' d M', Has K H' d v → HM K H' M' → ExtT K H H' → Q d M' → Q' v H') : ∀ v H' d M', Has K H' d v → HM K H' M' → ExtT K H1 H' → Q d M' → Q' v H' :=
  fun v H' d M' a b c e => f v H' d M' a b (x.trans c) e
section
variable {X : Cx} {pos : Pos}
def v3 (i : Nat) : T3 := fun δ M Q => (δ.getD i none).elim False fun d => Q d M
theorem getD_elim {δ : DSt} {i : Nat} {P : D → Prop} (h : (δ.getD i none).elim False P) : ∃ d, δ[i]? = some (some d) ∧ P d := by
  cases e : δ[i]? with
  | none => rw [List.getD_eq_getElem?_getD, e] at h; exact h.elim
  | some o =>
    rw [List.getD_eq_getElem?_getD, e] at h
    cases o with
    | none => exact h.elim
    | some d => exact ⟨d, rfl, h⟩
theorem e3_var (i : Nat) {x : Str} (h : PE X (.Name x pos) (tVar i)) : E3 X (.Name x pos) (v3 i) := PE.mono h fun σ H Q' ⟨δ, M, Q, hs, hm, ht, k⟩ => by
  obtain ⟨d, e, q⟩ := getD_elim ht
  obtain ⟨v, e1, e2⟩ := hs i d e
  exact ⟨v, e1, k v H d M e2 hm .refl q⟩
def c3 (d : D) : T3 := fun _ M Q => Q d M
theorem e3_int {i j} : E3 X (.Constant (.int i) j pos) (c3 (.int i)) := PE.mono pe_int fun σ H Q' ⟨δ, M, Q, hs, hm, ht, k⟩ => k _ H _ M .int hm .refl ht
theorem e3_bl {i j} : E3 X (.Constant (.bool i) j pos) (c3 (.bl i)) := PE.mono pe_bl fun σ H Q' ⟨δ, M, Q, hs, hm, ht, k⟩ => k _ H _ M .bl hm .refl ht
theorem e3_str {i j} : E3 X (.Constant (.str i) j pos) (c3 (.str i)) := PE.mono pe_str fun σ H Q' ⟨δ, M, Q, hs, hm, ht, k⟩ => k _ H _ M .str hm .refl ht
theorem e3_glob {x : Str} {a : Addr} (hg : Gl X x) (hm : X.mg x = some (.ref a)) (hd : (x == ("__debug__" : Str)) = false := by decide) : E3 X (.Name x pos) (c3 (.ref a)) :=
  PE.mono (pe_glob (v := .ref a) hg hm rfl hd) fun σ H Q' ⟨δ, M, Q, hs, hm, ht, k⟩ => k _ H _ M .ref hm .refl ht
theorem e3_ty {x : Str} {n : String} (hg : Gl X x) (hm : X.mg x = none) (hv : bootBuiltins x = some (.type n)) (hn : x ≠ "__name__" := by decide) (hd : (x == ("__debug__" : Str)) = false := by decide) : E3 X (.Name x pos) (c3 (.ty n)) :=
  PE.mono (pe_bltn (v := .ty n) hg hm hv rfl hn hd) fun σ H Q' ⟨δ, M, Q, hs, hm, ht, k⟩ => k _ H _ M (by unfold Has; rfl) hm .refl ht
end
def lstM (M : Mp) (a : Addr) : Option (List D) := match M a with
  | some (.lst ds) => some ds
  | _ => none
def repS (x : Str) (n : Int) : Str := ⟨(List.replicate n.toNat x.cps).foldl (· ++ ·) #[]⟩
def opD (op : Operator) (x y : D) (M : Mp) (Q : DK) : Prop := match op, x, y with
  | .Add, .int i, .int j => Q (.int (i + j)) M
  | .Add, .str i, .str j => i.length + j.length ≤ sizeLine ∧ Q (.str (i ++ j)) M
  | .Add, .tup i, .tup j => i ≠ [] ∧ i.length + j.length ≤ sizeLine ∧ Q (.tup (i ++ j)) M
  | .Add, .ref a, .ref b => (lstM M a).elim False fun i => (lstM M b).elim False fun j => i.length + j.length ≤ sizeLine ∧ ∀ p, M p = none → Q (.ref p) (updM M p (.lst (i ++ j)))
  | .Add, .rl i, .ref b => (lstM M b).elim False fun j => i.length + j.length ≤ sizeLine ∧ ∀ p, M p = none → Q (.ref p) (updM M p (.lst (i ++ j)))
  | .Sub, .int i, .int j => Q (.int (i - j)) M
  | .Mult, .int i, .int j => CMul i j ∧ Q (.int (i * j)) M
  | .Mult, .str i, .int j => (j < 4096 ∧ -4096 < j ∧ i.length < 4096) ∧ Q (.str (repS i j)) M
  | .FloorDiv, .int i, .int j => CDiv i j ∧ Q (.int (i / j)) M
  | .Mod, .int i, .int j => 0 < j ∧ Q (.int (i % j)) M
  | _, _, _ => False
def o3 (op : Operator) (ta tb : T3) : T3 := fun δ M Q => ta δ M fun x M1 => tb δ M1 fun y M2 => opD op x y M2 Q
end L3
namespace L3
open PySem PySem.Spec PyProof.Rows L2
def Up (K : PySem.W.Frag) (H : Hp) (Q' : VK) (Q : DK) : Prop := ∀ v H' d M', Has K H' d v → HM K H' M' → ExtT K H H' → Q d M' → Q' v H'
section
variable {X : Cx}
theorem rol_there {K : PySem.W.Frag} {H : Hp} {M : Mp} {a : Addr} {ds : List D} (hm : HM K H M) (h : lstM M a = some ds) : ∃ xs, SqL K H a xs ∧ HasL K H ds xs ∧ Rd H a (.lst xs) := by
  unfold lstM at h
  cases e : M a with
  | none => rw [e] at h; cases h
  | some c =>
    rw [e] at h
    have ok := hm a c e
    cases c with
    | lst es => cases h; obtain ⟨xs, e1, e2⟩ := ok; exact ⟨xs, .inl (.inl e1), e2, .inl e1⟩
    | ins _ _ => cases h
    | dk _ => cases h
theorem elimF {α : Type} {o : Option α} {P : α → Prop} (h : o.elim False P) : ∃ a, o = some a ∧ P a := by
  cases o with
  | none => exact h.elim
  | some a => exact ⟨a, rfl, h⟩
theorem op_catR : OpR X (binaryOp .Add) (fun x y H Q => ∃ l b xs zs, x = .ref l ∧ y = .ref b ∧ SqL X.K H l xs ∧ SqL X.K H b zs ∧ xs.length + zs.length ≤ sizeLine ∧ ∀ p, H p = none → Q (.ref p) (upd H p (.lst (xs ++ zs)))) := by
  intro pins s σ H x y v u Q I rx ry h
  obtain ⟨l, b, xs, zs, rfl, rfl, hH, hB, hz, q⟩ := h
  cases rx
  cases ry
  obtain ⟨its, r, ⟨⟨c1, d1, t1, sl1⟩, n, g1, e1, _, f1⟩, _⟩ := I.list hH
  obtain ⟨jts, r2, ⟨⟨c2, d2, t2, sl2⟩, m, g2, e2, _, f2⟩, _⟩ := I.list hB
  simp only at e1 f1 e2 f2
  subst e1 f1 e2 f2
  have hl := r.length
  have hl2 := r2.length
  refine concat_meets ⟨_, g1, rfl⟩ ⟨_, g2, rfl⟩ noFill_list_add seq_list_add PySem.F.slot_list_add PySem.F.entry_list_add (PySem.F.args_list_add_2 _ _) (list_addW l b its.toArray jts.toArray n m d1 d2 sl1 sl2 (by rw [List.size_toArray, List.size_toArray]; omega)) ⟨g1, g2, ?_⟩
  have ea : its.toArray ++ jts.toArray = (its ++ jts).toArray := by simp
  rw [ea]
  exact ⟨.ref _, _, I.lnew (t' := s.toks) (r.append r2) (by rw [List.length_append]; omega), rfl, q _ I.fresh⟩
theorem rep_len (x : Array Nat) : ∀ k, ((List.replicate k x).foldl (· ++ ·) #[] : Array Nat).size = k * x.size := by
  have go : ∀ (k : Nat) (acc : Array Nat), ((List.replicate k x).foldl (· ++ ·) acc).size = acc.size + k * x.size := by
    intro k
    induction k with
    | zero => intro acc; simp
    | succ k ih => intro acc; rw [List.replicate_succ, List.foldl_cons, ih, Array.size_append, Nat.succ_mul]; omega
  intro k
  rw [go]
  simp
theorem op_repS : OpR X (binaryOp .Mult) (fun x y H Q => ∃ i j, x = .str i ∧ y = .int j ∧ (j < 4096 ∧ -4096 < j ∧ i.length < 4096) ∧ Q (.str (repS i j)) H) := by
  intro pins s σ H x y v u Q I rx ry h
  obtain ⟨i, j, rfl, rfl, ⟨h1, h2, h3⟩, q⟩ := h
  obtain ⟨t, rfl⟩ := rx
  obtain ⟨t', rfl⟩ := ry
  refine PySem.P.mul_str ?_ ?_ ?_ ?_
  · rw [decide_eq_false (by omega), decide_eq_false (by omega)]; rfl
  · intro h0 _
    have : (4096 : Int) ≤ (2 ^ 63 - 1) / j := by
      have : (4096 : Int) * j ≤ 2 ^ 63 - 1 := by omega
      exact (Int.le_ediv_iff_mul_le (by omega)).mpr this
    omega
  · intro h0 _
    have hm : i.length * j.toNat ≤ 4096 * 4096 := Nat.mul_le_mul (by omega) (by omega)
    have hz : sizeLine = 16777216 := sizeLine_eq
    unfold Builtin.Str.tooLong
    exact decide_eq_false (by omega)
  · by_cases h0 : j < 1
    · rw [if_pos h0]
      have e : repS i j = Str.empty := by
        unfold repS
        rw [show j.toNat = 0 by omega]
        rfl
      rw [e] at q
      exact ⟨by decide, ⟨.str Str.empty, H, I.tok _, ⟨_, rfl⟩, q⟩⟩
    · rw [if_neg h0]
      by_cases hj : (j == 1 || i.length == 0) = true
      · rw [if_pos hj]
        have e : repS i j = i := by
          have hj' : j = 1 ∨ i.length = 0 := by simpa using hj
          unfold repS
          rcases hj' with z | z
          · subst z
            show (⟨#[] ++ i.cps⟩ : Str) = i
            simp
          · have ec : i.cps = #[] := Array.size_eq_zero_iff.mp z
            have er : ∀ k : Nat, ((List.replicate k (#[] : Array Nat)).foldl (· ++ ·) #[] : Array Nat) = #[] := by
              intro k
              induction k with
              | zero => rfl
              | succ k ih => rw [List.replicate_succ, List.foldl_cons]; simpa using ih
            rw [ec, er, ← ec]
        rw [e] at q
        exact ⟨.str i, H, I, ⟨t, rfl⟩, q⟩
      · rw [if_neg hj]
        refine ⟨?_, ⟨.str _, H, I.tok _, ⟨_, rfl⟩, q⟩⟩
        have hz : sizeLine = 16777216 := sizeLine_eq
        have hm : j.toNat * i.length ≤ 4096 * 4096 := Nat.mul_le_mul (by omega) (by omega)
        show ((List.replicate j.toNat i.cps).foldl (· ++ ·) #[] : Array Nat).size ≤ _
        rw [rep_len]
        have hm' : j.toNat * i.cps.size ≤ 4096 * 4096 := hm
        omega
def R3 (K : PySem.W.Frag) (f : D → D → Mp → DK → Prop) : R2 := fun vx vy H Q' => ∃ x y M Q, Has K H x vx ∧ Has K H y vy ∧ HM K H M ∧ f x y M Q ∧ Up K H Q' Q
theorem op3 (op : Operator) : OpR X (binaryOp op) (R3 X.K (opD op)) := by
  intro pins s σ H vx vy v u Q' I rx ry h
  obtain ⟨x, y, M, Q, hx, hy, hm, q, k⟩ := h
  unfold opD at q
  split at q
  · cases hx.int_inv; cases hy.int_inv
    exact op_add pins s σ H _ _ v u Q' I rx ry ⟨_, _, rfl, rfl, k _ _ _ _ .int hm .refl q⟩
  · cases hx.str_inv; cases hy.str_inv
    exact op_add_str pins s σ H _ _ v u Q' I rx ry ⟨_, _, rfl, rfl, q.1, k _ _ _ _ .str hm .refl q.2⟩
  · rename_i i j
    obtain ⟨q1, q2, q3⟩ := q
    obtain ⟨a, xs, rfl, ha, ha'⟩ := hx.tup_inv
    obtain ⟨b, ys, rfl, hb, hb'⟩ := hy.tup_inv
    have l1 := ha'.length
    have l2 := hb'.length
    refine op_catT pins s σ H _ _ v u Q' I rx ry ⟨a, b, xs, ys, rfl, rfl, ha, hb, fun z => q1 (by rw [z] at l1; exact List.length_eq_zero_iff.mp l1), by omega, fun z => ?_, fun z p hp => ?_⟩
    · refine k _ _ _ _ (.tup ha ?_) hm .refl q3
      rw [z] at hb'
      have e0 : j = [] := List.length_eq_zero_iff.mp (by simpa using hb'.length)
      rw [e0, List.append_nil]
      exact ha'
    · have e : ExtT X.K H (upd H p (.tup (xs ++ ys))) := .new hp
      exact k _ _ _ _ (.tup (.of upd_same) ((ha'.append hb').mono e)) (hm.add hp) e q3
  · obtain ⟨i, ei, q⟩ := elimF q
    obtain ⟨j, ej, q1, q2⟩ := elimF q
    cases hx.ref_inv; cases hy.ref_inv
    obtain ⟨xs, rx', hxs, _⟩ := rol_there hm ei
    obtain ⟨ys, ry', hys, _⟩ := rol_there hm ej
    have l1 := hxs.length
    have l2 := hys.length
    refine op_catR pins s σ H _ _ v u Q' I rx ry ⟨_, _, xs, ys, rfl, rfl, rx', ry', by omega, fun p hp => ?_⟩
    have e : ExtT X.K H (upd H p (.lst (xs ++ ys))) := .new hp
    exact k _ _ _ _ .ref (hm.new (c := .lst (i ++ j)) hp ⟨_, upd_same, (hxs.append hys).mono e⟩) e (q2 p (hm.fresh hp))
  · obtain ⟨j, ej, q1, q2⟩ := elimF q
    obtain ⟨l, xs, rfl, rx', hxs⟩ := hx.rl_inv
    cases hy.ref_inv
    obtain ⟨ys, ry', hys, _⟩ := rol_there hm ej
    have l1 := hxs.length
    have l2 := hys.length
    refine op_catR pins s σ H _ _ v u Q' I rx ry ⟨_, _, xs, ys, rfl, rfl, rx'.sq, ry', by omega, fun p hp => ?_⟩
    have e : ExtT X.K H (upd H p (.lst (xs ++ ys))) := .new hp
    exact k _ _ _ _ .ref (hm.new (c := .lst (_ ++ j)) hp ⟨_, upd_same, (hxs.append hys).mono e⟩) e (q2 p (hm.fresh hp))
  · cases hx.int_inv; cases hy.int_inv
    exact op_sub pins s σ H _ _ v u Q' I rx ry ⟨_, _, rfl, rfl, k _ _ _ _ .int hm .refl q⟩
  · cases hx.int_inv; cases hy.int_inv
    exact op_mul pins s σ H _ _ v u Q' I rx ry ⟨_, _, rfl, rfl, q.1, k _ _ _ _ .int hm .refl q.2⟩
  · cases hx.str_inv; cases hy.int_inv
    exact op_repS pins s σ H _ _ v u Q' I rx ry ⟨_, _, rfl, rfl, q.1, k _ _ _ _ .str hm .refl q.2⟩
  · cases hx.int_inv; cases hy.int_inv
    exact op_fdiv pins s σ H _ _ v u Q' I rx ry ⟨_, _, rfl, rfl, q.1, k _ _ _ _ .int hm .refl q.2⟩
  · cases hx.int_inv; cases hy.int_inv
    exact op_mod pins s σ H _ _ v u Q' I rx ry ⟨_, _, rfl, rfl, q.1, k _ _ _ _ .int hm .refl q.2⟩
  · exact q.elim
variable {a b : Expr} {ta tb : T3} {pos : Pos}
theorem two3 {f : D → D → Mp → DK → Prop} : ∀ σ H Q', lo X.K (fun δ M Q => ta δ M fun x M1 => tb δ M1 fun y M2 => f x y M2 Q) σ H Q' → tOp (R3 X.K f) (lo X.K ta) (lo X.K tb) σ H Q' := fun σ H Q' ⟨δ, M, Q, hs, hm, ht, k⟩ =>
  ⟨δ, M, _, hs, hm, ht, fun v H1 x M1 hx hm1 e1 q1 => ⟨δ, M1, _, hs.mono e1, hm1, q1, fun u H2 y M2 hy hm2 e2 q2 => ⟨x, y, M2, Q, hx.mono e2, hy, hm2, q2, lo_up (e1.trans e2) k⟩⟩⟩
theorem e3_op {op : Operator} (ha : E3 X a ta) (hb : E3 X b tb) : E3 X (.BinOp a op b pos) (o3 op ta tb) := PE.mono (pe_op (op3 op) ha hb) two3
end
def pairsD (f : D → D → Option Bool) : List D → List D → Option Bool
  | x :: a, y :: b => (f x y).bind fun p => (pairsD f a b).map fun q => p && q
  | _, _ => some true
def eqD (M : Mp) : Nat → D → D → Option Bool
  | 0, _, _ => none
  | n + 1, x, y => match x, y with
    | .non, .non => some true
    | .bl a, .bl b => some (a == b)
    | .int a, .int b => some (a == b)
    | .str a, .str b => some (a == b)
    | .non, .bl _ => some false
    | .non, .int _ => some false
    | .non, .str _ => some false
    | .bl _, .non => some false
    | .bl _, .str _ => some false
    | .int _, .non => some false
    | .int _, .str _ => some false
    | .str _, .non => some false
    | .str _, .bl _ => some false
    | .str _, .int _ => some false
    | .tup a, .tup b => (pairsD (eqD M n) a b).map fun p => p && a.length == b.length
    | .ref a, .ref b => (lstM M a).bind fun i => (lstM M b).bind fun j => if i.length = j.length then pairsD (eqD M n) i j else some false
    | _, _ => none
section
variable {X : Cx} {pins : List (Addr × Obj)} {σ : St} {H : Hp} {s : Shared} {M : Mp}
theorem pairs_same {f : D → D → Option Bool} : ∀ {ds es : List D} {xs : List V} {b : Bool}, HasL X.K H ds xs → HasL X.K H es xs → (∀ x y v b, Has X.K H x v → Has X.K H y v → f x y = some b → b = true) → pairsD f ds es = some b → b = true
  | [], [], _, _, _, _, _, e => (Option.some.inj e).symm
  | [], _ :: _, _, _, h, g, _, _ => by
    have h1 := h.length
    have h2 := g.length
    rw [← h1] at h2
    simp at h2
  | _ :: _, [], _, _, h, g, _, _ => by
    have h1 := h.length
    have h2 := g.length
    rw [← h1] at h2
    simp at h2
  | d :: ds, e :: es, xs, b, h, g, k, q => by
    obtain ⟨x, r, rfl, h1, h2⟩ := h.inv
    obtain ⟨x', r', e', g1, g2⟩ := g.inv
    cases e'
    unfold pairsD at q
    cases p1 : f d e with
    | none => rw [p1] at q; cases q
    | some b1 =>
      rw [p1] at q
      cases p2 : pairsD f ds es with
      | none => rw [p2] at q; cases q
      | some b2 =>
        rw [p2] at q
        have q' : (b1 && b2) = b := Option.some.inj q
        rw [← q', k _ _ _ _ h1 g1 p1, pairs_same h2 g2 k p2]
        rfl
theorem eqD_same (I : Inv X pins σ H s) (hm : HM X.K H M) : ∀ (n : Nat) (x y : D) (v : V) (b : Bool), Has X.K H x v → Has X.K H y v → eqD M n x y = some b → b = true
  | 0, _, _, _, _, _, _, e => by cases e
  | n + 1, x, y, v, b, hx, hy, e => by
    unfold eqD at e
    split at e
    · exact (Option.some.inj e).symm
    · rw [hx.bl_inv] at hy; cases hy.bl_inv; exact (Option.some.inj e).symm.trans (by simp)
    · rw [hx.int_inv] at hy; cases hy.int_inv; exact (Option.some.inj e).symm.trans (by simp)
    · rw [hx.str_inv] at hy; cases hy.str_inv; exact (Option.some.inj e).symm.trans (by simp)
    · rw [hx.non_inv] at hy; cases hy.bl_inv
    · rw [hx.non_inv] at hy; cases hy.int_inv
    · rw [hx.non_inv] at hy; cases hy.str_inv
    · rw [hx.bl_inv] at hy; cases hy.non_inv
    · rw [hx.bl_inv] at hy; cases hy.str_inv
    · rw [hx.int_inv] at hy; cases hy.non_inv
    · rw [hx.int_inv] at hy; cases hy.str_inv
    · rw [hx.str_inv] at hy; cases hy.non_inv
    · rw [hx.str_inv] at hy; cases hy.bl_inv
    · rw [hx.str_inv] at hy; cases hy.int_inv
    · obtain ⟨a, xs, rfl, h1, h2⟩ := hx.tup_inv
      obtain ⟨a', ys, e', g1, g2⟩ := hy.tup_inv
      cases e'
      rw [I.tuple_inj g1 h1] at g2
      cases p : pairsD (eqD M n) _ _ with
      | none => rw [p] at e; cases e
      | some b1 =>
        rw [p] at e
        have e' := Option.some.inj e
        rw [← e', pairs_same h2 g2 (eqD_same I hm n) p, h2.length, g2.length]
        simp
    · rw [hx.ref_inv] at hy
      cases hy.ref_inv
      cases p : lstM M _ with
      | none => rw [p] at e; cases e
      | some i =>
        rw [p] at e
        have e : (if i.length = i.length then pairsD (eqD M n) i i else some false) = some b := e
        rw [if_pos rfl] at e
        obtain ⟨xs, _, h2, _⟩ := rol_there hm p
        exact pairs_same h2 h2 (eqD_same I hm n) e
    · cases e
end
end L3
namespace L3
open PySem PySem.Spec PyProof.Rows L2
section
variable {X : Cx} {pins : List (Addr × Obj)} {σ : St} {H : Hp} {s : Shared} {M : Mp}
theorem pairs_at {f : D → D → Option Bool} {A : Around} : ∀ {ds es : List D} {xs ys : List V} {us ws : List Value} {b : Bool}, pairsD f ds es = some b → HasL X.K H ds xs → HasL X.K H es ys → Vals xs us → Vals ys ws →
    (∀ x y b vx vy u w, f x y = some b → Has X.K H x vx → Has X.K H y vy → RelV vx u → RelV vy w → SeqAt.EqAt A s u w b) →
    ∃ e : Nat → Bool, (∀ j (h1 : j < us.length) (h2 : j < ws.length), SeqAt.EqAt A s us[j] ws[j] (e j)) ∧ (List.range (min us.length ws.length)).all e = b
  | [], es, xs, ys, us, ws, b, q, hx, hy, rx, ry, k => by
    have e1 := hx.nil_inv
    subst e1
    cases rx
    refine ⟨fun _ => true, fun j h1 => absurd h1 (by simp), ?_⟩
    have q' : some true = some b := by
      cases es <;> exact q
    simpa using (Option.some.inj q')
  | d :: ds, [], xs, ys, us, ws, b, q, hx, hy, rx, ry, k => by
    have e1 := hy.nil_inv
    subst e1
    cases ry
    refine ⟨fun _ => true, fun j _ h2 => absurd h2 (by simp), ?_⟩
    have q' : some true = some b := q
    simpa using (Option.some.inj q')
  | d :: ds, e :: es, xs, ys, us, ws, b, q, hx, hy, rx, ry, k => by
    obtain ⟨x, r, rfl, h1, h2⟩ := hx.inv
    obtain ⟨y, r', rfl, g1, g2⟩ := hy.inv
    cases rx with
    | cons r1 r2 =>
      cases ry with
      | cons t1 t2 =>
        unfold pairsD at q
        cases p1 : f d e with
        | none => rw [p1] at q; cases q
        | some b1 =>
          rw [p1] at q
          cases p2 : pairsD f ds es with
          | none => rw [p2] at q; cases q
          | some b2 =>
            rw [p2] at q
            have q' : (b1 && b2) = b := Option.some.inj q
            obtain ⟨e', he, ha⟩ := pairs_at p2 h2 g2 r2 t2 k
            refine ⟨fun j => match j with | 0 => b1 | j + 1 => e' j, fun j l1 l2 => ?_, ?_⟩
            · cases j with
              | zero => exact k _ _ _ _ _ _ _ p1 h1 g1 r1 t1
              | succ j => exact he j (by simpa using l1) (by simpa using l2)
            · rw [← q', ← ha]
              simp only [List.length_cons]
              rw [Nat.succ_min_succ, List.range_succ_eq_map, List.all_cons, List.all_map]
              rfl
theorem eqD_at (I : Inv X pins σ H s) (hm : HM X.K H M) : ∀ (n : Nat) (A : Around) (x y : D) (b : Bool) (vx vy : V) (u w : Value), A.units + n < cLine → eqD M n x y = some b → Has X.K H x vx → Has X.K H y vy → RelV vx u → RelV vy w →
    SeqAt.RcAt A s u w b ∧ SeqAt.EqAt A s u w b ∧ SeqAt.RcNeAt A s u w (!b)
  | 0, _, _, _, _, _, _, _, _, _, e, _, _, _, _ => by cases e
  | n + 1, A, x, y, b, vx, vy, u, w, hu, e, hx, hy, rx, ry => by
    have hu1 : A.units < cLine := by omega
    have hui : A.in1.units + n < cLine := by show A.units + 1 + n < cLine; omega
    unfold eqD at e
    split at e
    · cases hx.non_inv; cases hy.non_inv; cases rx; cases ry; cases e
      exact ⟨.none_none, .same _, .none_none⟩
    · cases hx.bl_inv; cases hy.bl_inv; cases rx; cases ry; cases e
      exact ⟨.bool_bool _ _, .bool_bool _ _, .bool_bool _ _⟩
    · cases hx.int_inv; cases hy.int_inv; obtain ⟨t, rfl⟩ := rx; obtain ⟨t', rfl⟩ := ry; cases e
      exact ⟨.int_int _ _ _ _, .int_int _ _ _ _, .int_int _ _ _ _⟩
    · cases hx.str_inv; cases hy.str_inv; obtain ⟨t, rfl⟩ := rx; obtain ⟨t', rfl⟩ := ry; cases e
      exact ⟨.str_str _ _ _ _, .str_str _ _ _ _, .str_str _ _ _ _⟩
    · cases hx.non_inv; cases hy.bl_inv; cases rx; cases ry; cases e
      exact ⟨.none_bool _, .none_bool _, .none_bool _⟩
    · cases hx.non_inv; cases hy.int_inv; cases rx; obtain ⟨t', rfl⟩ := ry; cases e
      exact ⟨.none_int _ _, .none_int _ _, .none_int _ _⟩
    · cases hx.non_inv; cases hy.str_inv; cases rx; obtain ⟨t', rfl⟩ := ry; cases e
      exact ⟨.none_str _ _, .none_str _ _, .none_str _ _⟩
    · cases hx.bl_inv; cases hy.non_inv; cases rx; cases ry; cases e
      exact ⟨.bool_none _, .bool_none _, .bool_none _⟩
    · cases hx.bl_inv; cases hy.str_inv; cases rx; obtain ⟨t', rfl⟩ := ry; cases e
      exact ⟨.bool_str _ _ _, .bool_str _ _ _, .bool_str _ _ _⟩
    · cases hx.int_inv; cases hy.non_inv; obtain ⟨t, rfl⟩ := rx; cases ry; cases e
      exact ⟨.int_none _ _, .int_none _ _, .int_none _ _⟩
    · cases hx.int_inv; cases hy.str_inv; obtain ⟨t, rfl⟩ := rx; obtain ⟨t', rfl⟩ := ry; cases e
      exact ⟨.int_str _ _ _ _, .int_str _ _ _ _, .int_str _ _ _ _⟩
    · cases hx.str_inv; cases hy.non_inv; obtain ⟨t, rfl⟩ := rx; cases ry; cases e
      exact ⟨.str_none _ _, .str_none _ _, .str_none _ _⟩
    · cases hx.str_inv; cases hy.bl_inv; obtain ⟨t, rfl⟩ := rx; cases ry; cases e
      exact ⟨.str_bool _ _ _, .str_bool _ _ _, .str_bool _ _ _⟩
    · cases hx.str_inv; cases hy.int_inv; obtain ⟨t, rfl⟩ := rx; obtain ⟨t', rfl⟩ := ry; cases e
      exact ⟨.str_int _ _ _ _, .str_int _ _ _ _, .str_int _ _ _ _⟩
    · rename_i da db
      obtain ⟨a1, xs, rfl, h1, h2⟩ := hx.tup_inv
      obtain ⟨a2, ys, rfl, g1, g2⟩ := hy.tup_inv
      cases rx
      cases ry
      obtain ⟨us, r1, p1, _⟩ := I.tuple h1
      obtain ⟨ws, r2, p2, _⟩ := I.tuple g1
      cases p : pairsD (eqD M n) da db with
      | none => rw [p] at e; cases e
      | some b1 =>
        have e0 := e
        rw [p] at e
        have e' : (b1 && da.length == db.length) = b := Option.some.inj e
        obtain ⟨f, hf, ha⟩ := pairs_at (A := A.in1) (s := s) p h2 g2 r1 r2 fun x y b vx vy u w q1 q2 q3 q4 q5 => (eqD_at I hm n A.in1 x y b vx vy u w hui q1 q2 q3 q4 q5).2.1
        have hb : ((List.range (min us.toArray.size ws.toArray.size)).all f && us.toArray.size == ws.toArray.size) = b := by
          rw [List.size_toArray, List.size_toArray, ha, ← e', ← r1.length, ← r2.length, h2.length, g2.length]
        have hf' : ∀ j (l1 : j < us.toArray.size) (l2 : j < ws.toArray.size), SeqAt.EqAt A.in1 s us.toArray[j] ws.toArray[j] (f j) := fun j l1 l2 => by simpa using hf j (by simpa using l1) (by simpa using l2)
        have c1 : SeqAt.RcAt A s (.ref a1) (.ref a2) b := by rw [← hb]; exact .tuples p1 p2 hu1 hf'
        have c3 : SeqAt.RcNeAt A s (.ref a1) (.ref a2) (!b) := by
          have := SeqAt.RcNeAt.tuples p1 p2 hu1 hf'
          rw [hb] at this
          exact this
        refine ⟨c1, ?_, c3⟩
        by_cases ea : a1 = a2
        · subst ea
          have : b = true := eqD_same I hm (n + 1) (.tup da) (.tup db) (.ref a1) b hx hy (by unfold eqD; exact e0)
          rw [this]
          exact .same _
        · exact .of_refs ea c1
    · cases hx.ref_inv; cases hy.ref_inv
      cases rx
      cases ry
      rename_i a1 a2
      have e0 := e
      cases p : lstM M a1 with
      | none => rw [p] at e; cases e
      | some i =>
        cases p' : lstM M a2 with
        | none => rw [p, p'] at e; cases e
        | some j =>
          rw [p, p'] at e
          have e : (if i.length = j.length then pairsD (eqD M n) i j else some false) = some b := e
          obtain ⟨xs, q1, h2, _⟩ := rol_there hm p
          obtain ⟨ys, q2, g2, _⟩ := rol_there hm p'
          obtain ⟨us, r1, p1, _⟩ := I.list q1
          obtain ⟨ws, r2, p2, _⟩ := I.list q2
          have fin : SeqAt.RcAt A s (.ref a1) (.ref a2) b ∧ SeqAt.RcNeAt A s (.ref a1) (.ref a2) (!b) := by
            by_cases hl : i.length = j.length
            · rw [if_pos hl] at e
              obtain ⟨f, hf, ha⟩ := pairs_at (A := A.in1) (s := s) e h2 g2 r1 r2 fun x y b vx vy u w q1 q2 q3 q4 q5 => (eqD_at I hm n A.in1 x y b vx vy u w hui q1 q2 q3 q4 q5).2.1
              have hsz : us.toArray.size = ws.toArray.size := by rw [List.size_toArray, List.size_toArray, ← r1.length, ← r2.length, ← h2.length, ← g2.length]; exact hl
              have hf' : ∀ j (l1 : j < us.toArray.size) (l2 : j < ws.toArray.size), SeqAt.EqAt A.in1 s us.toArray[j] ws.toArray[j] (f j) := fun j l1 l2 => by simpa using hf j (by simpa using l1) (by simpa using l2)
              have hb : (List.range us.toArray.size).all f = b := by
                rw [← ha]
                rw [List.size_toArray, List.size_toArray] at hsz
                rw [List.size_toArray, ← hsz, Nat.min_self]
              rw [← hb]
              exact ⟨.lists p1.isList p2.isList hsz hu1 hf', .lists p1.isList p2.isList hsz hu1 hf'⟩
            · rw [if_neg hl] at e
              cases e
              have hsz : (us.toArray.size != ws.toArray.size) = true := by
                rw [List.size_toArray, List.size_toArray, ← r1.length, ← r2.length, ← h2.length, ← g2.length]
                simpa using hl
              exact ⟨.lists_lengths p1.isList p2.isList hsz hu1, .lists_lengths p1.isList p2.isList hsz hu1⟩
          refine ⟨fin.1, ?_, fin.2⟩
          by_cases ea : a1 = a2
          · subst ea
            have : b = true := eqD_same I hm (n + 1) (.ref a1) (.ref a1) (.ref a1) b .ref .ref (by unfold eqD; exact e0)
            rw [this]
            exact .same _
          · exact .of_refs ea fin.1
    · cases e
end
def flatD : D → Bool
  | .non => true
  | .bl _ => true
  | .int _ => true
  | .str _ => true
  | _ => false
def eqF : D → D → Bool
  | .non, .non => true
  | .bl a, .bl b => a == b
  | .bl a, .int b => (if a then 1 else 0) == b
  | .int a, .bl b => a == (if b then 1 else 0)
  | .int a, .int b => a == b
  | .str a, .str b => a == b
  | _, _ => false
def inD (x : D) (ds : List D) : Bool := ds.any fun y => eqF y x
def seqM (M : Mp) : D → Option (List D)
  | .tup ds => some ds
  | .ref a => lstM M a
  | .rl ds => some ds
  | _ => none
def subS (i j : Str) : Bool := !(Builtin.Str.occurrences j i 0 j.length 1).isEmpty
def inQ (neg : Bool) (x y : D) (M : Mp) (Q : DK) : Prop := match x, y with
  | .str i, .str j => Q (.bl (if neg then !subS i j else subS i j)) M
  | _, _ => (seqM M y).elim False fun ds => flatD x = true ∧ ds.all flatD = true ∧ Q (.bl (if neg then !inD x ds else inD x ds)) M
def cmpD (op : CmpOp) (x y : D) (M : Mp) (Q : DK) : Prop := match op with
  | .Eq => (eqD M 9 x y).elim False fun b => Q (.bl b) M
  | .NotEq => (eqD M 9 x y).elim False fun b => Q (.bl (!b)) M
  | .Lt => match x, y with | .int i, .int j => Q (.bl (decide (i < j))) M | _, _ => False
  | .LtE => match x, y with | .int i, .int j => Q (.bl (decide (i ≤ j))) M | _, _ => False
  | .Gt => match x, y with | .int i, .int j => Q (.bl (decide (j < i))) M | _, _ => False
  | .GtE => match x, y with | .int i, .int j => Q (.bl (decide (j ≤ i))) M | _, _ => False
  | .Is => match y with | .non => Q (.bl (match x with | .non => true | _ => false)) M | _ => False
  | .IsNot => match y with | .non => Q (.bl (match x with | .non => false | _ => true)) M | _ => False
  | .In => inQ false x y M Q
  | .NotIn => inQ true x y M Q
def k3 (op : CmpOp) (ta tb : T3) : T3 := fun δ M Q => ta δ M fun x M1 => tb δ M1 fun y M2 => cmpD op x y M2 Q
section
variable {K : PySem.W.Frag} {H : Hp} {M : Mp}
theorem flat_has {d : D} {v : V} (h : Has K H d v) (f : flatD d = true) : flatV v = true := by
  cases d with
  | non => rw [h.non_inv]; rfl
  | bl _ => rw [h.bl_inv]; rfl
  | int _ => rw [h.int_inv]; rfl
  | str _ => rw [h.str_inv]; rfl
  | _ => cases f
theorem eqF_has {d e : D} {v w : V} (h : Has K H d v) (g : Has K H e w) (f : flatD d = true) (f' : flatD e = true) : eqV v w = eqF d e := by
  cases d with
  | non =>
    rw [h.non_inv]
    cases e with
    | non => rw [g.non_inv]; rfl
    | bl _ => rw [g.bl_inv]; rfl
    | int _ => rw [g.int_inv]; rfl
    | str _ => rw [g.str_inv]; rfl
    | _ => cases f'
  | bl _ =>
    rw [h.bl_inv]
    cases e with
    | non => rw [g.non_inv]; rfl
    | bl _ => rw [g.bl_inv]; rfl
    | int _ => rw [g.int_inv]; rfl
    | str _ => rw [g.str_inv]; rfl
    | _ => cases f'
  | int _ =>
    rw [h.int_inv]
    cases e with
    | non => rw [g.non_inv]; rfl
    | bl _ => rw [g.bl_inv]; rfl
    | int _ => rw [g.int_inv]; rfl
    | str _ => rw [g.str_inv]; rfl
    | _ => cases f'
  | str _ =>
    rw [h.str_inv]
    cases e with
    | non => rw [g.non_inv]; rfl
    | bl _ => rw [g.bl_inv]; rfl
    | int _ => rw [g.int_inv]; rfl
    | str _ => rw [g.str_inv]; rfl
    | _ => cases f'
  | _ => cases f
theorem all_has : ∀ {ds : List D} {xs : List V}, HasL K H ds xs → ds.all flatD = true → xs.all flatV = true
  | [], _, h, _ => by rw [h.nil_inv]; rfl
  | d :: ds, _, h, f => by
    obtain ⟨x, r, rfl, h1, h2⟩ := h.inv
    rw [List.all_cons, Bool.and_eq_true] at f ⊢
    exact ⟨flat_has h1 f.1, all_has h2 f.2⟩
theorem in_has {e : D} {w : V} (g : Has K H e w) (f' : flatD e = true) : ∀ {ds : List D} {xs : List V}, HasL K H ds xs → ds.all flatD = true → inV w xs = inD e ds
  | [], _, h, _ => by rw [h.nil_inv]; rfl
  | d :: ds, _, h, f => by
    obtain ⟨x, r, rfl, h1, h2⟩ := h.inv
    rw [List.all_cons, Bool.and_eq_true] at f
    show (eqV x w || inV w r) = (eqF d e || inD e ds)
    rw [eqF_has h1 g f.1 f', in_has g f' h2 f.2]
theorem seq_has (hm : HM K H M) {y : D} {v : V} {ds : List D} (h : Has K H y v) (q : seqM M y = some ds) : ∃ p xs, v = .ref p ∧ (SqL K H p xs ∨ SqT K H p xs) ∧ HasL K H ds xs := by
  cases y with
  | tup es =>
    cases q
    obtain ⟨a, xs, rfl, h1, h2⟩ := h.tup_inv
    exact ⟨a, xs, rfl, .inr h1, h2⟩
  | ref a =>
    cases h.ref_inv
    obtain ⟨xs, h1, h2, _⟩ := rol_there hm q
    exact ⟨a, xs, rfl, .inl h1, h2⟩
  | rl es =>
    cases q
    obtain ⟨a, xs, rfl, h1, h2⟩ := h.rl_inv
    exact ⟨a, xs, rfl, .inl h1.sq, h2⟩
  | _ => cases q
end
section
variable {X : Cx} {H : Hp} {M : Mp}
theorem cmp3 (op : CmpOp) (hu : X.A.units + 9 < cLine) : OpR X (compareOp op) (R3 X.K (cmpD op)) := by
  intro pins s σ H vx vy v u Q' I rx ry h
  obtain ⟨x, y, M, Q, hx, hy, hm, q, k⟩ := h
  have bk : ∀ b, Q (.bl b) M → EP X pins σ Q' (.bool b) s := fun b q => ⟨.bl b, H, I, rfl, k _ _ _ _ .bl hm .refl q⟩
  have inn : ∀ neg : Bool, ((seqM M y).elim False fun ds => flatD x = true ∧ ds.all flatD = true ∧ Q (.bl (if neg then !inD x ds else inD x ds)) M) → rIn X.K neg vx vy H Q' := fun neg q => by
    obtain ⟨ds, e, f1, f2, q⟩ := elimF q
    obtain ⟨p, xs, rfl, h1, h2⟩ := seq_has hm hy e
    refine ⟨p, xs, rfl, h1, flat_has hx f1, all_has h2 f2, ?_⟩
    rw [in_has hx f1 h2 f2]
    exact k _ _ _ _ .bl hm .refl q
  cases op with
  | Eq =>
    obtain ⟨b, e, q⟩ := elimF q
    exact (eqD_at I hm 9 X.A x y b vx vy v u hu e hx hy rx ry).1 _ _ _ _ (bk b q)
  | NotEq =>
    obtain ⟨b, e, q⟩ := elimF q
    exact (eqD_at I hm 9 X.A x y b vx vy v u hu e hx hy rx ry).2.2 _ _ _ _ (bk _ q)
  | Lt =>
    cases x <;> first | exact q.elim | skip
    cases y <;> first | exact q.elim | skip
    cases hx.int_inv; cases hy.int_inv
    exact op_lt pins s σ H _ _ v u Q' I rx ry ⟨_, _, rfl, rfl, k _ _ _ _ .bl hm .refl q⟩
  | LtE =>
    cases x <;> first | exact q.elim | skip
    cases y <;> first | exact q.elim | skip
    cases hx.int_inv; cases hy.int_inv
    exact op_le pins s σ H _ _ v u Q' I rx ry ⟨_, _, rfl, rfl, k _ _ _ _ .bl hm .refl q⟩
  | Gt =>
    cases x <;> first | exact q.elim | skip
    cases y <;> first | exact q.elim | skip
    cases hx.int_inv; cases hy.int_inv
    exact op_gt pins s σ H _ _ v u Q' I rx ry ⟨_, _, rfl, rfl, k _ _ _ _ .bl hm .refl q⟩
  | GtE =>
    cases x <;> first | exact q.elim | skip
    cases y <;> first | exact q.elim | skip
    cases hx.int_inv; cases hy.int_inv
    exact op_ge pins s σ H _ _ v u Q' I rx ry ⟨_, _, rfl, rfl, k _ _ _ _ .bl hm .refl q⟩
  | Is =>
    cases y <;> first | exact q.elim | skip
    cases hy.non_inv
    refine op_isN pins s σ H _ _ v u Q' I rx ry ⟨rfl, k _ _ _ _ ?_ hm .refl q⟩
    cases x with
    | non => rw [hx.non_inv]; exact .bl
    | bl _ => rw [hx.bl_inv]; exact .bl
    | int _ => rw [hx.int_inv]; exact .bl
    | str _ => rw [hx.str_inv]; exact .bl
    | tup _ => obtain ⟨a, xs, rfl, _⟩ := hx.tup_inv; exact .bl
    | ref _ => rw [hx.ref_inv]; exact .bl
    | ty _ => rw [hx.ty_inv]; exact .bl
    | rl _ => obtain ⟨a, xs, rfl, _⟩ := hx.rl_inv; exact .bl
  | IsNot =>
    cases y <;> first | exact q.elim | skip
    cases hy.non_inv
    refine op_notN pins s σ H _ _ v u Q' I rx ry ⟨rfl, k _ _ _ _ ?_ hm .refl q⟩
    cases x with
    | non => rw [hx.non_inv]; exact .bl
    | bl _ => rw [hx.bl_inv]; exact .bl
    | int _ => rw [hx.int_inv]; exact .bl
    | str _ => rw [hx.str_inv]; exact .bl
    | tup _ => obtain ⟨a, xs, rfl, _⟩ := hx.tup_inv; exact .bl
    | ref _ => rw [hx.ref_inv]; exact .bl
    | ty _ => rw [hx.ty_inv]; exact .bl
    | rl _ => obtain ⟨a, xs, rfl, _⟩ := hx.rl_inv; exact .bl
  | In =>
    have q : inQ false x y M Q := q
    unfold inQ at q
    split at q
    · cases hx.str_inv; cases hy.str_inv
      exact op_in_str pins s σ H _ _ v u Q' I rx ry ⟨_, _, rfl, rfl, k _ _ _ _ .bl hm .refl q⟩
    · exact op_in_seq pins s σ H _ _ v u Q' I rx ry (inn false q)
  | NotIn =>
    have q : inQ true x y M Q := q
    unfold inQ at q
    split at q
    · cases hx.str_inv; cases hy.str_inv
      exact op_notIn_str pins s σ H _ _ v u Q' I rx ry ⟨_, _, rfl, rfl, k _ _ _ _ .bl hm .refl q⟩
    · exact op_notIn_seq pins s σ H _ _ v u Q' I rx ry (inn true q)
variable {a b c : Expr} {ta tb tc : T3} {pos : Pos}
theorem e3_cmp {op : CmpOp} (hu : X.A.units + 9 < cLine) (ha : E3 X a ta) (hb : E3 X b tb) (hm : behindInMarks op b = false := by first | exact nomark _ | with_unfolding_all rfl) : E3 X (.Compare a [op] [b] pos) (k3 op ta tb) := PE.mono (pe_cmpR (cmp3 op hu) ha hb hm) two3
def b3 (t : T3) : T3T := fun δ M Q => t δ M fun d M1 => match d with | .bl c => Q c M1 | _ => False
theorem b3_of {e : Expr} {t : T3} (h : E3 X e t) (he : ∀ whole, isTrue e X.env whole = (do let v ← whole; standAt e.pos; holding [v] (truthy v)) := by intro _; rfl) : B3 X e (b3 t) := PT.mono (pt_val h he) fun σ H Q' ⟨δ, M, Q, hs, hm, ht, k⟩ =>
  ⟨δ, M, _, hs, hm, ht, fun v H1 d M1 hd hm1 e1 q1 => by
    cases d with
    | bl c => exact ⟨c, hd.bl_inv, k c H1 M1 hm1 e1 q1⟩
    | _ => exact q1.elim⟩
theorem b3_cmp {op : CmpOp} (hu : X.A.units + 9 < cLine) (ha : E3 X a ta) (hb : E3 X b tb) (hm : behindInMarks op b = false := by first | exact nomark _ | with_unfolding_all rfl) : B3 X (.Compare a [op] [b] pos) (b3 (k3 op ta tb)) := PT.mono (pt_cmpR (cmp3 op hu) ha hb hm) fun σ H Q' ⟨δ, M, Q, hs, hm, ht, k⟩ =>
  two3 σ H _ ⟨δ, M, _, hs, hm, ht, fun v H1 d M1 hd hm1 e1 q1 => by
    cases d with
    | bl c => exact ⟨c, hd.bl_inv, k c H1 M1 hm1 e1 q1⟩
    | _ => exact q1.elim⟩
end
end L3
namespace L3
open PySem PySem.Spec PyProof.Rows L2
section
variable {X : Cx} {a b c : Expr} {ta tb tc : T3} {pos : Pos} {tA tB : T3T} {rest : List Expr}
def and3 (t u : T3T) : T3T := fun δ M Q => t δ M fun c M1 => if c = true then u δ M1 Q else Q false M1
def or3 (t u : T3T) : T3T := fun δ M Q => t δ M fun c M1 => if c = true then Q true M1 else u δ M1 Q
def not3 (t : T3T) : T3T := fun δ M Q => t δ M fun c M1 => Q (!c) M1
def W3 (X : Cx) (e : Expr) (t : T3T) : Prop := PW X e (loT X.K t)
theorem PW.mono {X : Cx} {e : Expr} {t t' : TT} (h : PW X e t) (m : ∀ σ H Q, t' σ H Q → t σ H Q) : PW X e t' := fun wh pins s σ H Q I q => h wh pins s σ H Q I (m σ H Q q)
theorem W3.b3 {e : Expr} {t : T3T} (h : W3 X e t) : B3 X e t := PW.pt h
theorem w3_and1 (h : B3 X a tA) : W3 X (.BoolOp .And [a] pos) tA := pw_and1 h
theorem w3_or1 (h : B3 X a tA) : W3 X (.BoolOp .Or [a] pos) tA := pw_or1 h
theorem w3_and (ha : B3 X a tA) (hb : W3 X (.BoolOp .And (b :: rest) pos) tB) : W3 X (.BoolOp .And (a :: b :: rest) pos) (and3 tA tB) := PW.mono (pw_and ha hb) fun σ H Q' ⟨δ, M, Q, hs, hm, ht, k⟩ =>
  ⟨δ, M, _, hs, hm, ht, fun c H1 M1 hm1 e1 q1 => by
    cases c with
    | true => exact (if_pos rfl).mpr ⟨δ, M1, Q, hs.mono e1, hm1, (if_pos rfl).mp q1, fun b H' M' x1 x2 x3 => k b H' M' x1 (e1.trans x2) x3⟩
    | false => exact (if_neg Bool.false_ne_true).mpr (k false H1 M1 hm1 e1 ((if_neg Bool.false_ne_true).mp q1))⟩
theorem w3_or (ha : B3 X a tA) (hb : W3 X (.BoolOp .Or (b :: rest) pos) tB) : W3 X (.BoolOp .Or (a :: b :: rest) pos) (or3 tA tB) := PW.mono (pw_or ha hb) fun σ H Q' ⟨δ, M, Q, hs, hm, ht, k⟩ =>
  ⟨δ, M, _, hs, hm, ht, fun c H1 M1 hm1 e1 q1 => by
    cases c with
    | true => exact (if_pos rfl).mpr (k true H1 M1 hm1 e1 ((if_pos rfl).mp q1))
    | false => exact (if_neg Bool.false_ne_true).mpr ⟨δ, M1, Q, hs.mono e1, hm1, (if_neg Bool.false_ne_true).mp q1, fun b H' M' x1 x2 x3 => k b H' M' x1 (e1.trans x2) x3⟩⟩
theorem b3_not (ha : B3 X a tA) : B3 X (.UnaryOp .Not a pos) (not3 tA) := PT.mono (pt_not ha) fun σ H Q' ⟨δ, M, Q, hs, hm, ht, k⟩ => ⟨δ, M, _, hs, hm, ht, fun c H1 M1 hm1 e1 q1 => k _ H1 M1 hm1 e1 q1⟩
def andV3 (ta tb : T3) : T3 := fun δ M Q => ta δ M fun d M1 => match d with | .bl c => if c = true then tb δ M1 Q else Q (.bl false) M1 | _ => False
def notV3 (ta : T3) : T3 := fun δ M Q => ta δ M fun d M1 => match d with | .bl c => Q (.bl (!c)) M1 | _ => False
theorem e3_one {op} (h : E3 X a ta) : E3 X (.BoolOp op [a] pos) ta := pe_one h
theorem e3_and (ha : E3 X a ta) (hb : E3 X (.BoolOp .And (b :: rest) pos) tb) : E3 X (.BoolOp .And (a :: b :: rest) pos) (andV3 ta tb) := PE.mono (pe_and ha hb) fun σ H Q' ⟨δ, M, Q, hs, hm, ht, k⟩ =>
  ⟨δ, M, _, hs, hm, ht, fun v H1 d M1 hd hm1 e1 q1 => by
    cases d with
    | bl c =>
      refine ⟨c, hd.bl_inv, ?_⟩
      cases c with
      | true => exact (if_pos rfl).mpr ⟨δ, M1, Q, hs.mono e1, hm1, (if_pos rfl).mp q1, lo_up e1 k⟩
      | false => exact (if_neg Bool.false_ne_true).mpr (k _ H1 _ M1 .bl hm1 e1 ((if_neg Bool.false_ne_true).mp q1))
    | _ => exact q1.elim⟩
theorem e3_not (ha : E3 X a ta) : E3 X (.UnaryOp .Not a pos) (notV3 ta) := PE.mono (pe_not ha) fun σ H Q' ⟨δ, M, Q, hs, hm, ht, k⟩ =>
  ⟨δ, M, _, hs, hm, ht, fun v H1 d M1 hd hm1 e1 q1 => by
    cases d with
    | bl c => exact ⟨c, hd.bl_inv, k _ H1 _ M1 .bl hm1 e1 q1⟩
    | _ => exact q1.elim⟩
def ixD (x y : D) (M : Mp) (Q : DK) : Prop := match x, y with
  | .tup ds, .int i => (atI ds i).elim False fun d => Q d M
  | .ref a, .int i => (lstM M a).elim False fun ds => (atI ds i).elim False fun d => Q d M
  | .rl ds, .int i => (atI ds i).elim False fun d => Q d M
  | .str z, .int i => z.length ≤ sizeLine ∧ (atI z.cps.toList i).elim False fun c => Q (.str ⟨#[c]⟩) M
  | _, _ => False
def i3 (ta tb : T3) : T3 := fun δ M Q => ta δ M fun x M1 => tb δ M1 fun y M2 => ixD x y M2 Q
theorem atI_has {K : PySem.W.Frag} {H : Hp} {ds : List D} {xs : List V} {i : Int} {d : D} (h : HasL K H ds xs) (e : atI ds i = some d) : ∃ v, atI xs i = some v ∧ Has K H d v := by
  unfold atI at e ⊢
  rw [← h.length]
  cases q : ixN ds.length i with
  | none => rw [q] at e; cases e
  | some j =>
    rw [q] at e
    exact h.get e
theorem ix3 : IxR X (R3 X.K ixD) := by
  intro value slice pins s σ H vx vy v u Q' I rx ry h hs
  obtain ⟨x, y, M, Q, hx, hy, hm, q, k⟩ := h
  unfold ixD at q
  split at q
  · obtain ⟨d, e, q⟩ := elimF q
    obtain ⟨p, xs, rfl, h1, h2⟩ := hx.tup_inv
    cases hy.int_inv
    obtain ⟨w, e1, e2⟩ := atI_has h2 e
    exact ix_tup value slice pins s σ H _ _ v u Q' I rx ry ⟨p, xs, _, w, rfl, rfl, h1, e1, k _ _ _ _ e2 hm .refl q⟩ hs
  · obtain ⟨ds, e0, q⟩ := elimF q
    obtain ⟨d, e, q⟩ := elimF q
    cases hx.ref_inv
    cases hy.int_inv
    obtain ⟨xs, h1, h2, _⟩ := rol_there hm e0
    obtain ⟨w, e1, e2⟩ := atI_has h2 e
    exact ix_list value slice pins s σ H _ _ v u Q' I rx ry ⟨_, xs, _, w, rfl, rfl, h1, e1, k _ _ _ _ e2 hm .refl q⟩ hs
  · obtain ⟨d, e, q⟩ := elimF q
    obtain ⟨p, xs, rfl, h1, h2⟩ := hx.rl_inv
    cases hy.int_inv
    obtain ⟨w, e1, e2⟩ := atI_has h2 e
    exact ix_list value slice pins s σ H _ _ v u Q' I rx ry ⟨p, xs, _, w, rfl, rfl, h1.sq, e1, k _ _ _ _ e2 hm .refl q⟩ hs
  · obtain ⟨q1, q⟩ := q
    obtain ⟨c, e, q⟩ := elimF q
    cases hx.str_inv
    cases hy.int_inv
    exact ix_str value slice pins s σ H _ _ v u Q' I rx ry ⟨_, _, c, rfl, rfl, q1, e, k _ _ _ _ .str hm .refl q⟩ hs
  · exact q.elim
theorem e3_ix (ha : E3 X a ta) (hb : E3 X b tb) (hs : PlainIx b := by exact fun _ _ => rfl) : E3 X (.Subscript a b pos) (i3 ta tb) := PE.mono (pe_ix ix3 ha hb hs) two3
def cutD (ds : List D) (lo hi : Option Int) : List D := (ds.drop (HT.sIx ds.length 0 lo)).take (HT.sIx ds.length ds.length hi - HT.sIx ds.length 0 lo)
theorem cut_has {K : PySem.W.Frag} {H : Hp} {ds : List D} {xs : List V} {l h : Option Int} (q : HasL K H ds xs) : HasL K H (cutD ds l h) (cutV xs l h) := by
  unfold cutD cutV
  rw [q.length]
  exact (q.drop _).take _
abbrev T3O := DSt → Mp → (Option Int → Mp → Prop) → Prop
def loO (K : PySem.W.Frag) (t : T3O) : TO := fun σ H Q' => ∃ δ M Q, St3 K H σ δ ∧ HM K H M ∧ t δ M Q ∧ ∀ o H' M', HM K H' M' → ExtT K H H' → Q o M' → Q' o H'
def O3 (X : Cx) (e : Option Expr) (t : T3O) : Prop := PO X e (loO X.K t)
def noPart3 : T3O := fun _ M Q => Q none M
def part3 (t : T3) : T3O := fun δ M Q => t δ M fun d M1 => match d with | .int i => Q (some i) M1 | _ => False
theorem PO.mono {X : Cx} {e : Option Expr} {t t' : TO} (h : PO X e t) (m : ∀ σ H Q, t' σ H Q → t σ H Q) : PO X e t' := fun pins s σ H Q I q => h pins s σ H Q I (m σ H Q q)
theorem o3_none : O3 X none noPart3 := PO.mono po_none fun σ H Q' ⟨δ, M, Q, hs, hm, ht, k⟩ => k none H M hm .refl ht
theorem o3_some {e : Expr} {t : T3} (h : E3 X e t) : O3 X (some e) (part3 t) := PO.mono (po_some h) fun σ H Q' ⟨δ, M, Q, hs, hm, ht, k⟩ =>
  ⟨δ, M, _, hs, hm, ht, fun v H1 d M1 hd hm1 e1 q1 => by
    cases d with
    | int i => exact ⟨i, hd.int_inv, k (some i) H1 M1 hm1 e1 q1⟩
    | _ => exact q1.elim⟩
def slD (x : D) (lo hi : Option Int) (M : Mp) (Q : DK) : Prop := match x with
  | .tup ds => Q (.tup (cutD ds lo hi)) M
  | .ref a => (lstM M a).elim False fun ds => ∀ p, M p = none → Q (.ref p) (updM M p (.lst (cutD ds lo hi)))
  | .rl ds => ∀ p, M p = none → Q (.ref p) (updM M p (.lst (cutD ds lo hi)))
  | _ => False
def s3 (te : T3) (tl th : T3O) : T3 := fun δ M Q => te δ M fun x M1 => tl δ M1 fun l M2 => th δ M2 fun u M3 => slD x l u M3 Q
def rSl3 (K : PySem.W.Frag) : V → Option Int → Option Int → Hp → VK → Prop := fun vx l u H Q' => ∃ x M Q, Has K H x vx ∧ HM K H M ∧ slD x l u M Q ∧ Up K H Q' Q
theorem cut_all {ds : List D} {lo hi : Option Int} (h : HT.sIx ds.length 0 lo = 0 ∧ HT.sIx ds.length ds.length hi = ds.length) : cutD ds lo hi = ds := by
  unfold cutD
  rw [h.1, h.2, List.drop_zero, Nat.sub_zero, List.take_length]
theorem sl3 : SlR X (rSl3 X.K) := by
  intro pins s σ H vx v vl vu l u sl Q' I rx hsl pl pu h
  obtain ⟨x, M, Q, hx, hm, q, k⟩ := h
  cases x with
  | tup ds =>
    have q2 : Q (.tup (cutD ds l u)) M := q
    obtain ⟨a, xs, rfl, h1, h2⟩ := hx.tup_inv
    by_cases q1 : HT.sIx ds.length 0 l = 0 ∧ HT.sIx ds.length ds.length u = ds.length
    · rw [cut_all q1] at q2
      exact sl_all pins s σ H _ v vl vu l u sl Q' I rx hsl pl pu ⟨a, xs, rfl, h1, by rw [← h2.length]; exact q1, k _ _ _ _ hx hm .refl q2⟩
    refine sl_tup pins s σ H _ v vl vu l u sl Q' I rx hsl pl pu ⟨a, xs, rfl, h1, by rw [← h2.length]; exact q1, fun p hp => ?_⟩
    have e : ExtT X.K H (upd H p (.tup (cutV xs l u))) := .new hp
    exact k _ _ _ _ (.tup (.of upd_same) ((cut_has h2).mono e)) (hm.add hp) e q2
  | ref a =>
    obtain ⟨ds, e0, q⟩ := elimF q
    cases hx.ref_inv
    obtain ⟨xs, h1, h2, _⟩ := rol_there hm e0
    refine sl_list pins s σ H _ v vl vu l u sl Q' I rx hsl pl pu ⟨a, xs, rfl, h1, fun p hp => ?_⟩
    have e : ExtT X.K H (upd H p (.lst (cutV xs l u))) := .new hp
    exact k _ _ _ _ .ref (hm.new (c := .lst (cutD ds l u)) hp ⟨_, upd_same, (cut_has h2).mono e⟩) e (q p (hm.fresh hp))
  | rl ds =>
    obtain ⟨a, xs, rfl, h1, h2⟩ := hx.rl_inv
    refine sl_list pins s σ H _ v vl vu l u sl Q' I rx hsl pl pu ⟨a, xs, rfl, h1.sq, fun p hp => ?_⟩
    have e : ExtT X.K H (upd H p (.lst (cutV xs l u))) := .new hp
    exact k _ _ _ _ .ref (hm.new (c := .lst (cutD ds l u)) hp ⟨_, upd_same, (cut_has h2).mono e⟩) e (q p (hm.fresh hp))
  | _ => exact q.elim
theorem e3_slice {e : Expr} {te : T3} {lo hi : Option Expr} {tl th : T3O} {p2 : Pos} (he : E3 X e te) (hl : O3 X lo tl) (hu : O3 X hi th) : E3 X (.Subscript e (.Slice lo hi none p2) pos) (s3 te tl th) := PE.mono (pe_slice sl3 he hl hu) fun σ H Q' ⟨δ, M, Q, hs, hm, ht, k⟩ =>
  ⟨δ, M, _, hs, hm, ht, fun v H1 x M1 hx hm1 e1 q1 => ⟨δ, M1, _, hs.mono e1, hm1, q1, fun l H2 M2 hm2 e2 q2 => ⟨δ, M2, _, hs.mono (e1.trans e2), hm2, q2, fun u H3 M3 hm3 e3 q3 => ⟨x, M3, Q, hx.mono (e2.trans e3), hm3, q3, lo_up (e1.trans (e2.trans e3)) k⟩⟩⟩⟩
def anil3 : T3A := fun _ M Q => Q [] M
def acons3 (ta : T3) (tr : T3A) : T3A := fun δ M Q => ta δ M fun x M1 => tr δ M1 fun xs M2 => Q (x :: xs) M2
theorem a3_nil : A3 X [] anil3 := PA.mono pa_nil fun σ H Q' ⟨δ, M, Q, hs, hm, ht, k⟩ => k [] H [] M .nil hm .refl ht
theorem a3_cons {e : Expr} {es : List Expr} {te : T3} {t : T3A} (ha : E3 X e te) (hr : A3 X es t) (hs : starEach (e :: es) X.env = (false, eval e X.env) :: starEach es X.env := by rfl) : A3 X (e :: es) (acons3 te t) := PA.mono (pa_cons ha hr hs) fun σ H Q' ⟨δ, M, Q, hs, hm, ht, k⟩ =>
  ⟨δ, M, _, hs, hm, ht, fun v H1 x M1 hx hm1 e1 q1 => ⟨δ, M1, _, hs.mono e1, hm1, q1, fun vs H2 xs M2 hxs hm2 e2 q2 => k _ H2 _ M2 (.cons (hx.mono e2) hxs) hm2 (e1.trans e2) q2⟩⟩
def tup3 (t : T3A) : T3 := fun δ M Q => t δ M fun ds M1 => ds.length ≤ sizeLine ∧ Q (.tup ds) M1
def lst3 (t : T3A) : T3 := fun δ M Q => t δ M fun ds M1 => ds.length ≤ sizeLine ∧ ∀ p, M1 p = none → Q (.ref p) (updM M1 p (.lst ds))
theorem e3_tup {x1} {es : List Expr} {t : T3A} (h : A3 X es t) : E3 X (.Tuple es x1 pos) (tup3 t) := PE.mono (pe_tup h) fun σ H Q' ⟨δ, M, Q, hs, hm, ht, k⟩ =>
  ⟨δ, M, _, hs, hm, ht, fun vs H1 ds M1 hds hm1 e1 q1 => ⟨by rw [← hds.length]; exact q1.1, fun p hp => by
    have e : ExtT X.K H1 (upd H1 p (.tup vs)) := .new hp
    exact k _ _ _ M1 (.tup (.of upd_same) (hds.mono e)) (hm1.add hp) (e1.trans e) q1.2⟩⟩
theorem e3_lst {es : List Expr} {t : T3A} (h : A3 X es t) : E3 X (.List es pos) (lst3 t) := PE.mono (pe_lst h) fun σ H Q' ⟨δ, M, Q, hs, hm, ht, k⟩ =>
  ⟨δ, M, _, hs, hm, ht, fun vs H1 ds M1 hds hm1 e1 q1 => ⟨by rw [← hds.length]; exact q1.1, fun p hp => by
    have e : ExtT X.K H1 (upd H1 p (.lst vs)) := .new hp
    exact k _ _ _ _ .ref (hm1.new (c := .lst ds) hp ⟨_, upd_same, hds.mono e⟩) (e1.trans e) (q1.2 p (hm1.fresh hp))⟩⟩
def seq3 (t u : T3S) : T3S := fun D δ M => t { D with nx := u D } δ M
def nx3 : T3S := fun D δ M => D.nx δ M
theorem ss3_nil : Ss3 X [] nx3 := PSs.mono pss_nil fun D' σ H ⟨δ, M, D, hs, hm, ht, k1, k2, k3, k4⟩ => k1 σ H δ M hs hm .refl rfl ht
theorem ss3_cons {st : Stmt} {rest : List Stmt} {t u : T3S} (h1 : S3 X st t) (h2 : Ss3 X rest u) : Ss3 X (st :: rest) (seq3 t u) := PSs.mono (pss_cons h1 h2) fun D' σ H ⟨δ, M, D, hs, hm, ht, k1, k2, k3, k4⟩ =>
  ⟨δ, M, { D with nx := u D }, hs, hm, ht, fun σ1 H1 δ1 M1 hs1 hm1 e1 l1 q1 => ⟨δ1, M1, D, hs1, hm1, q1, fun σ' H' δ' M' x1 x2 x3 x4 x5 => k1 σ' H' δ' M' x1 x2 (e1.trans x3) (x4.trans l1) x5, fun v H' d M' x1 x2 x3 x4 => k2 v H' d M' x1 x2 (e1.trans x3) x4,
    fun σ' H' δ' M' x1 x2 x3 x4 x5 => k3 σ' H' δ' M' x1 x2 (e1.trans x3) (x4.trans l1) x5, fun σ' H' δ' M' x1 x2 x3 x4 x5 => k4 σ' H' δ' M' x1 x2 (e1.trans x3) (x4.trans l1) x5⟩, k2, k3, k4⟩
theorem ss3_one {st : Stmt} {t : T3S} (h1 : S3 X st t) : Ss3 X [st] t := PSs.mono (pss_one h1) fun D' σ H h => h
def drop3 (te : T3) : T3S := fun D δ M => te δ M fun _ M1 => D.nx δ M1
theorem s3_expr {e : Expr} {te : T3} (he : E3 X e te) (hsw : swapsWith e none pos.line X.env = pure false := by rfl) : S3 X (.Expr e pos) (drop3 te) := PS.mono (ps_expr he hsw) fun D' σ H ⟨δ, M, D, hs, hm, ht, k1, k2, k3, k4⟩ =>
  ⟨δ, M, _, hs, hm, ht, fun v H1 d M1 hd hm1 e1 q1 => k1 σ H1 δ M1 (hs.mono e1) hm1 e1 rfl q1⟩
def ret3 (te : T3) : T3S := fun D δ M => te δ M D.rt
theorem s3_ret {e : Expr} {te : T3} (he : E3 X e te) : S3 X (.Return (some e) pos) (ret3 te) := PS.mono (ps_ret he) fun D' σ H ⟨δ, M, D, hs, hm, ht, k1, k2, k3, k4⟩ => ⟨δ, M, _, hs, hm, ht, fun v H1 d M1 hd hm1 e1 q1 => k2 v H1 d M1 hd hm1 e1 q1⟩
def ifs3 (c : T3T) (t u : T3S) : T3S := fun D δ M => c δ M fun b M1 => if b = true then t D δ M1 else u D δ M1
theorem s3_if {c : Expr} {as bs : List Stmt} {tc : T3T} {t u : T3S} (hc : B3 X c tc) (ha : Ss3 X as t) (hb : Ss3 X bs u) : S3 X (.If c as bs pos) (ifs3 tc t u) := PS.mono (ps_if hc ha hb) fun D' σ H ⟨δ, M, D, hs, hm, ht, k1, k2, k3, k4⟩ =>
  ⟨δ, M, _, hs, hm, ht, fun b H1 M1 hm1 e1 q1 => by
    have up : ∀ t : T3S, t D δ M1 → loS X.K t D' σ H1 := fun t q => ⟨δ, M1, D, hs.mono e1, hm1, q, fun σ' H' δ' M' x1 x2 x3 x4 x5 => k1 σ' H' δ' M' x1 x2 (e1.trans x3) x4 x5, fun v H' d M' x1 x2 x3 x4 => k2 v H' d M' x1 x2 (e1.trans x3) x4,
      fun σ' H' δ' M' x1 x2 x3 x4 x5 => k3 σ' H' δ' M' x1 x2 (e1.trans x3) x4 x5, fun σ' H' δ' M' x1 x2 x3 x4 x5 => k4 σ' H' δ' M' x1 x2 (e1.trans x3) x4 x5⟩
    cases b with
    | true => exact (if_pos rfl).mpr (up t ((if_pos rfl).mp q1))
    | false => exact (if_neg Bool.false_ne_true).mpr (up u ((if_neg Bool.false_ne_true).mp q1))⟩
def never3 : T3S := fun _ _ _ => False
theorem s3_never {st : Stmt} : S3 X st never3 := PS.mono ps_never fun D' σ H ⟨δ, M, D, hs, hm, ht, _⟩ => ht
abbrev T3G := D → DSt → Mp → (DSt → Mp → Prop) → Prop
def loG (K : PySem.W.Frag) (g : T3G) : TG := fun v σ H Q' => ∃ d δ M Q, Has K H d v ∧ St3 K H σ δ ∧ HM K H M ∧ g d δ M Q ∧ ∀ σ' H' δ' M', St3 K H' σ' δ' → HM K H' M' → ExtT K H H' → σ'.length = σ.length → Q δ' M' → Q' σ' H'
def G3 (X : Cx) (e : Expr) (g : T3G) : Prop := PG X e (loG X.K g)
theorem PG.monoL {X : Cx} {e : Expr} {t t' : TG} (h : PG X e t) (m : ∀ v σ H Q, σ.length = X.N.length → t' v σ H Q → t v σ H Q) : PG X e t' := fun pins s σ H v u Q I r q => h pins s σ H v u Q I r (m v σ H Q I.len q)
def gName3 (i : Nat) : T3G := fun d δ M Q => Q (δ.set i (some d)) M
theorem g3_name {i : Nat} {x : Str} (hN : X.N.Nodup) (hi : X.N[i]? = some x) (hx : Loc X.env.scope x) (hf : X.fn x = true ∨ X.env.scope.names.lookup x = some .local := by first | exact .inl rfl | exact .inr rfl | assumption) : G3 X (.Name x pos) (gName3 i) :=
  PG.monoL (pg_name hN hi hx hf) fun v σ H Q' hl ⟨d, δ, M, Q, hd, hs, hm, ht, k⟩ => k _ H _ M (hs.set hd (by rw [hl]; exact (List.getElem?_eq_some_iff.mp hi).1)) hm .refl (by simp) ht
abbrev T3Gs := List D → DSt → Mp → (DSt → Mp → Prop) → Prop
def loGs (K : PySem.W.Frag) (g : T3Gs) : TGs := fun vs σ H Q' => ∃ ds δ M Q, HasL K H ds vs ∧ St3 K H σ δ ∧ HM K H M ∧ g ds δ M Q ∧ ∀ σ' H' δ' M', St3 K H' σ' δ' → HM K H' M' → ExtT K H H' → σ'.length = σ.length → Q δ' M' → Q' σ' H'
def Gs3 (X : Cx) (es : List Expr) (g : T3Gs) : Prop := PGs X es (loGs X.K g)
theorem PGs.mono {X : Cx} {e : List Expr} {t t' : TGs} (h : PGs X e t) (m : ∀ v σ H Q, t' v σ H Q → t v σ H Q) : PGs X e t' := fun pins s σ H v u Q I r q => h pins s σ H v u Q I r (m v σ H Q q)
theorem PG.mono {X : Cx} {e : Expr} {t t' : TG} (h : PG X e t) (m : ∀ v σ H Q, t' v σ H Q → t v σ H Q) : PG X e t' := fun pins s σ H v u Q I r q => h pins s σ H v u Q I r (m v σ H Q q)
def gnil3 : T3Gs := fun ds δ M Q => match ds with | [] => Q δ M | _ => False
def gcons3 (t : T3G) (u : T3Gs) : T3Gs := fun ds δ M Q => match ds with | d :: r => t d δ M fun δ' M' => u r δ' M' Q | [] => False
theorem gs3_nil : Gs3 X [] gnil3 := PGs.mono pgs_nil fun vs σ H Q' ⟨ds, δ, M, Q, hd, hs, hm, ht, k⟩ => by
  cases ds with
  | nil => exact ⟨hd.nil_inv, k σ H δ M hs hm .refl rfl ht⟩
  | cons _ _ => exact ht.elim
theorem gs3_cons {e : Expr} {es : List Expr} {t : T3G} {u : T3Gs} (h1 : G3 X e t) (h2 : Gs3 X es u) (hs : (assignEach (e :: es) X.env).map (·.2) = assign e X.env :: (assignEach es X.env).map (·.2) := by rfl) : Gs3 X (e :: es) (gcons3 t u) :=
  PGs.mono (pgs_cons h1 h2 hs) fun vs σ H Q' ⟨ds, δ, M, Q, hd, hs, hm, ht, k⟩ => by
  cases ds with
  | nil => exact ht.elim
  | cons d r =>
    obtain ⟨x, xr, rfl, hx, hr⟩ := hd.inv
    exact ⟨x, xr, rfl, d, δ, M, _, hx, hs, hm, ht, fun σ1 H1 δ1 M1 hs1 hm1 e1 l1 q1 => ⟨r, δ1, M1, Q, hr.mono e1, hs1, hm1, q1, fun σ' H' δ' M' x1 x2 x3 x4 x5 => k σ' H' δ' M' x1 x2 (e1.trans x3) (x4.trans l1) x5⟩⟩
def gtup3 (n : Nat) (t : T3Gs) : T3G := fun d δ M Q => match d with | .tup ds => ds.length = n ∧ t ds δ M Q | _ => False
theorem g3_tup {es : List Expr} {k : Nat} {t : T3Gs} {n : Nat} (hc : X.calm = true) (h : Gs3 X es t) (hn : (assignEach es X.env).length = n := by rfl) (hst : (assignEach es X.env).findIdx? (·.1) = none := by rfl) : G3 X (.Tuple es k pos) (gtup3 n t) :=
  PG.mono (pg_tup hc h hn hst) fun v σ H Q' ⟨d, δ, M, Q, hd, hs, hm, ht, k⟩ => by
  cases d with
  | tup ds =>
    obtain ⟨a, xs, rfl, h1, h2⟩ := hd.tup_inv
    exact ⟨a, xs, rfl, h1, by rw [← h2.length]; exact ht.1, ds, δ, M, Q, h2, hs, hm, ht.2, k⟩
  | _ => exact ht.elim
def asg3 (te : T3) (g : T3G) : T3S := fun D δ M => te δ M fun x M1 => g x δ M1 D.nx
theorem s3_set {i : Nat} {x : Str} {e : Expr} {te : T3} {pos' : Pos} (hN : X.N.Nodup) (hi : X.N[i]? = some x) (hx : Loc X.env.scope x) (he : E3 X e te) (hsw : swapsWith e (some (.Name x pos')) pos.line X.env = pure false := by rfl)
    (hf : X.fn x = true ∨ X.env.scope.names.lookup x = some .local := by first | exact .inl rfl | exact .inr rfl | assumption) : S3 X (.Assign [.Name x pos'] e pos) (asg3 te (gName3 i)) := PS.monoL (ps_set hN hi hx he hsw hf) fun D' σ H hl ⟨δ, M, D, hs, hm, ht, k1, k2, k3, k4⟩ =>
  ⟨δ, M, _, hs, hm, ht, fun v H1 d M1 hd hm1 e1 q1 => k1 _ H1 _ M1 ((hs.mono e1).set hd (by rw [hl]; exact (List.getElem?_eq_some_iff.mp hi).1)) hm1 e1 (by simp) q1⟩
end
end L3
namespace L3
open PySem PySem.Spec PyProof.Rows L2
abbrev Sp3 := List D → Mp → DK → Prop
def up3 (K : PySem.W.Frag) (sp : Sp3) : Sp := fun vs H Q' _ => ∃ ds M Q, HasL K H ds vs ∧ HM K H M ∧ sp ds M Q ∧ Up K H Q' Q
def start3 (N : List Str) (ds : List D) : DSt := ds.map some ++ List.replicate (N.length - ds.length) none
theorem start_has {K : PySem.W.Frag} {H : Hp} {N : List Str} {ds : List D} {vs : List V} (h : HasL K H ds vs) : St3 K H (L2.start N vs) (start3 N ds) := fun i d q => by
  unfold start3 at q
  unfold L2.start
  by_cases hi : i < ds.length
  · rw [List.getElem?_append_left (by simpa using hi), List.getElem?_map] at q
    cases e : ds[i]? with
    | none => rw [e] at q; cases q
    | some d' =>
      rw [e] at q
      cases q
      obtain ⟨v, e1, e2⟩ := h.get e
      refine ⟨v, ?_, e2⟩
      rw [List.getElem?_append_left (by rw [List.length_map, ← h.length]; exact hi), List.getElem?_map, e1]
      rfl
  · rw [List.getElem?_append_right (by simpa using hi), List.getElem?_replicate] at q
    split at q <;> cases q
section
variable {P : Program} {w : World} {K : PySem.W.Frag} {mg : Str → Option Value} {base : Heap}
abbrev Fn3 (P : Program) (w : World) (K : PySem.W.Frag) (mg : Str → Option Value) (base : Heap) (k : Nat) (f : Addr) (fd : FuncData) (ps : List Str) (sp : Sp3) : Prop := FnOk P w K mg base CX0 k f fd ps (up3 K sp)
end
section
variable {X : Cx} {k : Nat} {f C : Addr} {fd : FuncData} {ps : List Str} {sp : Sp3} {x m fn : Str} {p pos apos : Pos} {e o : Expr} {es : List Expr} {ta : T3} {t : T3A}
def call3 (sp : Sp3) (t : T3A) : T3 := fun δ M Q => t δ M fun ds M1 => sp ds M1 Q
theorem e3_call (F : Fn3 X.prog X.w X.K X.mg X.base k f fd ps sp) (hr : Room k X.A) (hg : Gl X x) (hm : X.mg x = some (.ref f)) (hk : PySem.W.keepIn X.K (.ref f) = true) (hb : Binds X.K fd ps []) (ha : A3 X (e :: es) t)
    (hdb : (x == ("__debug__" : Str)) = false := by decide) (he : starEach (e :: es) X.env = (false, eval e X.env) :: starEach es X.env := by rfl) (hpl : (backTo pos (starEach es X.env)).any (·.1) = false := by rfl) :
    E3 X (.Call (.Name x p) (e :: es) [] pos) (call3 sp t) := PE.mono (pe_call F hr hg hm hk hb .nil (pass0 (X := X)) ha hdb he hpl) fun σ H Q' ⟨δ, M, Q, hs, hm, ht, k⟩ =>
  ⟨δ, M, _, hs, hm, ht, fun vs H1 ds M1 hd hm1 e1 q1 => ⟨ds, M1, Q, by rw [List.append_nil]; exact hd, hm1, q1, lo_up e1 k⟩⟩
def C3 (X : Cx) (f : Value) (r : Sp3) : Prop := CallR X f fun vs H Q' => ∃ ds M Q, HasL X.K H ds vs ∧ HM X.K H M ∧ r ds M Q ∧ Up X.K H Q' Q
theorem e3_callB {id : String} {r : Sp3} (hc : C3 X (.builtin id) r) (hg : Gl X x) (hm : X.mg x = none) (hv : bootBuiltins x = some (.builtin id)) (ha : A3 X (e :: es) t) (hn : x ≠ "__name__" := by decide) (hdb : (x == ("__debug__" : Str)) = false := by decide)
    (he : starEach (e :: es) X.env = (false, eval e X.env) :: starEach es X.env := by rfl) (hpl : (backTo pos (starEach es X.env)).any (·.1) = false := by rfl) : E3 X (.Call (.Name x p) (e :: es) [] pos) (call3 r t) :=
  PE.mono (pe_callB hc hg hm hv ha hn hdb he hpl) fun σ H Q' ⟨δ, M, Q, hs, hm, ht, k⟩ => ⟨δ, M, _, hs, hm, ht, fun vs H1 ds M1 hd hm1 e1 q1 => ⟨ds, M1, Q, hd, hm1, q1, lo_up e1 k⟩⟩
theorem e3_callTy {T : String} {r : Sp3} (hc : C3 X (.type T) r) (hg : Gl X x) (hm : X.mg x = none) (hv : bootBuiltins x = some (.type T)) (ha : A3 X (e :: es) t) (hn : x ≠ "__name__" := by decide) (hdb : (x == ("__debug__" : Str)) = false := by decide)
    (he : starEach (e :: es) X.env = (false, eval e X.env) :: starEach es X.env := by rfl) (hpl : (backTo pos (starEach es X.env)).any (·.1) = false := by rfl) : E3 X (.Call (.Name x p) (e :: es) [] pos) (call3 r t) :=
  PE.mono (pe_callTy hc hg hm hv ha hn hdb he hpl) fun σ H Q' ⟨δ, M, Q, hs, hm, ht, k⟩ => ⟨δ, M, _, hs, hm, ht, fun vs H1 ds M1 hd hm1 e1 q1 => ⟨ds, M1, Q, hd, hm1, q1, lo_up e1 k⟩⟩
def lenD (ds : List D) (M : Mp) (Q : DK) : Prop := match ds with
  | [.str z] => z.length ≤ sizeLine ∧ Q (.int z.length) M
  | [.tup es] => Q (.int es.length) M
  | [.ref a] => (lstM M a).elim False fun es => Q (.int es.length) M
  | [.rl es] => Q (.int es.length) M
  | _ => False
theorem one_inv {K : PySem.W.Frag} {H : Hp} {d : D} {vs : List V} (h : HasL K H [d] vs) : ∃ v, vs = [v] ∧ Has K H d v := by
  obtain ⟨x, r, rfl, a, b⟩ := h.inv
  rw [b.nil_inv]
  exact ⟨x, rfl, a⟩
theorem two_inv {K : PySem.W.Frag} {H : Hp} {d e : D} {vs : List V} (h : HasL K H [d, e] vs) : ∃ v u, vs = [v, u] ∧ Has K H d v ∧ Has K H e u := by
  obtain ⟨x, r, rfl, a, b⟩ := h.inv
  obtain ⟨y, rfl, c⟩ := one_inv b
  exact ⟨x, y, rfl, a, c⟩
theorem c3_len : C3 X (.builtin "len") lenD := by
  intro pins s σ H vs us Q' I rv h
  obtain ⟨ds, M, Q, hd, hm, q, k⟩ := h
  unfold lenD at q
  split at q
  · obtain ⟨v, rfl, hv⟩ := one_inv hd
    cases hv.str_inv
    exact call_len_str pins s σ H _ us Q' I rv ⟨_, rfl, q.1, k _ _ _ _ .int hm .refl q.2⟩
  · obtain ⟨v, rfl, hv⟩ := one_inv hd
    obtain ⟨a, xs, rfl, h1, h2⟩ := hv.tup_inv
    exact call_len_seq pins s σ H _ us Q' I rv ⟨a, xs, rfl, .inr h1, k _ _ _ _ (by rw [← h2.length]; exact .int) hm .refl q⟩
  · obtain ⟨v, rfl, hv⟩ := one_inv hd
    obtain ⟨es, e0, q⟩ := elimF q
    cases hv.ref_inv
    obtain ⟨xs, h1, h2, _⟩ := rol_there hm e0
    exact call_len_seq pins s σ H _ us Q' I rv ⟨_, xs, rfl, .inl h1, k _ _ _ _ (by rw [← h2.length]; exact .int) hm .refl q⟩
  · obtain ⟨v, rfl, hv⟩ := one_inv hd
    obtain ⟨a, xs, rfl, h1, h2⟩ := hv.rl_inv
    exact call_len_seq pins s σ H _ us Q' I rv ⟨a, xs, rfl, .inl h1.sq, k _ _ _ _ (by rw [← h2.length]; exact .int) hm .refl q⟩
  · exact q.elim
def minD (ds : List D) (M : Mp) (Q : DK) : Prop := match ds with
  | [.int i, .int j] => Q (.int (if j < i then j else i)) M
  | _ => False
theorem c3_min (hc : X.calm = true) : C3 X (.builtin "min") minD := by
  intro pins s σ H vs us Q' I rv h
  obtain ⟨ds, M, Q, hd, hm, q, k⟩ := h
  unfold minD at q
  split at q
  · obtain ⟨v, u, rfl, hv, hw⟩ := two_inv hd
    cases hv.int_inv; cases hw.int_inv
    exact call_min2 hc pins s σ H _ us Q' I rv ⟨_, _, rfl, k _ _ _ _ .int hm .refl q⟩
  · exact q.elim
def tupleD (ds : List D) (M : Mp) (Q : DK) : Prop := match ds with
  | [.tup es] => Q (.tup es) M
  | [.ref a] => (lstM M a).elim False fun es => Q (.tup es) M
  | [.rl es] => Q (.tup es) M
  | _ => False
theorem c3_tuple : C3 X (.type "tuple") tupleD := by
  intro pins s σ H vs us Q' I rv h
  obtain ⟨ds, M, Q, hd, hm, q, k⟩ := h
  unfold tupleD at q
  split at q
  · obtain ⟨v, rfl, hv⟩ := one_inv hd
    obtain ⟨a, xs, rfl, h1, h2⟩ := id hv.tup_inv
    exact call_tuple_of pins s σ H _ us Q' I rv ⟨a, xs, rfl, .inr ⟨h1, k _ _ _ _ hv hm .refl q⟩⟩
  · obtain ⟨v, rfl, hv⟩ := one_inv hd
    obtain ⟨es, e0, q⟩ := elimF q
    cases hv.ref_inv
    obtain ⟨xs, h1, h2, _⟩ := rol_there hm e0
    refine call_tuple_of pins s σ H _ us Q' I rv ⟨_, xs, rfl, .inl ⟨h1, fun l hl => ?_⟩⟩
    have e : ExtT X.K H (upd H l (.tup xs)) := .new hl
    exact k _ _ _ _ (.tup (.of upd_same) (h2.mono e)) (hm.add hl) e q
  · obtain ⟨v, rfl, hv⟩ := one_inv hd
    obtain ⟨a, xs, rfl, h1, h2⟩ := hv.rl_inv
    refine call_tuple_of pins s σ H _ us Q' I rv ⟨_, xs, rfl, .inl ⟨h1.sq, fun l hl => ?_⟩⟩
    have e : ExtT X.K H (upd H l (.tup xs)) := .new hl
    exact k _ _ _ _ (.tup (.of upd_same) (h2.mono e)) (hm.add hl) e q
  · exact q.elim
theorem lookup_has {K : PySem.W.Frag} {H : Hp} {f : Str} : ∀ {fs : List (Str × D)} {vs : List (Str × V)}, FldOk K H fs vs → (∀ d, fs.lookup f = some d → ∃ v, vs.lookup f = some v ∧ Has K H d v) ∧ (fs.lookup f = none → vs.lookup f = none)
  | [], [], _ => ⟨fun d e => by simp at e, fun _ => rfl⟩
  | [], _ :: _, h => by have := h.1; simp at this
  | _ :: _, [], h => by have := h.1; simp at this
  | (g, d) :: fs, (g', v) :: vs, h => by
    have h1 : g' = g ∧ vs.map (·.1) = fs.map (·.1) := by
      have := h.1
      simpa using this
    obtain ⟨x, r, e, a, b⟩ := h.2.inv
    have e' : v :: vs.map (·.2) = x :: r := e
    cases e'
    obtain ⟨i1, i2⟩ := lookup_has (f := f) (fs := fs) (vs := vs) ⟨h1.2, b⟩
    rw [h1.1]
    refine ⟨fun d' e => ?_, fun e => ?_⟩
    · rw [List.lookup_cons] at e ⊢
      cases q : f == g with
      | true => rw [q] at e; cases e; exact ⟨v, rfl, a⟩
      | false => rw [q] at e; exact i1 d' e
    · rw [List.lookup_cons] at e ⊢
      cases q : f == g with
      | true => rw [q] at e; cases e
      | false => rw [q] at e; exact i2 e
theorem mem_key {f : Str} {d : D} : ∀ {fs : List (Str × D)}, fs.lookup f = some d → f ∈ fs.map (·.1)
  | [], h => by simp at h
  | (g, e) :: r, h => by
    rw [List.lookup_cons] at h
    cases q : f == g with
    | true =>
      have z : f = g := by simpa using q
      rw [z, List.map_cons]
      exact List.mem_cons_self
    | false => rw [q] at h; simp [mem_key h]
def insM (o : Option Cell) (F : Addr → List (Str × D) → Prop) : Prop := match o with
  | some (.ins C fs) => F C fs
  | _ => False
theorem ins_of {o : Option Cell} {F : Addr → List (Str × D) → Prop} {C : Addr} {fs : List (Str × D)} (e : o = some (.ins C fs)) (h : F C fs) : insM o F := by rw [e]; exact h
theorem insM_inv {o : Option Cell} {F : Addr → List (Str × D) → Prop} (h : insM o F) : ∃ C fs, o = some (.ins C fs) ∧ F C fs := by
  unfold insM at h
  split at h
  · exact ⟨_, _, rfl, h⟩
  · exact h.elim
def fld3 (f : Str) (ta : T3) : T3 := fun δ M Q => ta δ M fun x M1 => match x with
  | .ref a => insM (M1 a) fun _ fs => (fs.lookup f).elim False fun d => Q d M1
  | _ => False
theorem e3_fld {f : Str} (he : E3 X o ta) (hb : attributeBase o f X.env (eval o X.env) = eval o X.env := by rfl) : E3 X (.Attribute o f pos) (fld3 f ta) := PE.mono (pe_fld he hb) fun σ H Q' ⟨δ, M, Q, hs, hm, ht, k⟩ =>
  ⟨δ, M, _, hs, hm, ht, fun v H1 d M1 hd hm1 e1 q1 => by
    cases d with
    | ref a =>
      cases hd.ref_inv
      obtain ⟨C, fs, e, q1⟩ := insM_inv q1
      obtain ⟨d, e2, q⟩ := elimF q1
      obtain ⟨dx, vs, h1, cl, na, fo⟩ := hm1 a _ e
      obtain ⟨v, e3, hv⟩ := (lookup_has fo).1 d e2
      exact ⟨a, C, dx, vs, v, rfl, h1, cl, na f (mem_key e2), e3, k v H1 d M1 hv hm1 e1 q⟩
    | _ => exact q1.elim⟩
def putD (f : Str) (v : D) : List (Str × D) → List (Str × D)
  | [] => [(f, v)]
  | (g, u) :: r => if g = f then (g, v) :: r else (g, u) :: putD f v r
theorem put_has {K : PySem.W.Frag} {H : Hp} {f : Str} {d : D} {v : V} (hv : Has K H d v) : ∀ {fs : List (Str × D)} {vs : List (Str × V)}, FldOk K H fs vs → FldOk K H (putD f d fs) (putF f v vs)
  | [], [], _ => ⟨rfl, .cons hv .nil⟩
  | [], _ :: _, h => by have := h.1; simp at this
  | _ :: _, [], h => by have := h.1; simp at this
  | (g, e) :: fs, (g', u) :: vs, h => by
    have h1 : g' = g ∧ vs.map (·.1) = fs.map (·.1) := by
      have := h.1
      simpa using this
    obtain ⟨x, r, e1, a, b⟩ := h.2.inv
    have e' : u :: vs.map (·.2) = x :: r := e1
    cases e'
    obtain ⟨hg, ht⟩ := h1
    subst hg
    rw [show putD f d ((g', e) :: fs) = (if g' = f then (g', d) :: fs else (g', e) :: putD f d fs) from rfl, show putF f v ((g', u) :: vs) = (if g' = f then (g', v) :: vs else (g', u) :: putF f v vs) from rfl]
    by_cases q : g' = f
    · rw [if_pos q, if_pos q]
      exact ⟨by simpa using ht, .cons hv b⟩
    · rw [if_neg q, if_neg q]
      obtain ⟨i1, i2⟩ := put_has hv (fs := fs) (vs := vs) ⟨ht, b⟩
      exact ⟨by simpa using i1, .cons a i2⟩
theorem put_keys {f : Str} {d : D} : ∀ {fs : List (Str × D)} {g : Str}, g ∈ (putD f d fs).map (·.1) → g = f ∨ g ∈ fs.map (·.1)
  | [], g, h => .inl (by simpa [putD] using h)
  | (k, e) :: r, g, h => by
    rw [show putD f d ((k, e) :: r) = (if k = f then (k, d) :: r else (k, e) :: putD f d r) from rfl] at h
    by_cases q : k = f
    · rw [if_pos q] at h
      exact .inr (by simpa using h)
    · rw [if_neg q] at h
      rw [List.map_cons, List.mem_cons] at h
      rcases h with h | h
      · exact .inr (by simp [h])
      · rcases put_keys h with z | z
        · exact .inl z
        · exact .inr (by simp; right; simpa using z)
def setf3 (K : PySem.W.Frag) (f : Str) (ta tv : T3) : T3S := fun D δ M => tv δ M fun y M1 => ta δ M1 fun x M2 => match x with
  | .ref a => insM (M2 a) fun C fs => NoAttr K C f ∧ fs.length < 1000 ∧ D.nx δ (updM M2 a (.ins C (putD f y fs)))
  | _ => False
theorem s3_fld {f : Str} {value : Expr} {tv : T3} {pos' : Pos} (ha : E3 X o ta) (hv : E3 X value tv) (hsw : swapsWith value (some (.Attribute o f pos')) pos.line X.env = pure false := by rfl) : S3 X (.Assign [.Attribute o f pos'] value pos) (setf3 X.K f ta tv) :=
  PS.mono (ps_fld ha hv hsw) fun D' σ H ⟨δ, M, D, hs, hm, ht, k1, k2, k3, k4⟩ =>
  ⟨δ, M, _, hs, hm, ht, fun y H1 dy M1 hy hm1 e1 q1 => ⟨δ, M1, _, hs.mono e1, hm1, q1, fun v H2 d M2 hd hm2 e2 q2 => by
    cases d with
    | ref a =>
      cases hd.ref_inv
      obtain ⟨C, fs, e, q2⟩ := insM_inv q2
      obtain ⟨na, hl, q⟩ := q2
      obtain ⟨dx, vs, h1, cl, nn, fo⟩ := hm2 a _ e
      have hlen : vs.length = fs.length := by have := congrArg List.length fo.1; simpa using this
      refine ⟨a, C, dx, vs, rfl, h1, cl, na, by omega, ?_⟩
      obtain ⟨hm3, e3⟩ := hm2.put (p := a) (o := .ins C dx (putF f y vs)) (c := .ins C (putD f dy fs)) e fun x => ⟨dx, _, upd_same, cl, fun g hg => by
        rcases put_keys hg with z | z
        · rw [z]; exact na
        · exact nn g z, put_has ((hy.mono e2).mono x) (fo.mono x)⟩
      exact k1 σ _ δ _ (hs.mono (e1.trans (e2.trans e3))) hm3 (e1.trans (e2.trans e3)) rfl q
    | _ => exact q2.elim⟩⟩
def make3 (C : Addr) (sp : Sp3) (t : T3A) : T3 := fun δ M Q => t δ M fun ds M1 => ∀ x, M1 x = none → sp (.ref x :: ds) (updM M1 x (.ins C [])) fun d M2 => d = .non ∧ Q (.ref x) M2
theorem make_has {K : PySem.W.Frag} {H : Hp} {M : Mp} {xa dx : Addr} (hm : HM K H M) (cl : Cls K C) (h1 : H xa = none) (h2 : H dx = none) (ne : dx ≠ xa) : HM K (upd (upd H dx (.own xa)) xa (.ins C dx [])) (updM M xa (.ins C [])) ∧ ExtT K H (upd (upd H dx (.own xa)) xa (.ins C dx [])) := by
  have h1' : upd H dx (.own xa) xa = none := by rw [upd_ne (Ne.symm ne)]; exact h1
  exact ⟨(hm.add (p := dx) (o := .own xa) h2).new h1' ⟨dx, [], upd_same, cl, fun g hg => by simp at hg, rfl, .nil⟩, ExtT.trans (.new h2) (.new h1')⟩
theorem e3_make (cl : Cls X.K C) (Mk' : Mk X.K C f) (F : Fn3 X.prog X.w X.K X.mg X.base k f fd ps sp) (hr : Room (k + 1) X.A) (hg : Gl X x) (hm : X.mg x = some (.ref C)) (hb : Binds X.K fd ps []) (ha : A3 X (e :: es) t)
    (hdb : (x == ("__debug__" : Str)) = false := by decide) (he : starEach (e :: es) X.env = (false, eval e X.env) :: starEach es X.env := by rfl) (hpl : (backTo pos (starEach es X.env)).any (·.1) = false := by rfl) :
    E3 X (.Call (.Name x p) (e :: es) [] pos) (make3 C sp t) := PE.mono (pe_make Mk' F hr hg hm hb .nil (pass0 (X := X)) ha hdb he hpl) fun σ H Q' ⟨δ, M, Q, hs, hm, ht, k⟩ =>
  ⟨δ, M, _, hs, hm, ht, fun vs H1 ds M1 hd hm1 e1 q1 => fun xa dx n1 n2 ne => by
    obtain ⟨hm2, e2⟩ := make_has hm1 cl n1 n2 ne
    refine ⟨.ref xa :: ds, _, _, ?_, hm2, q1 xa (hm1.fresh n1), fun v H3 d M3 hd3 hm3 e3 q3 => ?_⟩
    · rw [List.append_nil]
      exact .cons .ref (hd.mono e2)
    · obtain ⟨z, q3⟩ := q3
      subst z
      exact ⟨hd3.non_inv, k _ H3 _ M3 .ref hm3 (e1.trans (e2.trans e3)) q3⟩⟩
def tMethD (m : Str) (R : Addr → Sp → Prop) (ta : TE) (t : TA) : TE := fun σ H Q => ta σ H fun x H1 => ∃ a C dx fs sp, x = .ref a ∧ H1 a = some (.ins C dx fs) ∧ fs.lookup m = none ∧ R C sp ∧ t σ H1 fun vs H2 => sp (x :: vs) H2 Q E0
def MethOk (P : Program) (w : World) (K : PySem.W.Frag) (mg : Str → Option Value) (base : Heap) (k : Nat) (m : Str) (C : Addr) (sp : Sp) : Prop := Cls K C ∧ ∃ f fd ps, Meth K C m f ∧ FnOk P w K mg base CX0 k f fd ps sp ∧ Binds K fd ps []
theorem pe_methD0 {R : Addr → Sp → Prop} {ta : TE} {pl : Sem Bool} (he : PE X o ta) (hR : ∀ C sp, R C sp → MethOk X.prog X.w X.K X.mg X.base k m C sp) (hr : Room k X.A)
    (ht : eval (.Call (.Attribute o m apos) [] [] pos) X.env = (do
      let ov ← eval o X.env
      standAt apos.atName
      let (f, first) ← holding [ov] (getMethod ov m pl)
      callWith pos f first (backTo pos (starEach [] X.env)) (backToKw pos (keywordEach [] X.env))) := by rfl) :
    PE X (.Call (.Attribute o m apos) [] [] pos) (tMethD m R ta tNil) := by
  intro pins s σ H Q I h
  refine PySem.W.methodCall_KW (pl := pl) (thn (he pins s σ H _ I h) fun u s1 ⟨x, H1, I1, rx, a, C, dx, fs, sp, ex, ea, l, hRC, q⟩ => ?_) ht
  obtain ⟨c, f, fd, ps, hm, F, hb⟩ := hR C sp hRC
  subst ex
  obtain rfl : u = Value.ref a := rx
  refine getmeth_ok I1 ea c hm l ?_
  exact PySem.W.callWith_K0 (first := [.ref a]) I1.kIn hm.kp (run_fn (us := [.ref a]) (vs := [.ref a]) F hr hb .nil (pass0 (X := X)) I1 (.cons rfl .nil) (by rw [List.append_nil]; exact q))
def meth3 (m : Str) (R : Addr → Sp3 → Prop) (ta : T3) (t : T3A) : T3 := fun δ M Q => ta δ M fun x M1 => match x with
  | .ref a => insM (M1 a) fun C fs => fs.lookup m = none ∧ ∃ sp, R C sp ∧ t δ M1 fun ds M2 => sp (x :: ds) M2 Q
  | _ => False
def upR (K : PySem.W.Frag) (R : Addr → Sp3 → Prop) : Addr → Sp → Prop := fun C sp' => ∃ sp, R C sp ∧ sp' = up3 K sp
theorem meth_lo {R : Addr → Sp3 → Prop} : ∀ σ H Q', lo X.K (meth3 m R ta t) σ H Q' → tMethD m (upR X.K R) (lo X.K ta) (loA X.K t) σ H Q' := fun σ H Q' ⟨δ, M, Q, hs, hm, ht, k⟩ =>
  ⟨δ, M, _, hs, hm, ht, fun v H1 d M1 hd hm1 e1 q1 => by
    cases d with
    | ref a =>
      cases hd.ref_inv
      obtain ⟨C, fs, e, q1⟩ := insM_inv q1
      obtain ⟨hn, sp, hR, q⟩ := q1
      obtain ⟨dx, vs, h1, cl, na, fo⟩ := hm1 a _ e
      exact ⟨a, C, dx, vs, _, rfl, h1, (lookup_has fo).2 hn, ⟨sp, hR, rfl⟩, δ, M1, _, hs.mono e1, hm1, q, fun us H2 ds M2 hds hm2 e2 q2 => ⟨.ref a :: ds, M2, Q, .cons .ref hds, hm2, q2, lo_up (e1.trans e2) k⟩⟩
    | _ => exact q1.elim⟩
theorem e3_meth0 {R : Addr → Sp3 → Prop} {pl : Sem Bool} (he : E3 X o ta) (hR : ∀ C sp, R C sp → MethOk X.prog X.w X.K X.mg X.base k m C (up3 X.K sp)) (hr : Room k X.A)
    (ht : eval (.Call (.Attribute o m apos) [] [] pos) X.env = (do
      let ov ← eval o X.env
      standAt apos.atName
      let (f, first) ← holding [ov] (getMethod ov m pl)
      callWith pos f first (backTo pos (starEach [] X.env)) (backToKw pos (keywordEach [] X.env))) := by rfl) :
    E3 X (.Call (.Attribute o m apos) [] [] pos) (meth3 m R ta anil3) := PE.mono (pe_methD0 (R := upR X.K R) he (fun C sp' ⟨sp, h, z⟩ => by rw [z]; exact hR C sp h) hr ht) fun σ H Q' h => by
  obtain ⟨δ, M, Q, hs, hm, ht, k⟩ := meth_lo (t := anil3) σ H Q' h
  refine ⟨δ, M, Q, hs, hm, ht, fun v H' d M' x1 x2 x3 x4 => ?_⟩
  obtain ⟨a, C, dx, fs, sp, e1, e2, e3, e4, δ', M'', Q'', y1, y2, y3, y4⟩ := k v H' d M' x1 x2 x3 x4
  exact ⟨a, C, dx, fs, sp, e1, e2, e3, e4, y4 [] H' [] M'' .nil y2 .refl y3⟩
end
end L3
namespace L3
open PySem PySem.Spec PyProof.Rows L2
structure Seq3 (K : PySem.W.Frag) (H1 : Hp) (J : It) (ds : List D) (ok : Mp → Prop) : Prop where
  go : ∀ i H M, i < ds.length → HM K H M → ok M → ExtT K H1 H → J.go i H
  yld : ∀ i d H M x H', ds[i]? = some d → HM K H M → ok M → ExtT K H1 H → J.yld i H x H' → Has K H' d x ∧ HM K H' M ∧ ExtT K H H'
  stop : ∀ H M, HM K H M → ok M → ExtT K H1 H → J.stop ds.length H
abbrev T3I := DSt → Mp → (List D → (Mp → Prop) → Mp → Prop) → Prop
def loI (K : PySem.W.Frag) (wi : T3I) : TI := fun σ H R' => ∃ δ M R, St3 K H σ δ ∧ HM K H M ∧ wi δ M R ∧ ∀ J H1 ds ok M1, Seq3 K H1 J ds ok → HM K H1 M1 → ExtT K H H1 → ok M1 → R ds ok M1 → R' J H1
def I3 (X : Cx) (tg iter : Expr) (wi : T3I) : Prop := PI X tg iter (loI X.K wi)
theorem PI.mono {X : Cx} {tg e : Expr} {t t' : TI} (h : PI X tg e t) (m : ∀ σ H Q, t' σ H Q → t σ H Q) : PI X tg e t' := fun pins s σ H Q I q => h pins s σ H Q I (m σ H Q q)
section
variable {K : PySem.W.Frag} {H1 : Hp}
theorem seq_range {n : Nat} {lo : Int} : Seq3 K H1 (Itr lo n) ((List.range n).map fun i => D.int (lo + (i : Nat))) (fun _ => True) where
  go := fun i H M hi hm ok e1 => by
    have z : i < n := by simpa using hi
    exact z
  yld := fun i d H M x H' hd hm ok e1 y => by
    obtain ⟨e, y⟩ := y
    subst e
    subst y
    have hi : i < n := by
      have := (List.getElem?_eq_some_iff.mp hd).1
      simpa using this
    have hd' : d = D.int (lo + (i : Nat)) := by
      rw [List.getElem?_map, List.getElem?_range hi] at hd
      exact (Option.some.inj hd).symm
    subst hd'
    exact ⟨.int, hm, .refl⟩
  stop := fun H M hm ok e1 => by
    show n ≤ _
    simp
end
section
variable {X : Cx} {tg : Expr} {pos p : Pos}
def irng3 (t : T3A) : T3I := fun δ M R => t δ M fun ds M1 => match ds with
  | [.int j] => (-(2 ^ 62) ≤ j ∧ j < 2 ^ 62) ∧ R ((List.range j.toNat).map fun i => D.int (0 + (i : Nat))) (fun _ => True) M1
  | [.int i, .int j] => (-(2 ^ 62) ≤ i ∧ i < 2 ^ 62 ∧ -(2 ^ 62) ≤ j ∧ j < 2 ^ 62) ∧ R ((List.range (j - i).toNat).map fun n => D.int (i + (n : Nat))) (fun _ => True) M1
  | _ => False
theorem i3_range1 {a : Expr} {ta : T3A} (hg : Gl X "range") (hm : X.mg "range" = none) (ha : A3 X [a] ta) (hs : starEach [a] X.env = [(false, eval a X.env)] := by rfl) : I3 X tg (.Call (.Name "range" p) [a] [] pos) (irng3 fun δ M Q => ta δ M fun ds M1 => ds.length = 1 ∧ Q ds M1) :=
  PI.mono (pi_range1 hg hm ha hs) fun σ H R' ⟨δ, M, R, hs, hm, ht, k⟩ => ⟨δ, M, _, hs, hm, ht, fun vs H1 ds M1 hd hm1 e1 q1 => by
    obtain ⟨hl, q1⟩ := q1
    split at q1
    · obtain ⟨v, rfl, hv⟩ := one_inv hd
      cases hv.int_inv
      exact ⟨_, rfl, q1.1.1, q1.1.2, k _ H1 _ _ M1 seq_range hm1 e1 trivial q1.2⟩
    · simp at hl
    · exact q1.elim⟩
def run3 (g : T3G) (tb : T3S) (ok : Mp → Prop) (E : Ends3) : List D → DSt → Mp → Prop
  | [], δ, M => E.nx δ M
  | d :: r, δ, M => g d δ M fun δ2 M2 => tb { E with nx := fun δ' M' => ok M' ∧ run3 g tb ok E r δ' M', ct := fun δ' M' => ok M' ∧ run3 g tb ok E r δ' M', bk := E.nx } δ2 M2
def for3 (wi : T3I) (g : T3G) (tb : T3S) : T3S := fun E δ M => wi δ M fun ds ok M1 => run3 g tb ok E ds δ M1
theorem s3_for {iter : Expr} {body : List Stmt} {wi : T3I} {g : T3G} {tb : T3S} (hp : PassesOwn (model X.prog X.w) X.A X.env X.xe) (hc : X.calm = true) (hi : I3 X tg iter wi) (hg : G3 X tg g) (hb : Ss3 X body tb)
    (hs : ∀ x, foldedSetIterable iter X.env x = pure x := by intro _; rfl) : S3 X (.For tg iter body [] pos) (for3 wi g tb) := PS.mono (ps_for hp hc hi hg hb hs) fun D' σ H ⟨δ, M, E, hs, hm, ht, k1, k2, k3, k4⟩ =>
  ⟨δ, M, _, hs, hm, ht, fun J H1 ds ok M1 S hm1 e1 ok1 q1 => by
    refine ⟨fun i m σ' H' => m = ds.length - i ∧ i ≤ ds.length ∧ ∃ δ' M', St3 X.K H' σ' δ' ∧ HM X.K H' M' ∧ ok M' ∧ ExtT X.K H1 H' ∧ σ'.length = σ.length ∧ run3 g tb ok E (ds.drop i) δ' M',
      ⟨ds.length, by simp, Nat.zero_le _, δ, M1, hs.mono e1, hm1, ok1, .refl, rfl, by simpa using q1⟩, ?_⟩
    rintro i m σ' H' ⟨rfl, hi, δ', M', hs', hm', ok', e', l', q'⟩
    by_cases hlt : i < ds.length
    · rw [List.drop_eq_getElem_cons hlt] at q'
      refine .inr ⟨S.go i H' M' hlt hm' ok' e', fun σ2 H2 => ∃ δ2 M2, St3 X.K H2 σ2 δ2 ∧ HM X.K H2 M2 ∧ ok M2 ∧ ExtT X.K H1 H2 ∧ σ2.length = σ.length ∧ run3 g tb ok E (ds.drop (i + 1)) δ2 M2, fun σ2 H2 z => ⟨ds.length - (i + 1), by omega, rfl, hlt, z⟩, fun x H2 y => ?_⟩
      obtain ⟨hx, hm2, e2⟩ := S.yld i ds[i] H' M' x H2 (List.getElem?_eq_getElem hlt) hm' ok' e' y
      refine ⟨ds[i], δ', M', _, hx, hs'.mono e2, hm2, q', fun σ3 H3 δ3 M3 x1 x2 x3 x4 x5 => ?_⟩
      refine ⟨δ3, M3, _, x1, x2, x5, fun σ4 H4 δ4 M4 y1 y2 y3 y4 y5 => ?_, fun v H4 d M4 y1 y2 y3 y4 => ?_, fun σ4 H4 δ4 M4 y1 y2 y3 y4 y5 => ?_, fun σ4 H4 δ4 M4 y1 y2 y3 y4 y5 => ?_⟩
      · exact ⟨δ4, M4, y1, y2, y5.1, e'.trans (e2.trans (x3.trans y3)), by rw [y4, x4, l'], y5.2⟩
      · exact k2 v H4 d M4 y1 y2 (e1.trans (e'.trans (e2.trans (x3.trans y3)))) y4
      · exact k1 σ4 H4 δ4 M4 y1 y2 (e1.trans (e'.trans (e2.trans (x3.trans y3)))) (by rw [y4, x4, l']) y5
      · exact ⟨δ4, M4, y1, y2, y5.1, e'.trans (e2.trans (x3.trans y3)), by rw [y4, x4, l'], y5.2⟩
    · have e : i = ds.length := by omega
      subst e
      rw [List.drop_length] at q'
      exact .inl ⟨S.stop H' M' hm' ok' e', k1 σ' H' δ' M' hs' hm' (e1.trans e') l' q'⟩⟩
def sel3 (ix : List (Option Nat)) (δ : DSt) : DSt := ix.map fun o => o.bind fun i => (δ[i]?).join
theorem sel_has {K : PySem.W.Frag} {H : Hp} {σ : St} {δ : DSt} {ix : List (Option Nat)} (h : St3 K H σ δ) : St3 K H (sel ix σ) (sel3 ix δ) := fun i d q => by
  unfold sel3 at q
  unfold sel
  rw [List.getElem?_map] at q ⊢
  cases e : ix[i]? with
  | none => rw [e] at q; cases q
  | some o =>
    rw [e] at q
    cases o with
    | none => cases q
    | some j =>
      have q' : (δ[j]?).join = some d := Option.some.inj q
      have e4 : δ[j]? = some (some d) := by
        cases r : δ[j]? with
        | none => rw [r] at q'; cases q'
        | some w => rw [r] at q'; exact congrArg some q'
      obtain ⟨v, e5, hv⟩ := h j d e4
      refine ⟨v, ?_, hv⟩
      show some ((σ[j]?).join) = some (some v)
      rw [e5]
      rfl
def crun3 (g : T3G) (tt : T3T) (te : T3) (ok : Mp → Prop) (Q : DK) : List D → List D → DSt → Mp → Prop
  | [], acc, _, M => acc.length ≤ sizeLine ∧ ∀ p, M p = none → Q (.ref p) (updM M p (.lst acc))
  | d :: r, acc, δ, M => acc.length < sizeLine ∧ g d δ M fun δ2 M2 => tt δ2 M2 fun b M3 => if b = true then te δ2 M3 fun y M4 => ok M4 ∧ crun3 g tt te ok Q r (acc ++ [y]) δ2 M4 else ok M3 ∧ crun3 g tt te ok Q r acc δ2 M3
def comp3 (ix : List (Option Nat)) (wi : T3I) (g : T3G) (tt : T3T) (te : T3) : T3 := fun δ M Q => wi δ M fun ds ok M1 => crun3 g tt te ok Q ds [] (sel3 ix δ) M1
variable {scope : Scope} {ix : List (Option Nat)} {N' : List Str} {iter elt : Expr} {ifs : List Expr} {wi : T3I} {g : T3G} {tt : T3T} {te : T3}
def F3 (X : Cx) (ifs : List Expr) (t : T3T) : Prop := PF X ifs (loT X.K t)
theorem PF.mono {X : Cx} {e : List Expr} {t t' : TT} (h : PF X e t) (m : ∀ σ H Q, t' σ H Q → t σ H Q) : PF X e t' := fun pins s σ H Q I q => h pins s σ H Q I (m σ H Q q)
def noif3 : T3T := fun _ M Q => Q true M
theorem f3_nil : F3 X [] noif3 := PF.mono pf_nil fun σ H Q' ⟨δ, M, Q, hs, hm, ht, k⟩ => k true H M hm .refl ht
theorem comp_lo : ∀ σ H Q', lo X.K (comp3 ix wi g tt te) σ H Q' → tComp ix (loI X.K wi) (loG X.K g) (loT X.K tt) (lo X.K te) σ H Q' := fun σ H Q' ⟨δ, M, Q, hs, hm, ht, k⟩ =>
  ⟨δ, M, _, hs, hm, ht, fun J H1 ds ok M1 S hm1 e1 ok1 q1 => by
    refine ⟨fun i m ys σ' H' => m = ds.length - i ∧ i ≤ ds.length ∧ ∃ δ' M' acc, St3 X.K H' σ' δ' ∧ HM X.K H' M' ∧ HasL X.K H' acc ys ∧ ok M' ∧ ExtT X.K H1 H' ∧ crun3 g tt te ok Q (ds.drop i) acc δ' M',
      ⟨ds.length, by simp, Nat.zero_le _, sel3 ix δ, M1, [], sel_has (hs.mono e1), hm1, .nil, ok1, .refl, by simpa using q1⟩, ?_⟩
    rintro i m ys σ' H' ⟨rfl, hi, δ', M', acc, hs', hm', ha', ok', e', q'⟩
    by_cases hlt : i < ds.length
    · rw [List.drop_eq_getElem_cons hlt] at q'
      obtain ⟨hz, q'⟩ := q'
      refine .inr ⟨S.go i H' M' hlt hm' ok' e', by rw [← ha'.length]; exact hz, fun x H2 y => ?_⟩
      obtain ⟨hx, hm2, e2⟩ := S.yld i ds[i] H' M' x H2 (List.getElem?_eq_getElem hlt) hm' ok' e' y
      refine ⟨ds[i], δ', M', _, hx, hs'.mono e2, hm2, q', fun σ3 H3 δ3 M3 x1 x2 x3 x4 x5 => ?_⟩
      refine ⟨δ3, M3, _, x1, x2, x5, fun b H4 M4 y2 y3 y5 => ?_⟩
      cases b with
      | true =>
        rw [if_pos rfl] at y5 ⊢
        refine ⟨δ3, M4, _, x1.mono y3, y2, y5, fun v H5 d M5 z1 z2 z3 z4 => ⟨ds.length - (i + 1), by omega, rfl, hlt, δ3, M5, acc ++ [d], x1.mono (y3.trans z3), z2, (ha'.mono (e2.trans (x3.trans (y3.trans z3)))).snoc z1, z4.1, e'.trans (e2.trans (x3.trans (y3.trans z3))), z4.2⟩⟩
      | false =>
        rw [if_neg Bool.false_ne_true] at y5 ⊢
        exact ⟨ds.length - (i + 1), by omega, rfl, hlt, δ3, M4, acc, x1.mono y3, y2, ha'.mono (e2.trans (x3.trans y3)), y5.1, e'.trans (e2.trans (x3.trans y3)), y5.2⟩
    · have e : i = ds.length := by omega
      subst e
      rw [List.drop_length] at q'
      refine .inl ⟨S.stop H' M' hm' ok' e', by rw [← ha'.length]; exact q'.1, fun p hp => ?_⟩
      have e5 : ExtT X.K H' (upd H' p (.lst ys)) := .new hp
      exact k _ _ _ _ .ref (hm'.new (c := .lst acc) hp ⟨_, upd_same, ha'.mono e5⟩) (e1.trans (e'.trans e5)) (q'.2 p (hm'.fresh hp))⟩
theorem e3_comp (hc : X.calm = true) (S : CompScope X scope ix N') (hi : I3 X tg iter wi) (hg : ∀ C s0 H0 ex, G3 (X.comp scope N' C s0 H0 ex) tg g) (ht : ∀ C s0 H0 ex, F3 (X.comp scope N' C s0 H0 ex) ifs tt) (he : ∀ C s0 H0 ex, E3 (X.comp scope N' C s0 H0 ex) elt te)
    (hs : ∀ x, foldedSetIterable iter X.env x = pure x := by intro _; rfl) : E3 X (.ListComp elt [⟨tg, iter, ifs, 0⟩] scope pos) (comp3 ix wi g tt te) := PE.mono (pe_comp (g := loG X.K g) (tt := loT X.K tt) (te := lo X.K te) hc S hi hg ht he hs) comp_lo
theorem s3_setComp {i : Nat} {x : Str} {px spos : Pos} (hN : X.N.Nodup) (hix : X.N[i]? = some x) (hx : Loc X.env.scope x) (hc : X.calm = true) (S : CompScope X scope ix N') (hi : I3 X tg iter wi) (hg : ∀ C s0 H0 ex, G3 (X.comp scope N' C s0 H0 ex) tg g) (ht : ∀ C s0 H0 ex, F3 (X.comp scope N' C s0 H0 ex) ifs tt)
    (he : ∀ C s0 H0 ex, E3 (X.comp scope N' C s0 H0 ex) elt te) (hsw : swapsWith (.ListComp elt [⟨tg, iter, ifs, 0⟩] scope pos) (some (.Name x px)) spos.line X.env = pure true := by rfl)
    (hf : X.fn x = true ∨ X.env.scope.names.lookup x = some .local := by first | exact .inl rfl | exact .inr rfl | assumption) (hs : ∀ x, foldedSetIterable iter X.env x = pure x := by intro _; rfl) :
    S3 X (.Assign [.Name x px] (.ListComp elt [⟨tg, iter, ifs, 0⟩] scope pos) spos) (asg3 (comp3 ix wi g tt te) (gName3 i)) := PS.monoL (ps_setComp (g := loG X.K g) (tt := loT X.K tt) (te := lo X.K te) hN hix hx hc S hi hg ht he hsw hf hs) fun D' σ H hl ⟨δ, M, D, hs, hm, ht, k1, k2, k3, k4⟩ =>
  comp_lo σ H _ ⟨δ, M, _, hs, hm, ht, fun v H1 d M1 hd hm1 e1 q1 => k1 _ H1 _ M1 ((hs.mono e1).set hd (by rw [hl]; exact (List.getElem?_eq_some_iff.mp hix).1)) hm1 e1 (by simp) q1⟩
end
end L3
namespace L3
open PySem PySem.Spec PyProof.Rows L2
theorem hu9 {A : Around} {k : Nat} (hr : Room k A) : A.units + 9 < cLine := by have := hr.units; omega
def compOk (sc : Scope) (N : List Str) (scope : Scope) (ix : List (Option Nat)) (N' : List Str) : Bool :=
  (scope.kind == .function) && (scope.names.all fun y => !(y.2 == .cell)) && (scope.names.all fun y => !(y.2 == .local) || (scope.names.lookup y.1 == some .local)) &&
  (scope.names.all fun y => !(y.2 == .free) || (sc.names.lookup y.1 == some .cell) || (sc.names.lookup y.1 == some .free)) && (ix.length == N'.length) &&
  ((ix.zip N').all fun p => match p.1 with | none => true | some i => (N[i]? == some p.2) && (scope.names.lookup p.2 == some .free))
theorem compS {X : Cx} {scope : Scope} {ix : List (Option Nat)} {N' : List Str} (h : compOk X.env.scope X.N scope ix N' = true) : CompScope X scope ix N' := by
  unfold compOk at h
  simp only [Bool.and_eq_true] at h
  obtain ⟨⟨⟨⟨⟨h1, h2⟩, h3⟩, h4⟩, h5⟩, h6⟩ := h
  refine ⟨by simpa using h1, fun y hy e => ?_, fun y hy e => ?_, fun y hy e => ?_, by simpa using h5, fun j i x e1 e2 => ?_⟩
  · have := List.all_eq_true.mp h2 y hy
    rw [e] at this
    simp at this
  · have := List.all_eq_true.mp h3 y hy
    rw [e] at this
    simpa using this
  · have := List.all_eq_true.mp h4 y hy
    rw [e] at this
    simpa using this
  · have hm : (some i, x) ∈ ix.zip N' := by
      have : (ix.zip N')[j]? = some (some i, x) := by
        rw [List.getElem?_zip_eq_some]
        exact ⟨e1, e2⟩
      exact List.mem_of_getElem? this
    have := List.all_eq_true.mp h6 _ hm
    simpa using this
section
variable {X : Cx} {k : Nat} {f C : Addr} {fd : FuncData} {ps : List Str} {sp : Sp3} {x m : Str} {p pos apos : Pos} {a b c e o : Expr} {es : List Expr} {ta tb tc : T3} {t : T3A}
def chainV3 (op op' : CmpOp) (ta tb tc : T3) : T3 := fun δ M Q => ta δ M fun x M1 => tb δ M1 fun y M2 => cmpD op x y M2 fun z M3 => match z with
  | .bl k => if k = true then tc δ M3 fun w M4 => cmpD op' y w M4 Q else Q (.bl false) M3
  | _ => False
theorem b3_chain {op op' : CmpOp} (hu : X.A.units + 9 < cLine) (ha : E3 X a ta) (hb : E3 X b tb) (hc : E3 X c tc) (hmk : lastMarks [op, op'] [b, c] = false := by rfl) :
    B3 X (.Compare a [op, op'] [b, c] pos) (b3 (chainV3 op op' ta tb tc)) := PT.mono (pt_chain (cmp3 op hu) (cmp3 op' hu) ha hb hc hmk) fun σ H Q' ⟨δ, M, Q, hs, hm, ht, k⟩ =>
  ⟨δ, M, _, hs, hm, ht, fun v H1 x M1 hx hm1 e1 q1 => ⟨δ, M1, _, hs.mono e1, hm1, q1, fun u H2 y M2 hy hm2 e2 q2 => ⟨x, y, M2, _, hx.mono e2, hy, hm2, q2, fun w H3 z M3 hz hm3 e3 q3 => by
    cases z with
    | bl c =>
      refine ⟨c, hz.bl_inv, ?_⟩
      cases c with
      | true =>
        refine (if_pos rfl).mpr ⟨δ, M3, _, hs.mono (e1.trans (e2.trans e3)), hm3, (if_pos rfl).mp q3, fun w' H4 d M4 hd hm4 e4 q4 => ⟨y, d, M4, _, hy.mono (e3.trans e4), hd, hm4, q4, fun w5 H5 d5 M5 hd5 hm5 e5 q5 => ?_⟩⟩
        cases d5 with
        | bl c5 => exact ⟨c5, hd5.bl_inv, k c5 H5 M5 hm5 (e1.trans (e2.trans (e3.trans (e4.trans e5)))) q5⟩
        | _ => exact q5.elim
      | false => exact (if_neg Bool.false_ne_true).mpr ⟨false, rfl, k false H3 M3 hm3 (e1.trans (e2.trans e3)) ((if_neg Bool.false_ne_true).mp q3)⟩
    | _ => exact q3.elim⟩⟩⟩
structure ClsI (K : PySem.W.Frag) (C : Addr) : Prop where
  ha : PySem.W.findIn K (.ref C) "__class__" = some (some (.builtin "object.__class__"))
  hn : PySem.W.specialIn K (.builtin "object.__class__") "__get__" = some (some (.builtin "getset_descriptor.__get__"))
  htk : PySem.W.takesIn K (.builtin "object.__class__") = some true
  hm : PySem.W.mroIn K C (.type "object") = some true
def cellTy : Option Cell → Option Value
  | some (.lst _) => some (.type "list")
  | some (.ins C _) => some (.ref C)
  | some (.dk _) => some (.type "dict")
  | none => none
def tyD (M : Mp) : D → Option Value
  | .non => some (.type "NoneType")
  | .bl _ => some (.type "bool")
  | .int _ => some (.type "int")
  | .str _ => some (.type "str")
  | .tup _ => some (.type "tuple")
  | .ref a => cellTy (M a)
  | .ty _ => none
  | .rl _ => some (.type "list")
def clsD : D → Option Value
  | .ref C => some (.ref C)
  | .ty n => some (.type n)
  | _ => none
def instD (K : PySem.W.Frag) (ds : List D) (M : Mp) (Q : DK) : Prop := match ds with
  | [x, c] => (tyD M x).elim False fun t => (clsD c).elim False fun cv => (∀ C, t = .ref C → ClsI K C) ∧ (PySem.W.kitOne K t cv).elim False fun b => Q (.bl b) M
  | _ => False
theorem c3_isinst : C3 X (.builtin "isinstance") (instD X.K) := by
  intro pins s σ H vs us Q' I rv h
  obtain ⟨ds, M, Q, hd, hm, q, k⟩ := h
  unfold instD at q
  split at q
  · rename_i x c
    obtain ⟨v, u, rfl, hv, hw⟩ := two_inv hd
    obtain ⟨t, et, q⟩ := elimF q
    obtain ⟨cv, ec, hC, q⟩ := elimF q
    obtain ⟨b, eb, qb⟩ := elimF q
    obtain ⟨uv, uw, rfl, rv1, rv2⟩ := vals2 rv
    have ecv : uw = cv := by
      cases c with
      | ref C => cases hw.ref_inv; cases ec; exact rv2
      | ty n => cases hw.ty_inv; cases ec; exact rv2
      | _ => cases ec
    subst ecv
    have fin : ∀ tk, EP X pins σ Q' (.bool b) { s with toks := tk } := fun tk => ⟨.bl b, H, I.tok tk, rfl, k _ _ _ _ .bl hm .refl qb⟩
    cases x with
    | non => cases hv.non_inv; cases et; exact isinst_ok I rv1 .non eb fin
    | bl y => cases hv.bl_inv; cases et; exact isinst_ok I rv1 (.bl y) eb fin
    | int y => cases hv.int_inv; cases et; exact isinst_ok I rv1 (.int y) eb fin
    | str y => cases hv.str_inv; cases et; exact isinst_ok I rv1 (.str y) eb fin
    | tup ds =>
      obtain ⟨a, xs, rfl, h1, h2⟩ := hv.tup_inv
      cases et
      cases rv1
      obtain ⟨its, r, p, _⟩ := I.tuple h1
      obtain ⟨o, g1, g2, _⟩ := p
      exact PySem.W.kia_one PySem.W.kitx_tuple I.kIn ⟨o, g1, g2⟩ eb (fun z => nomatch z) fin
    | ref a =>
      cases hv.ref_inv
      have et : cellTy (M a) = some t := et
      cases e : M a with
      | none => rw [e] at et; cases et
      | some cell =>
        rw [e] at et
        have ok := hm a cell e
        cases cell with
        | lst ds => cases et; obtain ⟨xs, e1, _⟩ := ok; exact isinst_ok I rv1 (.lst e1) eb fin
        | ins C fs =>
          cases et
          obtain ⟨dx, vs, e1, cl, _⟩ := ok
          obtain ⟨i1, i2, i3, i4⟩ := hC C rfl
          exact isinst_ok I rv1 (.ins e1 cl i1 i2 i3 i4) eb fin
        | dk kvs => cases et; obtain ⟨vs, e1, _⟩ := ok; exact isinst_ok I rv1 (.dK e1) eb fin
    | ty n => cases et
    | rl ds =>
      obtain ⟨p, xs, rfl, h1, h2⟩ := hv.rl_inv
      cases et
      cases rv1
      obtain ⟨its, r, ⟨o, n, g1, g2, _⟩, _⟩ := I.list h1.sq
      exact PySem.W.kia_one PySem.W.kitx_list I.kIn ⟨o, g1, g2⟩ eb (fun z => nomatch z) fin
  · exact q.elim
def blsD : List D → Option (List Bool)
  | [] => some []
  | .bl b :: r => (blsD r).map (b :: ·)
  | _ :: _ => none
theorem bls_has {K : PySem.W.Frag} {H : Hp} : ∀ {ds : List D} {bs : List Bool} {xs : List V} {us : List Value}, blsD ds = some bs → HasL K H ds xs → Vals xs us → us = bs.map Value.bool
  | [], bs, xs, us, e, h, r => by
    cases e
    have := h.nil_inv
    subst this
    cases r
    rfl
  | d :: ds, bs, xs, us, e, h, r => by
    cases d with
    | bl b =>
      obtain ⟨y, ys, rfl, h1, h2⟩ := h.inv
      cases h1.bl_inv
      unfold blsD at e
      cases q : blsD ds with
      | none => rw [q] at e; cases e
      | some cs =>
        rw [q] at e
        cases e
        cases r with
        | cons r1 r2 =>
          cases r1
          rw [bls_has q h2 r2]
          rfl
    | _ => cases e
def allD (ds : List D) (M : Mp) (Q : DK) : Prop := match ds with
  | [.ref a] => (lstM M a).elim False fun es => (blsD es).elim False fun bs => Q (.bl (bs.all id)) M
  | _ => False
theorem c3_all (hc : X.calm = true) : C3 X (.builtin "all") allD := by
  intro pins s σ H vs us Q' I rv h
  obtain ⟨ds, M, Q, hd, hm, q, k⟩ := h
  unfold allD at q
  split at q
  · rename_i a
    obtain ⟨v, rfl, hv⟩ := one_inv hd
    obtain ⟨es, e0, q⟩ := elimF q
    obtain ⟨bs, e1, q⟩ := elimF q
    cases hv.ref_inv
    obtain ⟨u, rfl, ru⟩ := vals1 rv
    cases ru
    obtain ⟨xs, h1, h2, _⟩ := rol_there hm e0
    obtain ⟨its, r, pl, hz⟩ := I.list h1
    have eits := bls_has e1 h2 r
    subst eits
    have hne : a ≠ s.heap.objs.size := by
      obtain ⟨o, _, e, _⟩ := pl
      exact Nat.ne_of_lt (Heap.lt_size e)
    refine call_all_walk (wpAny_pyIter_list pl.isList ?_)
    refine ⟨s.heap.objs.size, _, _, _, _, _, fun i => (bs[i]?).getD true, rfl, Walks.list (A := X.A.in1) (I.ok.hd hc) _ a hne (bs.map Value.bool).toArray, ⟨⟨_, Heap.get?_push_size _ rfl, rfl, rfl⟩, ?_⟩, fun i v s' Q E hP hQ => ?_, fun h' tk hk => ?_⟩
    · obtain ⟨o, n, e, c, d, q⟩ := pl
      exact ⟨o, Heap.get?_push_of_some _ e, c, n, q⟩
    · simp only [List.getElem?_toArray, List.getElem?_map] at hP
      cases e2 : bs[i]? with
      | none => rw [e2] at hP; cases hP
      | some b =>
        rw [e2] at hP
        cases hP
        have hQ : Q ((bs[i]?).getD true) s' := hQ
        rw [e2] at hQ
        exact wpAny_truthy_bool hQ
    · have ea : (List.range (bs.map Value.bool).toArray.size).all (fun i => (bs[i]?).getD true) = bs.all id := by
        rw [List.size_toArray, List.length_map]
        rw [Bool.eq_iff_iff, List.all_eq_true, List.all_eq_true]
        constructor
        · intro z b hb
          obtain ⟨i, hi, e⟩ := List.getElem_of_mem hb
          have := z i (List.mem_range.mpr hi)
          rw [List.getElem?_eq_getElem hi, e] at this
          exact this
        · intro z i hi
          have hi' := List.mem_range.mp hi
          rw [List.getElem?_eq_getElem hi']
          exact z _ (List.getElem_mem hi')
      rw [ea]
      refine ⟨.bl (bs.all id), H, ?_, rfl, k _ _ _ _ .bl hm .refl q⟩
      exact I.kept (h' := h') (t' := tk) fun b o e => hk b o (by simpa using Nat.ne_of_lt (Heap.lt_size e)) (Heap.get?_push_of_some _ e)
  · exact q.elim
def idxF (x : D) : List D → Option Nat
  | [] => none
  | d :: r => if eqF d x = true then some 0 else (idxF x r).map (· + 1)
theorem idx_has {K : PySem.W.Frag} {H : Hp} {e : D} {w : V} (g : Has K H e w) (fe : flatD e = true) : ∀ {ds : List D} {xs : List V} {us : List Value} {j : Nat}, HasL K H ds xs → Vals xs us → ds.all flatD = true → idxF e ds = some j →
    ∃ h : j < us.length, eqU w us[j] = true ∧ ∀ m (hm : m < us.length), m < j → eqU w us[m] = false
  | [], _, _, _, _, _, _, q => by cases q
  | d :: ds, _, us, j, h, r, fl, q => by
    obtain ⟨y, ys, rfl, h1, h2⟩ := h.inv
    rw [List.all_cons, Bool.and_eq_true] at fl
    cases r with
    | @cons _ u _ us' r1 r2 =>
      have eu : eqU w u = eqF d e := by rw [eqU_of r1 (flat_has h1 fl.1), eqF_has h1 g fl.1 fe]
      unfold idxF at q
      by_cases hq : eqF d e = true
      · rw [if_pos hq] at q
        cases q
        exact ⟨by simp, by simpa [eu] using hq, fun m _ hm => absurd hm (Nat.not_lt_zero m)⟩
      · rw [if_neg hq] at q
        cases q2 : idxF e ds with
        | none => rw [q2] at q; cases q
        | some j' =>
          rw [q2] at q
          cases q
          obtain ⟨hl, e1, e2⟩ := idx_has g fe h2 r2 fl.2 q2
          refine ⟨by simpa using hl, by simpa using e1, fun m hm hlt => ?_⟩
          cases m with
          | zero => simpa [eu] using hq
          | succ m => simpa using e2 m (by simpa using hm) (by have z : m + 1 < j' + 1 := hlt; omega)
def idxD (x : D) (ds : List D) (M : Mp) (Q : DK) : Prop := match x, ds with
  | .ref a, [y] => (lstM M a).elim False fun es => flatD y = true ∧ es.all flatD = true ∧ (idxF y es).elim False fun j => Q (.int (j : Nat)) M
  | _, _ => False
def M3 (X : Cx) (id : String) (r : D → List D → Mp → DK → Prop) : Prop := MtR X id fun vx vs H Q' => ∃ x ds M Q, Has X.K H x vx ∧ HasL X.K H ds vs ∧ HM X.K H M ∧ r x ds M Q ∧ Up X.K H Q' Q
theorem m3_index : M3 X "list.index" idxD := by
  intro pins s σ H vx vs v us Q' I rx rv h
  obtain ⟨x, ds, M, Q, hx, hd, hm, q, k⟩ := h
  unfold idxD at q
  split at q
  · rename_i a y
    obtain ⟨es, e0, f1, f2, q⟩ := elimF q
    obtain ⟨j, e1, q⟩ := elimF q
    cases hx.ref_inv
    cases rx
    obtain ⟨w, rfl, hw⟩ := one_inv hd
    obtain ⟨u, rfl, ru⟩ := vals1 rv
    obtain ⟨xs, h1, h2, rd⟩ := rol_there hm e0
    obtain ⟨hz, its, n, r, g⟩ := rd.ok I.hok
    obtain ⟨hl, p1, p2⟩ := idx_has hw f1 h2 r f2 e1
    have hlz : its.length ≤ sizeLine := by rw [← r.length]; exact hz
    have h63 := line63
    refine call_meets F.slot_list_index ⟨_, g, rfl⟩ F.entry_list_index (F.args_list_index_2 _ _) (SeqAt.list_indexAt a its.toArray n none #[] u (eqU w) j (by simpa using hl) (by omega) (by simpa using p1) fun m hm hlt => by simpa using p2 m (by simpa using hm) hlt) ⟨g, ?_, ?_⟩
    · intro z hz'
      exact mem_eqAt ru (flat_has hw f1) r (all_has h2 f2) z (by simpa using hz')
    · exact ⟨.int (j : Nat), H, I.tok _, ⟨_, rfl⟩, k _ _ _ _ .int hm .refl q⟩
  · exact q.elim
def isLst (M : Mp) : D → Prop
  | .ref a => (lstM M a).isSome = true
  | _ => False
def lm3 (r : D → List D → Mp → DK → Prop) (to : T3) (t : T3A) : T3 := fun δ M Q => to δ M fun x M1 => isLst M1 x ∧ t δ M1 fun ds M2 => r x ds M2 Q
theorem lst_ty {K : PySem.W.Frag} {H : Hp} {M : Mp} {x : D} {v : V} (hm : HM K H M) (h : Has K H x v) (l : isLst M x) : tyV K "list" v H := by
  cases x with
  | ref a =>
    cases h.ref_inv
    obtain ⟨ds, e⟩ := Option.isSome_iff_exists.mp (show (lstM M a).isSome = true from l)
    obtain ⟨xs, h1, _⟩ := rol_there hm e
    exact .inl ⟨rfl, xs, h1⟩
  | _ => exact l.elim
theorem e3_lm {id : String} {name : Str} {r : D → List D → Mp → DK → Prop} (slot : Slot "list" name id) (hty : typeOf (.builtin id) = pure (.type "method_descriptor")) (hm : M3 X id r) (ho : E3 X o ta) (ha : A3 X (e :: es) t)
    (hbase : attributeBase o name X.env (eval o X.env) = eval o X.env := by rfl)
    (hfew : ((backTo pos (starEach (e :: es) X.env)).all (fun x => !x.1) && (backToKw pos (keywordEach [] X.env)).all (fun x => x.1.isSome)
      && decide ((e :: es).length + ([] : List Keyword).length + (if ([] : List Keyword).isEmpty then 0 else 1) < 30)) = true := by rfl)
    (hline : (apos.endLine == pos.line) = true := by rfl) (hs : starEach (e :: es) X.env = (false, eval e X.env) :: starEach es X.env := by rfl) (hplain : (backTo pos (starEach es X.env)).any (·.1) = false := by rfl) :
    E3 X (.Call (.Attribute o name apos) (e :: es) [] pos) (lm3 r ta t) := PE.mono (pe_bm PySem.F.plainAttrs_list slot hty hm ho ha hbase hfew hline hs hplain) fun σ H Q' ⟨δ, M, Q, hs, hm, ht, k⟩ =>
  ⟨δ, M, _, hs, hm, ht, fun v H1 x M1 hx hm1 e1 q1 => ⟨lst_ty hm1 hx q1.1, δ, M1, _, hs.mono e1, hm1, q1.2, fun vs H2 ds M2 hds hm2 e2 q2 => ⟨x, ds, M2, Q, hx.mono e2, hds, hm2, q2, lo_up (e1.trans e2) k⟩⟩⟩
theorem e3_bm_index (ho : E3 X o ta) (ha : A3 X (e :: es) t)
    (hbase : attributeBase o "index" X.env (eval o X.env) = eval o X.env := by rfl)
    (hfew : ((backTo pos (starEach (e :: es) X.env)).all (fun x => !x.1) && (backToKw pos (keywordEach [] X.env)).all (fun x => x.1.isSome)
      && decide ((e :: es).length + ([] : List Keyword).length + (if ([] : List Keyword).isEmpty then 0 else 1) < 30)) = true := by rfl)
    (hline : (apos.endLine == pos.line) = true := by rfl) (hs : starEach (e :: es) X.env = (false, eval e X.env) :: starEach es X.env := by rfl) (hplain : (backTo pos (starEach es X.env)).any (·.1) = false := by rfl) :
    E3 X (.Call (.Attribute o "index" apos) (e :: es) [] pos) (lm3 idxD ta t) := e3_lm PySem.F.slot_list_index PySem.F.type_list_index m3_index ho ha hbase hfew hline hs hplain
structure ClsM (K : PySem.W.Frag) (C : Addr) (m : Str) (f : Addr) : Prop where
  hg : PySem.W.specialIn K (.ref C) "__getattribute__" = some (some (.builtin "type.__getattribute__"))
  rd : PySem.W.readsIn K C (.type "type") = true
  fc : PySem.W.findCls K (.ref C) (.type "type") m = some (.val (.ref f))
theorem pe_clsm {sp : Sp} {t : TA} {pl : Sem Bool} (cm : ClsM X.K C m f) (F : FnOk X.prog X.w X.K X.mg X.base CX0 k f fd ps sp) (hr : Room k X.A) (hg : Gl X x) (hm : X.mg x = some (.ref C)) (hk : PySem.W.keepIn X.K (.ref f) = true) (hb : Binds X.K fd ps []) (ha : PA X (e :: es) t)
    (hdb : (x == ("__debug__" : Str)) = false := by decide) (hst : starEach (e :: es) X.env = (false, eval e X.env) :: starEach es X.env := by rfl) (hpl : (backTo pos (starEach es X.env)).any (·.1) = false := by rfl)
    (ht : eval (.Call (.Attribute (.Name x p) m apos) (e :: es) [] pos) X.env = (do
      let ov ← eval (.Name x p) X.env
      standAt apos.atName
      let (f, first) ← holding [ov] (getMethod ov m pl)
      callWith pos f first (backTo pos (starEach (e :: es) X.env)) (backToKw pos (keywordEach [] X.env))) := by rfl) :
    PE X (.Call (.Attribute (.Name x p) m apos) (e :: es) [] pos) (fun σ H Q => t σ H fun vs H1 => sp vs H1 Q E0) := by
  intro pins s σ H Q I h
  refine PySem.W.methodCall_KW (pl := pl) (ld_glob I hg hm ?_ hdb) ht
  refine PySem.W.method_cls I.kIn cm.hg (PySem.W.cls_value I.kIn cm.rd cm.fc rfl ?_)
  refine PySem.W.callWith_K (first := []) (h₀ := X.base) I.ok.mod.kin hk (thn (ha pos pins _ σ H _ (I.tok _) h) fun us s2 ⟨vs, H2, I2, r, q2⟩ => ⟨I2.kIn, ?_⟩) hst hpl
  exact run_fn F hr hb .nil (pass0 (X := X)) I2 r (by rw [List.append_nil]; exact q2)
theorem e3_clsm {pl : Sem Bool} (cm : ClsM X.K C m f) (F : Fn3 X.prog X.w X.K X.mg X.base k f fd ps sp) (hr : Room k X.A) (hg : Gl X x) (hm : X.mg x = some (.ref C)) (hk : PySem.W.keepIn X.K (.ref f) = true) (hb : Binds X.K fd ps []) (ha : A3 X (e :: es) t)
    (hdb : (x == ("__debug__" : Str)) = false := by decide) (hst : starEach (e :: es) X.env = (false, eval e X.env) :: starEach es X.env := by rfl) (hpl : (backTo pos (starEach es X.env)).any (·.1) = false := by rfl)
    (ht : eval (.Call (.Attribute (.Name x p) m apos) (e :: es) [] pos) X.env = (do
      let ov ← eval (.Name x p) X.env
      standAt apos.atName
      let (f, first) ← holding [ov] (getMethod ov m pl)
      callWith pos f first (backTo pos (starEach (e :: es) X.env)) (backToKw pos (keywordEach [] X.env))) := by rfl) :
    E3 X (.Call (.Attribute (.Name x p) m apos) (e :: es) [] pos) (call3 sp t) := PE.mono (pe_clsm cm F hr hg hm hk hb ha hdb hst hpl ht) fun σ H Q' ⟨δ, M, Q, hs, hm, ht, k⟩ =>
  ⟨δ, M, _, hs, hm, ht, fun vs H1 ds M1 hd hm1 e1 q1 => ⟨ds, M1, Q, hd, hm1, q1, lo_up e1 k⟩⟩
theorem bt_len : bootBuiltins "len" = some (.builtin "len") := by decide +kernel
theorem bt_min : bootBuiltins "min" = some (.builtin "min") := by decide +kernel
theorem bt_isinstance : bootBuiltins "isinstance" = some (.builtin "isinstance") := by decide +kernel
theorem bt_all : bootBuiltins "all" = some (.builtin "all") := by decide +kernel
theorem bt_tuple : bootBuiltins "tuple" = some (.type "tuple") := by decide +kernel
theorem bt_str : bootBuiltins "str" = some (.type "str") := by decide +kernel
theorem bt_int : bootBuiltins "int" = some (.type "int") := by decide +kernel
theorem bt_bool : bootBuiltins "bool" = some (.type "bool") := by decide +kernel
theorem bt_enumerate : bootBuiltins "enumerate" = some (.type "enumerate") := by decide +kernel
theorem bt_zip : bootBuiltins "zip" = some (.type "zip") := by decide +kernel
end
section
variable {X : Cx} {pins : List (Addr × Obj)} {σ : St} {H : Hp} {s : Shared}
theorem _root_.L2.Inv.drawn {ch : List Addr} {T : Addr} {xs : List V} {its : List Value} {h' : Heap} {tk : Nat} (I : Inv X pins σ H s) (hch : ∀ b ∈ ch, FpOk X pins H b) (k : ∀ b o, b ∉ ch → s.heap.get? b = some o → h'.get? b = some o) (hT : s.heap.objs.size ≤ T) (hx : xs.length ≤ sizeLine)
    (rv : Vals xs its) (ht : IsTup h' T its.toArray) : Inv X pins σ (upd H T (.tup xs)) { s with heap := h', toks := tk } := by
  have hT0 : H T = none := I.hok.fresh hT
  have nT : ∀ b o, s.heap.get? b = some o → b ≠ T := fun b o e => Nat.ne_of_lt (Nat.lt_of_lt_of_le (Heap.lt_size e) hT)
  refine I.step (g' := s.gens) (d' := s.drawn) (ch := ch) (fun b hb => ⟨(hch b hb).2.2.2.1, (hch b hb).2.1, (hch b hb).2.2.2.2.1, (hch b hb).2.2.2.2.2⟩) (fun b o _ _ hc e _ => k b o hc e) (fun b o _ _ hc e _ => ⟨o.slots, k b o hc e⟩) (fun b o _ e n => by rw [upd_ne (nT b o e)]; exact n)
    (fun b o hc e => ⟨o, k b o hc e⟩) (fun b ys e => by rw [upd_ne (ne_of_none e hT0)]; exact e) (fun b o u e => by rw [upd_ne (ne_of_none e hT0)]; exact e) (fun b ps e => ⟨#[], by rw [upd_ne (ne_of_none e hT0), e]; simp⟩) (fun m hm => ?_) (fun b u e => ?_) I.bare
  · obtain ⟨o, es, ep, ho, r⟩ := hm
    exact ⟨o, es, ep, k _ o (fun z => (hch _ z).2.1 rfl) ho, r⟩
  · by_cases hb : b = T
    · subst hb
      rw [upd_same] at e
      cases e
      exact ⟨hx, its, rv, ht⟩
    · rw [upd_ne hb] at e
      refine (I.hok b u e).stay (fun c v hc q => k c v (fun z => ?_) q) (fun c q => by rw [upd_ne (ne_of_none q hT0)]; exact q) (fun c ys q => by rw [upd_ne (ne_of_none q hT0)]; exact q)
      have n := (hch c z).1
      rcases hc with y | y
      · rw [y, e] at n; cases n
      · rw [y] at n; cases n
def Ite (K : PySem.W.Frag) (a : Addr) : It :=
  ⟨fun i H => ∃ xs x, SqL K H a xs ∧ xs[i]? = some x, fun i H x H' => ∃ p y, x = .ref p ∧ H p = none ∧ H' = upd H p (.tup [.int (i : Nat), y]) ∧ ∀ xs, SqL K H a xs → xs[i]? = some y, fun i H => ∃ xs, SqL K H a xs ∧ xs.length ≤ i⟩
theorem turn_enum {P : Program} {w : World} {K : PySem.W.Frag} {elts : List Expr} {n : Nat} {tp : Pos} (a e it : Addr) (hei : e ≠ it) : Turn P w K (.Tuple elts n tp) (Ite K a) [e, it] e (fun i h => (∃ old, IsEnum h e it (i : Nat) old) ∧ h.IsListIter it a i) where
  mem := by simp
  obj := fun i h st b hb => by
    obtain ⟨⟨old, he⟩, o, e1, c, d⟩ := st
    rcases List.mem_cons.mp hb with rfl | hb
    · exact ⟨_, he, fun v z => by cases z⟩
    · rw [List.mem_singleton.mp hb]
      exact ⟨o, e1, fun v z => by rw [d] at z; cases z⟩
  keep := fun i h h' st k => by
    obtain ⟨⟨old, he⟩, hi⟩ := st
    exact ⟨⟨old, k e (by simp) _ he⟩, hi.at fun o q => k it (by simp) o q⟩
  item := by
    intro X hP hw hK hc i pins s σ H E I hf st hg
    subst hP hw hK
    obtain ⟨xs, x, hq, hx⟩ := hg
    obtain ⟨its, rv, p, hz⟩ := I.list hq
    obtain ⟨u, hu, ru⟩ := rv.get hx
    obtain ⟨⟨old, he⟩, hi⟩ := st
    refine wpAny_pyNext_enum_item he hi p.isList (x := u) (by simpa using hu) hei fun h1 ho hi1 hT hsz hk => ?_
    refine ⟨_, rfl, wpAny_letOwnedTupleGo_enum ho fun h2 he2 hs2 => ?_⟩
    have helt : e < s.heap.objs.size := Heap.lt_size he
    have hilt : it < s.heap.objs.size := by obtain ⟨o, q, _⟩ := hi; exact Heap.lt_size q
    have kk : ∀ b o, b ∉ [e, it] → s.heap.get? b = some o → h2.get? b = some o := fun b o hb q => (hs2.2 b fun z => hb (by simp [z])).trans (hk b o (fun z => hb (by simp [z])) (fun z => hb (by simp [z])) q)
    have hT2 : h2.get? s.heap.objs.size = some { cls := .type "tuple", data := .seq #[.int (i : Nat) s.toks, u] } := (hs2.2 _ (Nat.ne_of_gt helt)).trans hT
    have hT0 : H s.heap.objs.size = none := I.hok.fresh (Nat.le_refl _)
    have I2 := I.drawn (ch := [e, it]) (T := s.heap.objs.size) (xs := [.int (i : Nat), x]) (its := [.int (i : Nat) s.toks, u]) (h' := h2) (tk := s.toks + 1) hf kk (Nat.le_refl _) (by show 2 ≤ sizeLine; decide) (.cons ⟨_, rfl⟩ (.cons ru .nil)) ⟨_, hT2, rfl, _, rfl⟩
    refine ⟨.ref s.heap.objs.size, _, I2, rfl, ⟨_, x, rfl, hT0, rfl, fun ys hy => by rw [I.list_inj hy hq]; exact hx⟩, ⟨⟨_, by simpa using he2⟩, hi1.extBut hs2.extBut (Ne.symm hei)⟩, fun b hb => ?_⟩
    have hb' : b < s.heap.objs.size := by
      rcases List.mem_cons.mp hb with z | z
      · rw [z]; exact helt
      · rw [List.mem_singleton.mp z]; exact hilt
    rw [upd_ne (Nat.ne_of_lt hb')]
    exact (hf b hb).1
  done := by
    intro X hP hw hK hc i pins s σ H E I hf st hg
    subst hP hw hK
    obtain ⟨xs, hq, hx⟩ := hg
    obtain ⟨its, rv, p, hz⟩ := I.list hq
    obtain ⟨⟨old, he⟩, hi⟩ := st
    have hl := rv.length
    obtain ⟨f0, f1, f2, f3, f4, f5⟩ := hf it (by simp)
    exact wpAny_pyNext_enum_end (I.ok.hd hc) he hi p.isList (by simp; omega) fun h' eb => ⟨rfl, I.turned (t' := s.toks) (fun b o hb q => eb b o hb q) f0 f1 f3 f4 f5⟩
  self := fun _ _ _ _ _ st h => by
    obtain ⟨⟨old, he⟩, _⟩ := st
    exact wpAny_pyIter_enum he h
end
section
variable {X : Cx} {pos p tp : Pos} {elts : List Expr} {n : Nat}
theorem pi_enum {a : Expr} {ta : TA} (hg : Gl X "enumerate") (hm : X.mg "enumerate" = none) (ha : PA X [a] ta) (hs : starEach [a] X.env = [(false, eval a X.env)] := by rfl) :
    PI X (.Tuple elts n tp) (.Call (.Name "enumerate" p) [a] [] pos) (fun σ H R => ta σ H fun vs H1 => ∃ l, vs = [.ref l] ∧ (∃ xs, SqL X.K H1 l xs) ∧ R (Ite X.K l) H1) := by
  intro pins s σ H R I h
  refine Call_ (ld_blt I hg hm bt_enumerate (PyProof.Rows.callWith_type1 (thn (ha pos pins s σ H _ I h) fun us s1 ⟨vs, H1, I1, r1, q1⟩ => ?_) hs rfl))
  obtain ⟨l, e, ⟨xs, hq⟩, q⟩ := q1
  subst e
  obtain ⟨u, rfl, ru⟩ := vals1 r1
  cases ru
  obtain ⟨its, rv, pl, hz⟩ := I1.list hq
  refine call_enumerate_list pl.isList fun h' he hi hsz hk => ?_
  refine wpAny_pyIter_enum he ?_
  have I2 : Inv X pins σ H1 { s1 with heap := h' } := I1.kept (t' := s1.toks) hk
  refine ⟨s1.heap.objs.size + 1, [s1.heap.objs.size + 1, s1.heap.objs.size], _, _, H1, rfl, I2, turn_enum l _ _ (Nat.succ_ne_self _), ⟨⟨_, he⟩, hi⟩, fun b hb => ?_, q⟩
  have hb' : s1.heap.objs.size ≤ b := by
    rcases List.mem_cons.mp hb with z | z
    · rw [z]; exact Nat.le_succ _
    · rw [List.mem_singleton.mp z]; exact Nat.le_refl _
  exact I1.fpOk hb' (I1.hok.fresh hb')
def enumD : Nat → List D → List D
  | _, [] => []
  | i, d :: r => .tup [.int (i : Nat), d] :: enumD (i + 1) r
theorem enum_get : ∀ {ds : List D} {i j : Nat}, (enumD j ds)[i]? = (ds[i]?).map fun d => D.tup [.int ((j + i : Nat) : Int), d]
  | [], i, j => by simp [enumD]
  | d :: r, 0, j => by simp [enumD]
  | d :: r, i + 1, j => by
    show (enumD (j + 1) r)[i]? = _
    rw [enum_get]
    simp only [List.getElem?_cons_succ]
    rw [show j + 1 + i = j + (i + 1) by omega]
theorem enum_len : ∀ {ds : List D} {j : Nat}, (enumD j ds).length = ds.length
  | [], j => rfl
  | d :: r, j => by simp [enumD, enum_len]
theorem seq_enum {K : PySem.W.Frag} {H1 : Hp} {a : Addr} {ds : List D} : Seq3 K H1 (Ite K a) (enumD 0 ds) (fun M => lstM M a = some ds) where
  go := fun i H M hi hm ok _ => by
    rw [enum_len] at hi
    obtain ⟨xs, h1, h2, _⟩ := rol_there hm ok
    obtain ⟨x, e, _⟩ := h2.get (List.getElem?_eq_getElem hi)
    exact ⟨xs, x, h1, e⟩
  yld := fun i d H M x H' hd hm ok _ y => by
    obtain ⟨xs, h1, h2, _⟩ := rol_there hm ok
    obtain ⟨p, z, rfl, hp, rfl, y⟩ := y
    rw [enum_get] at hd
    cases e : ds[i]? with
    | none => rw [e] at hd; cases hd
    | some d' =>
      rw [e] at hd
      cases hd
      obtain ⟨x', e', hx⟩ := h2.get e
      have w1 := y xs h1
      rw [e'] at w1
      have w2 : x' = z := Option.some.inj w1
      subst w2
      have ex : ExtT K H (upd H p (.tup [.int (i : Nat), x'])) := .new hp
      refine ⟨.tup (.of upd_same) (.cons (by rw [Nat.zero_add]; exact .int) (.cons (hx.mono ex) .nil)), hm.add hp, ex⟩
  stop := fun H M hm ok _ => by
    obtain ⟨xs, h1, h2, _⟩ := rol_there hm ok
    exact ⟨xs, h1, by rw [enum_len, h2.length]; exact Nat.le_refl _⟩
def ienum3 (t : T3A) : T3I := fun δ M R => t δ M fun ds M1 => match ds with
  | [.ref a] => (lstM M1 a).elim False fun es => R (enumD 0 es) (fun M => lstM M a = some es) M1
  | _ => False
theorem i3_enumerate {a : Expr} {ta : T3A} (hg : Gl X "enumerate") (hm : X.mg "enumerate" = none) (ha : A3 X [a] ta) (hs : starEach [a] X.env = [(false, eval a X.env)] := by rfl) : I3 X (.Tuple elts n tp) (.Call (.Name "enumerate" p) [a] [] pos) (ienum3 ta) :=
  PI.mono (pi_enum hg hm ha hs) fun σ H R' ⟨δ, M, R, hs, hm, ht, k⟩ => ⟨δ, M, _, hs, hm, ht, fun vs H1 ds M1 hd hm1 e1 q1 => by
    split at q1
    · obtain ⟨v, rfl, hv⟩ := one_inv hd
      cases hv.ref_inv
      obtain ⟨es, e0, q⟩ := elimF q1
      obtain ⟨xs, h1, h2, _⟩ := rol_there hm1 e0
      exact ⟨_, rfl, ⟨xs, h1⟩, k _ H1 _ _ M1 seq_enum hm1 e1 e0 q⟩
    · exact q1.elim⟩
end
end L3
namespace L3
open PySem PySem.Spec PyProof.Rows L2
section
variable {prog : Program} {w : World} {A : Around} {E : Value → Shared → Prop} {s : Shared}
theorem nextOf_tup {it t : Addr} {i : Nat} {its : Array Value} {x : Value} {Q : Value → Shared → Prop} (hi : s.heap.IsTupleIter it t i) (ht : s.heap.IsTuple t its) (hx : its[i]? = some x)
    (hQ : ∀ g, g.IsTupleIter it t (i + 1) → Heap.SameBut it s.heap g → Q x { s with heap := g }) : wpAny (model prog w) A (Builtin.SmallTypes.nextOf (.ref it)) Q E s := by
  obtain ⟨ob, e1, e2, e3⟩ := id hi
  obtain ⟨ot, e4, _, nt, e5⟩ := ht
  unfold Builtin.SmallTypes.nextOf
  refine wpAny_bind (wpAny_callSpecial?_slot (name := Str.ofString "__next__") hi.typeIs F.slot_tuple_iterator_next (wpAny_call_entry F.slot_tuple_iterator_next hi.typeIs F.entry_tuple_iterator_next ?_ (F.args_tuple_iterator_next_1 _)))
  show wpAny (model prog w) _ (field (.ref it) 0 >>= _) _ _ s
  refine wpAny_bind (wpAny_field e1 e3 (x := .ref t) rfl ?_)
  show wpAny (model prog w) _ (if (Value.ref t == Value.none) = true then _ else _) _ _ s
  rw [if_neg (show ¬ (Value.ref t == Value.none) = true from Bool.false_ne_true)]
  show wpAny (model prog w) _ (field (.ref it) 1 >>= _) _ _ s
  refine wpAny_bind (wpAny_field e1 e3 (x := .int i 0) rfl ?_)
  show wpAny (model prog w) _ (seqItems? (.ref t) >>= _) _ _ s
  refine wpAny_bind (wpAny_seqItems e4 e5 ?_)
  simp only [Int.toNat_natCast, hx]
  refine wpAny_bind (wpAny_setField e1 e3 (by simp) (wpAny_pure ⟨x, rfl, wpAny_pure (hQ _ ⟨_, Heap.get?_update_self _ e1 (Obj.isFreed_of_fields (Obj.data_mapFields e3 _)), (Obj.cls_mapFields ..).trans e2, ?_⟩ (Heap.SameBut.update ..))⟩))
  rw [Obj.data_mapFields e3]
  simp [rawInt]
theorem nextOf_tup_end {it t : Addr} {i : Nat} {its : Array Value} {Q : Value → Shared → Prop} (hh : A.handled = none) (hi : s.heap.IsTupleIter it t i) (ht : s.heap.IsTuple t its) (hx : its[i]? = none)
    (hE : ∀ g e, Heap.ExtBut it s.heap g → (∃ o, g.get? e = some o ∧ o.cls = .type "StopIteration") → E (.ref e) { s with heap := g }) : wpAny (model prog w) A (Builtin.SmallTypes.nextOf (.ref it)) Q E s := by
  obtain ⟨ob, e1, e2, e3⟩ := id hi
  obtain ⟨ot, e4, _, nt, e5⟩ := ht
  unfold Builtin.SmallTypes.nextOf
  refine wpAny_bind (wpAny_callSpecial?_slot (name := Str.ofString "__next__") hi.typeIs F.slot_tuple_iterator_next (wpAny_call_entry F.slot_tuple_iterator_next hi.typeIs F.entry_tuple_iterator_next ?_ (F.args_tuple_iterator_next_1 _)))
  show wpAny (model prog w) _ (field (.ref it) 0 >>= _) _ _ s
  refine wpAny_bind (wpAny_field e1 e3 (x := .ref t) rfl ?_)
  show wpAny (model prog w) _ (if (Value.ref t == Value.none) = true then _ else _) _ _ s
  rw [if_neg (show ¬ (Value.ref t == Value.none) = true from Bool.false_ne_true)]
  show wpAny (model prog w) _ (field (.ref it) 1 >>= _) _ _ s
  refine wpAny_bind (wpAny_field e1 e3 (x := .int i 0) rfl ?_)
  show wpAny (model prog w) _ (seqItems? (.ref t) >>= _) _ _ s
  refine wpAny_bind (wpAny_seqItems e4 e5 ?_)
  simp only [Int.toNat_natCast, hx]
  refine wpAny_bind (wpAny_rule (wpAny_bind (wpAny_setField e1 e3 (by simp) ?_)))
  show wpAny (model prog w) _ (newExc (.type "StopIteration") [] >>= _) _ _ _
  refine wpAny_bind ?_
  simp only [newExc, newTuple]
  refine wpAny_bind (wpAny_newObj_type ?_ (by size_fits))
  refine wpAny_bind (m := firstArgMember _ _) (wpAny_of_eq (a := Value.none) (by first | rfl | (simp only [firstArgMember]; rfl)) ?_)
  refine wpAny_newObj_type ?_ (by size_fits)
  simp only [raiseNew]
  refine wpAny_bind (wpAny_handled ?_)
  first | rw [show A.in1.handled = none from hh] | rw [hh]
  refine wpAny_bind (wpAny_pure (wpAny_throw (hE _ _ (((Heap.SameBut.update ..).extBut.push _).push _) ⟨_, Heap.get?_push_size _ rfl, rfl⟩)))
end
theorem draws_tup {prog : Program} {w : World} {A : Around} (hh : A.handled = none) (it t : Addr) (hne : t ≠ it) (its : Array Value) :
    Draws prog w A it [it, t] its.size (fun i v => its[i]? = some v) (fun i h => h.IsTupleIter it t i ∧ h.IsTuple t its) where
  live := fun i h st => let ⟨o, ho, _⟩ := st.1; ⟨o, ho⟩
  frame := fun i h g st hk => by
    obtain ⟨⟨o, e1, e2⟩, ⟨o', e3, e4⟩⟩ := st
    exact ⟨⟨o, hk it (by simp) o e1, e2⟩, ⟨o', hk t (by simp) o' e3, e4⟩⟩
  item := fun i s Q E hi st hQ => nextOf_tup st.1 st.2 (x := its[i]) (by simp [hi]) fun g hg hs => hQ _ g s.toks (by simp [hi]) ⟨hg, st.2.extBut hs.extBut hne⟩ hs
  done := fun s Q E st hE => nextOf_tup_end hh st.1 st.2 (by simp) hE
structure ZipFar (z TI TO i1 i2 : Addr) (f1 f2 : List Addr) : Prop where
  a1 : TI ≠ z
  a2 : TO ≠ z
  a3 : i1 ≠ z
  a4 : i2 ≠ z
  a5 : TI ≠ TO
  a6 : TI ≠ i1
  a7 : TI ≠ i2
  a8 : TO ≠ i1
  a9 : TO ≠ i2
  a10 : i1 ≠ i2
  b1 : z ∉ f1
  b2 : TO ∉ f1
  b3 : i2 ∉ f1
  c1 : z ∉ f2
  c2 : TO ∉ f2
  c3 : i1 ∉ f2
section
variable {prog : Program} {w : World} {A : Around} {E : Value → Shared → Prop} {s : Shared} {z TI TO i1 i2 : Addr} {f1 f2 : List Addr} {n1 n2 k1 k2 : Nat} {P1 P2 : Nat → Value → Prop} {S1 S2 : Nat → Heap → Prop} {a b : Value}
theorem frame_but {fp : List Addr} {it : Addr} {n : Nat} {Pt : Nat → Value → Prop} {St : Nat → Heap → Prop} (Dr : Draws prog w A it fp n Pt St) {i : Nat} {h g : Heap} {c : Addr} (st : St i h) (hs : Heap.SameBut c h g) (hc : c ∉ fp) : St i g :=
  Dr.frame _ _ _ st fun d hd o e => (hs.2 d fun q => hc (q ▸ hd)).trans e
theorem zipD_item {Q : Value → Shared → Prop} (D1 : Draws prog w A i1 f1 n1 P1 S1) (D2 : Draws prog w A i2 f2 n2 P2 S2) (far : ZipFar z TI TO i1 i2 f1 f2) (hz : IsZip s.heap z TI TO .none) (hI : IsPair s.heap TI (.ref i1) (.ref i2)) (hO : IsPair s.heap TO a b)
    (st1 : S1 k1 s.heap) (st2 : S2 k2 s.heap) (l1 : k1 < n1) (l2 : k2 < n2)
    (hQ : ∀ x y g tk, P1 k1 x → P2 k2 y → IsZip g z TI TO (rawInt s.heap.objs.size) → IsPair g TO x y → S1 (k1 + 1) g → S2 (k2 + 1) g → IsPair g s.heap.objs.size x y → g.objs.size = s.heap.objs.size + 1 →
      (∀ c o, c ≠ z → c ≠ TO → c ≠ i1 → c ≠ i2 → s.heap.get? c = some o → g.get? c = some o) → Q (.ref s.heap.objs.size) { s with heap := g, toks := tk }) :
    wpAny (model prog w) A (Builtin.«zip.__next__» ⟨[.ref z], []⟩) (fun fin s' => ∃ v, fin = .done (.ret v) ∧ Q v s') E s := by
  show wpAny (model prog w) A (field (.ref z) 2 >>= _) _ _ _
  refine wpAny_bind (wpAny_field hz rfl (x := .bool false) rfl ?_)
  show wpAny (model prog w) A (field (.ref z) 3 >>= _) _ _ _
  refine wpAny_bind (wpAny_field hz rfl (x := .ref TI) rfl (wpAny_bind (wpAny_seqItems hI rfl ?_)))
  show wpAny (model prog w) A (Builtin.SmallTypes.ownedTupleIsFree (.ref z) >>= _) _ _ _
  refine wpAny_bind ?_
  unfold Builtin.SmallTypes.ownedTupleIsFree
  refine wpAny_bind (wpAny_field hz rfl (x := .none) rfl (wpAny_pure ?_))
  simp only [if_true]
  refine wpAny_bind (wpAny_rule (wpAny_bind (wpAny_field hz rfl (x := .ref TO) rfl (wpAny_bind (wpAny_setField_rec hz (by simp) fun g1 z1 sb1 => ?_)))))
  replace z1 : IsZip g1 z TI TO .ellipsis := z1
  refine wpAny_bind ?_
  simp only [List.zipIdx_cons, List.zipIdx_nil, List.forIn_cons, List.forIn_nil]
  refine wpAny_bind (wpAny_bind (wpAny_onRaise ?_))
  show wpAny (model prog w) A (Builtin.SmallTypes.nextOf (.ref i1) >>= _) _ _ _
  have st1a : S1 k1 g1 := frame_but D1 st1 sb1 far.b1
  refine wpAny_bind (D1.item k1 _ _ _ l1 st1a fun x g2 tk2 px st1b sb2 => wpAny_pure ?_)
  replace sb2 : Heap.SameBut i1 g1 g2 := sb2
  have o2 : IsPair g2 TO a b := sb2.extBut _ _ far.a8 (sb1.extBut _ _ far.a2 hO)
  refine wpAny_bind (wpAny_seqItems o2 rfl (wpAny_bind (wpAny_updateSeq_pair o2 fun g3 o3 sb3 => ?_)))
  replace o3 : IsPair g3 TO x b := o3
  replace sb3 : Heap.SameBut TO g2 g3 := sb3
  refine wpAny_bind (wpAny_letGo (wpAny_pure (wpAny_bind (wpAny_bind (wpAny_onRaise ?_)))))
  show wpAny (model prog w) A (Builtin.SmallTypes.nextOf (.ref i2) >>= _) _ _ _
  have st2a : S2 k2 g3 := frame_but D2 (frame_but D2 (frame_but D2 st2 sb1 far.c1) sb2 far.c3) sb3 far.c2
  refine wpAny_bind (D2.item k2 _ _ _ l2 st2a fun y g4 tk4 py st2b sb4 => wpAny_pure ?_)
  replace sb4 : Heap.SameBut i2 g3 g4 := sb4
  have o4 : IsPair g4 TO x b := sb4.extBut _ _ far.a9 o3
  refine wpAny_bind (wpAny_seqItems o4 rfl (wpAny_bind (wpAny_updateSeq_pair o4 fun g5 o5 sb5 => ?_)))
  replace o5 : IsPair g5 TO x y := o5
  replace sb5 : Heap.SameBut TO g4 g5 := sb5
  refine wpAny_bind (wpAny_letGo (wpAny_pure (wpAny_pure (wpAny_bind (wpAny_seqItems o5 rfl (wpAny_bind (wpAny_newTuple ?_)))))))
  have esz : g5.objs.size = s.heap.objs.size := by rw [sb5.1, sb4.1, sb3.1, sb2.1, sb1.1]
  have z5 : IsZip g5 z TI TO .ellipsis := sb5.extBut _ _ far.a2.symm (sb4.extBut _ _ far.a4.symm (sb3.extBut _ _ far.a2.symm (sb2.extBut _ _ far.a3.symm z1)))
  have kp : ∀ c o, c ≠ z → c ≠ TO → c ≠ i1 → c ≠ i2 → s.heap.get? c = some o → g5.get? c = some o := fun c o q1 q2 q3 q4 q => sb5.extBut _ _ q2 (sb4.extBut _ _ q4 (sb3.extBut _ _ q2 (sb2.extBut _ _ q3 (sb1.extBut _ _ q1 q))))
  have st1c : S1 (k1 + 1) g5 := frame_but D1 (frame_but D1 (frame_but D1 st1b sb3 far.b2) sb4 far.b3) sb5 far.b2
  have st2c : S2 (k2 + 1) g5 := frame_but D2 st2b sb5 far.c2
  have zlt : z < g5.objs.size := Heap.lt_size z5
  show wpAny (model prog w) A (Builtin.SmallTypes.ownedTupleHandOut (.ref z) (.ref g5.objs.size) >>= _) _ _ _
  refine wpAny_bind ?_
  unfold Builtin.SmallTypes.ownedTupleHandOut
  have z6 : IsZip (g5.push { cls := .type "tuple", data := .seq #[x, y] }) z TI TO .ellipsis := Heap.get?_push_of_some _ z5
  refine wpAny_bind (wpAny_setField_rec z6 (by simp) fun g7 z7 sb7 => ?_)
  replace z7 : IsZip g7 z TI TO (rawInt g5.objs.size) := z7
  refine wpAny_setField_rec z7 (by simp) fun g8 z8 sb8 => ?_
  replace z8 : IsZip g8 z TI TO (rawInt g5.objs.size) := z8
  have up : ∀ c o, c ≠ z → g5.get? c = some o → g8.get? c = some o := fun c o q1 q => sb8.extBut _ _ q1 (sb7.extBut _ _ q1 (Heap.get?_push_of_some _ q))
  have tu : IsPair g8 g5.objs.size x y := sb8.extBut _ _ (Nat.ne_of_gt zlt) (sb7.extBut _ _ (Nat.ne_of_gt zlt) (Heap.get?_push_size _ rfl))
  have es8 : g8.objs.size = g5.objs.size + 1 := by rw [sb8.1, sb7.1, Heap.size_push]
  rw [esz] at z8 tu es8
  refine wpAny_pure ⟨_, rfl, ?_⟩
  show Q (.ref g5.objs.size) _
  rw [esz]
  exact hQ x y g8 _ px py z8 (up _ _ far.a2 o5) (D1.frame _ _ _ st1c fun c hc o q => up c o (fun r => far.b1 (r ▸ hc)) q) (D2.frame _ _ _ st2c fun c hc o q => up c o (fun r => far.c1 (r ▸ hc)) q) tu es8 fun c o q1 q2 q3 q4 q => up c o q1 (kp c o q1 q2 q3 q4 q)
theorem zipD_end {Q : Fin → Shared → Prop} (D1 : Draws prog w A i1 f1 n1 P1 S1) (D2 : Draws prog w A i2 f2 n2 P2 S2) (far : ZipFar z TI TO i1 i2 f1 f2) (hz : IsZip s.heap z TI TO .none) (hI : IsPair s.heap TI (.ref i1) (.ref i2)) (hO : IsPair s.heap TO a b)
    (st1 : S1 k1 s.heap) (st2 : S2 k1 s.heap) (hend : k1 = n1 ∨ (k1 < n1 ∧ k1 = n2))
    (hE : ∀ g e, (∀ c o, c ≠ z → c ≠ TO → c ≠ i1 → c ≠ i2 → s.heap.get? c = some o → g.get? c = some o) → (∃ o, g.get? e = some o ∧ o.cls = .type "StopIteration") → ∀ tk, E (.ref e) { s with heap := g, toks := tk }) :
    wpAny (model prog w) A (Builtin.«zip.__next__» ⟨[.ref z], []⟩) Q E s := by
  show wpAny (model prog w) A (field (.ref z) 2 >>= _) _ _ _
  refine wpAny_bind (wpAny_field hz rfl (x := .bool false) rfl ?_)
  show wpAny (model prog w) A (field (.ref z) 3 >>= _) _ _ _
  refine wpAny_bind (wpAny_field hz rfl (x := .ref TI) rfl (wpAny_bind (wpAny_seqItems hI rfl ?_)))
  show wpAny (model prog w) A (Builtin.SmallTypes.ownedTupleIsFree (.ref z) >>= _) _ _ _
  refine wpAny_bind ?_
  unfold Builtin.SmallTypes.ownedTupleIsFree
  refine wpAny_bind (wpAny_field hz rfl (x := .none) rfl (wpAny_pure ?_))
  simp only [if_true]
  refine wpAny_bind (wpAny_rule (wpAny_bind (wpAny_field hz rfl (x := .ref TO) rfl (wpAny_bind (wpAny_setField_rec hz (by simp) fun g1 z1 sb1 => ?_)))))
  replace z1 : IsZip g1 z TI TO .ellipsis := z1
  refine wpAny_bind ?_
  simp only [List.zipIdx_cons, List.zipIdx_nil, List.forIn_cons, List.forIn_nil]
  refine wpAny_bind (wpAny_bind (wpAny_onRaise ?_))
  show wpAny (model prog w) A (Builtin.SmallTypes.nextOf (.ref i1) >>= _) _ _ _
  have st1a : S1 k1 g1 := frame_but D1 st1 sb1 far.b1
  rcases hend with he | ⟨hlt, he⟩
  · rw [he] at st1a
    refine wpAny_bind (D1.done _ _ _ st1a fun g2 e sb2 hx => ?_)
    obtain ⟨oe, g, hce⟩ := hx
    have z2 : IsZip g2 z TI TO .ellipsis := sb2 _ _ far.a3.symm z1
    have hez : e ≠ z := fun q => by subst q; rw [z2] at g; cases g; simp at hce
    exact wpAny_setField_rec z2 (by simp) fun g3 _ sb3 => hE g3 e (fun c o q1 _ q3 _ q => sb3.extBut _ _ q1 (sb2 _ _ q3 (sb1.extBut _ _ q1 q))) ⟨oe, sb3.extBut _ _ hez g, hce⟩ _
  · refine wpAny_bind (D1.item k1 _ _ _ hlt st1a fun x g2 tk2 px st1b sb2 => wpAny_pure ?_)
    replace sb2 : Heap.SameBut i1 g1 g2 := sb2
    have o2 : IsPair g2 TO a b := sb2.extBut _ _ far.a8 (sb1.extBut _ _ far.a2 hO)
    refine wpAny_bind (wpAny_seqItems o2 rfl (wpAny_bind (wpAny_updateSeq_pair o2 fun g3 o3 sb3 => ?_)))
    replace sb3 : Heap.SameBut TO g2 g3 := sb3
    refine wpAny_bind (wpAny_letGo (wpAny_pure (wpAny_bind (wpAny_bind (wpAny_onRaise ?_)))))
    show wpAny (model prog w) A (Builtin.SmallTypes.nextOf (.ref i2) >>= _) _ _ _
    have st2a : S2 k1 g3 := frame_but D2 (frame_but D2 (frame_but D2 st2 sb1 far.c1) sb2 far.c3) sb3 far.c2
    rw [he] at st2a
    refine wpAny_bind (D2.done _ _ _ st2a fun g4 e sb4 hx => ?_)
    obtain ⟨oe, g, hce⟩ := hx
    have z4 : IsZip g4 z TI TO .ellipsis := sb4 _ _ far.a4.symm (sb3.extBut _ _ far.a2.symm (sb2.extBut _ _ far.a3.symm z1))
    have hez : e ≠ z := fun q => by subst q; rw [z4] at g; cases g; simp at hce
    exact wpAny_setField_rec z4 (by simp) fun g5 _ sb5 => hE g5 e (fun c o q1 q2 q3 q4 q => sb5.extBut _ _ q1 (sb4 _ _ q4 (sb3.extBut _ _ q2 (sb2.extBut _ _ q3 (sb1.extBut _ _ q1 q))))) ⟨oe, sb5.extBut _ _ hez g, hce⟩ _
end
abbrev zt1 (h : Heap) (t : Addr) : Heap := h.push { cls := .type "tuple_iterator", data := .fields #[.ref t, .int 0 0] }
abbrev zt2 (h : Heap) (t u : Addr) : Heap := (zt1 h t).push { cls := .type "tuple_iterator", data := .fields #[.ref u, .int 0 0] }
abbrev zt3 (h : Heap) (t u : Addr) : Heap := (zt2 h t u).push { cls := .type "tuple", data := .seq #[.ref h.objs.size, .ref (zt1 h t).objs.size] }
abbrev zt4 (h : Heap) (t u : Addr) : Heap := (zt3 h t u).push { cls := .type "tuple", data := .seq #[.none, .none] }
abbrev zt5 (h : Heap) (t u : Addr) : Heap := (zt4 h t u).push { cls := .type "zip", data := .fields #[.none, .bool false, .bool false, .ref (zt2 h t u).objs.size, .ref (zt3 h t u).objs.size] }
theorem meets_zip_tup (t u : Addr) (xs ys : Array Value) :
    Meets (Builtin.«zip.__new__» ⟨[.type "zip", .ref t, .ref u], []⟩) (fun _ R s => s.heap.IsTuple t xs ∧ s.heap.IsTuple u ys ∧ R (.ok (.ret (.ref (zt4 s.heap t u).objs.size))) { s with heap := zt5 s.heap t u }) :=
  .of_wp fun prog w A R s h => by
    obtain ⟨hp, g, d, tk, os⟩ := s
    obtain ⟨e1, e2, h⟩ := h
    have hsub := sub_zip
    have q1 : Heap.IsTuple (Shared.heap ⟨hp, g, d, tk, os⟩) t xs := e1
    have q2 : Heap.IsTuple (Shared.heap ⟨hp.push { cls := .type "tuple_iterator", data := .fields #[.ref t, .int 0 0] }, g, d, tk, os⟩) u ys := Heap.IsTuple.push e2 _
    wp_walk using wpAny_pyIter_tuple q1, wpAny_pyIter_tuple q2
    exact ⟨_, rfl, h⟩
section
variable {prog : Program} {w : World} {A : Around} {E : Value → Shared → Prop} {s : Shared}
theorem call_zip_tup {t u : Addr} {xs ys : Array Value} {Q : Value → Shared → Prop} (ht : s.heap.IsTuple t xs) (hu : s.heap.IsTuple u ys)
    (h : ∀ g, IsZip g (s.heap.objs.size + 4) (s.heap.objs.size + 2) (s.heap.objs.size + 3) .none → IsPair g (s.heap.objs.size + 2) (.ref s.heap.objs.size) (.ref (s.heap.objs.size + 1)) → IsPair g (s.heap.objs.size + 3) .none .none →
      g.IsTupleIter s.heap.objs.size t 0 → g.IsTupleIter (s.heap.objs.size + 1) u 0 → (∀ c o, s.heap.get? c = some o → g.get? c = some o) → Q (.ref (s.heap.objs.size + 4)) { s with heap := g }) :
    wpAny (model prog w) A (call (.type "zip") [.ref t, .ref u]) Q E s := by
  refine callType_new F.called_zip (by decide) (F.typeCall_zip_2 _ _) (F.newCall_zip_2 _ _) (fun obj => F.args_object_init_3 obj _ _) F.entry_zip_new (meets_zip_tup t u xs ys) ⟨ht, hu, ?_⟩
  have m1 : (zt1 s.heap t).objs.size = s.heap.objs.size + 1 := Heap.size_push ..
  have m2 : (zt2 s.heap t u).objs.size = s.heap.objs.size + 2 := by rw [Heap.size_push, m1]
  have m3 : (zt3 s.heap t u).objs.size = s.heap.objs.size + 3 := by rw [Heap.size_push, m2]
  have m4 : (zt4 s.heap t u).objs.size = s.heap.objs.size + 4 := by rw [Heap.size_push, m3]
  have up : ∀ {h : Heap} {c : Addr} {o p : Obj}, h.get? c = some o → (h.push p).get? c = some o := fun q => Heap.get?_push_of_some _ q
  have r5 : (zt5 s.heap t u).get? (zt4 s.heap t u).objs.size = some _ := Heap.get?_push_size _ rfl
  have r4 : (zt5 s.heap t u).get? (zt3 s.heap t u).objs.size = some _ := up (Heap.get?_push_size _ rfl)
  have r3 : (zt5 s.heap t u).get? (zt2 s.heap t u).objs.size = some _ := up (up (Heap.get?_push_size _ rfl))
  have r2 : (zt5 s.heap t u).get? (zt1 s.heap t).objs.size = some _ := up (up (up (Heap.get?_push_size _ rfl)))
  have r1 : (zt5 s.heap t u).get? s.heap.objs.size = some _ := up (up (up (up (Heap.get?_push_size _ rfl))))
  show _ ∧ _
  rw [m2, m3, m4] at r5
  rw [m1, m2] at r3
  rw [m3] at r4
  rw [m1] at r2
  rw [m4]
  exact ⟨⟨_, r5, rfl⟩, h _ r5 r3 r4 ⟨_, r1, rfl, rfl⟩ ⟨_, r2, rfl, rfl⟩ fun c o q => up (up (up (up (up q))))⟩
theorem pyNext_zipD {z TI TO i1 i2 : Addr} {f1 f2 : List Addr} {n1 n2 k : Nat} {P1 P2 : Nat → Value → Prop} {S1 S2 : Nat → Heap → Prop} {a b : Value} {Q : Option Value → Shared → Prop} (D1 : Draws prog w A.in1 i1 f1 n1 P1 S1) (D2 : Draws prog w A.in1 i2 f2 n2 P2 S2) (far : ZipFar z TI TO i1 i2 f1 f2)
    (hz : IsZip s.heap z TI TO .none) (hI : IsPair s.heap TI (.ref i1) (.ref i2)) (hO : IsPair s.heap TO a b) (st1 : S1 k s.heap) (st2 : S2 k s.heap) (l1 : k < n1) (l2 : k < n2)
    (hQ : ∀ x y g tk, P1 k x → P2 k y → IsZip g z TI TO (rawInt s.heap.objs.size) → IsPair g TO x y → S1 (k + 1) g → S2 (k + 1) g → IsPair g s.heap.objs.size x y → g.objs.size = s.heap.objs.size + 1 →
      (∀ c o, c ≠ z → c ≠ TO → c ≠ i1 → c ≠ i2 → s.heap.get? c = some o → g.get? c = some o) → Q (some (.ref s.heap.objs.size)) { s with heap := g, toks := tk }) : wpAny (model prog w) A (pyNext (.ref z)) Q E s := by
  have hT : s.TypeIs (.ref z) "zip" := ⟨_, hz, rfl⟩
  unfold pyNext
  refine wpAny_bind (wpAny_attempt (wpAny_callSpecial?_slot (name := Str.ofString "__next__") hT F.slot_zip_next (wpAny_call_entry F.slot_zip_next hT F.entry_zip_next ?_ (F.args_zip_next_1 _))))
  exact zipD_item D1 D2 far hz hI hO st1 st2 l1 l2 fun x y g tk q1 q2 q3 q4 q5 q6 q7 q8 q9 => wpAny_pure (hQ x y g tk q1 q2 q3 q4 q5 q6 q7 q8 q9)
theorem pyNext_zipD_end {z TI TO i1 i2 : Addr} {f1 f2 : List Addr} {n1 n2 k : Nat} {P1 P2 : Nat → Value → Prop} {S1 S2 : Nat → Heap → Prop} {a b : Value} {Q : Option Value → Shared → Prop} (D1 : Draws prog w A.in1 i1 f1 n1 P1 S1) (D2 : Draws prog w A.in1 i2 f2 n2 P2 S2) (far : ZipFar z TI TO i1 i2 f1 f2)
    (hz : IsZip s.heap z TI TO .none) (hI : IsPair s.heap TI (.ref i1) (.ref i2)) (hO : IsPair s.heap TO a b) (st1 : S1 k s.heap) (st2 : S2 k s.heap) (hend : k = n1 ∨ (k < n1 ∧ k = n2))
    (hQ : ∀ g tk, (∀ c o, c ≠ z → c ≠ TO → c ≠ i1 → c ≠ i2 → s.heap.get? c = some o → g.get? c = some o) → Q none { s with heap := g, toks := tk }) : wpAny (model prog w) A (pyNext (.ref z)) Q E s := by
  have hT : s.TypeIs (.ref z) "zip" := ⟨_, hz, rfl⟩
  unfold pyNext
  refine wpAny_bind (wpAny_attempt (wpAny_callSpecial?_slot (name := Str.ofString "__next__") hT F.slot_zip_next (wpAny_call_entry F.slot_zip_next hT F.entry_zip_next (zipD_end D1 D2 far hz hI hO st1 st2 hend fun g e kp hx tk => ?_) (F.args_zip_next_1 _))))
  obtain ⟨o, e1, e2⟩ := hx
  exact wpAny_bind (wpAny_isInstance (T := "StopIteration") (b := true) ⟨o, e1, e2⟩ isSubtype_stop (wpAny_pure (hQ g tk kp)))
end
end L3
namespace L3
open PySem PySem.Spec PyProof.Rows L2
section
variable {X : Cx} {pins : List (Addr × Obj)} {σ : St} {H : Hp} {s : Shared}
theorem sqt_ne {a b : Addr} {xs : List V} (I : Inv X pins σ H s) (f : FpOk X pins H b) (q : SqT X.K H a xs) : a ≠ b := by
  rintro rfl
  rcases q with q | ⟨o, its, n, hk, _⟩
  · have z := f.1
    rcases q with q | ⟨u, q⟩ <;> (rw [q] at z; cases z)
  · have e := I.mod.kin a o hk
    rcases f.2.2.2.1 with z | z
    · exact I.ok.noex a o e z
    · exact absurd (Nat.lt_of_lt_of_le (Heap.lt_size e) (Nat.le_trans I.ok.bsz z)) (Nat.lt_irrefl _)
def Itz (K : PySem.W.Frag) (a b : Addr) : It :=
  ⟨fun i H => ∃ xs ys x y, SqT K H a xs ∧ SqT K H b ys ∧ xs[i]? = some x ∧ ys[i]? = some y,
   fun i H v H' => ∃ p x y, v = .ref p ∧ H p = none ∧ H' = upd H p (.tup [x, y]) ∧ (∀ xs, SqT K H a xs → xs[i]? = some x) ∧ (∀ ys, SqT K H b ys → ys[i]? = some y),
   fun i H => ∃ xs ys, SqT K H a xs ∧ SqT K H b ys ∧ i = min xs.length ys.length⟩
theorem turn_zip {P : Program} {w : World} {K : PySem.W.Frag} {elts : List Expr} {n : Nat} {tp : Pos} (a b z TI TO i1 i2 : Addr) (a1 : TI ≠ z) (a2 : TO ≠ z) (a3 : i1 ≠ z) (a4 : i2 ≠ z) (a5 : TI ≠ TO) (a6 : TI ≠ i1) (a7 : TI ≠ i2) (a8 : TO ≠ i1) (a9 : TO ≠ i2) (a10 : i1 ≠ i2) :
    Turn P w K (.Tuple elts n tp) (Itz K a b) [z, TI, TO, i1, i2] z (fun i h => IsZip h z TI TO .none ∧ IsPair h TI (.ref i1) (.ref i2) ∧ (∃ u v, IsPair h TO u v) ∧ h.IsTupleIter i1 a i ∧ h.IsTupleIter i2 b i) where
  mem := by simp
  obj := fun i h st c hc => by
    obtain ⟨h1, h2, ⟨u, v, h3⟩, ⟨o4, h4, _, d4⟩, ⟨o5, h5, _, d5⟩⟩ := st
    simp only [List.mem_cons, List.not_mem_nil, or_false] at hc
    rcases hc with rfl | rfl | rfl | rfl | rfl
    · exact ⟨_, h1, fun v z => by cases z⟩
    · exact ⟨_, h2, fun v z => by cases z⟩
    · exact ⟨_, h3, fun v z => by cases z⟩
    · exact ⟨_, h4, fun v z => by rw [d4] at z; cases z⟩
    · exact ⟨_, h5, fun v z => by rw [d5] at z; cases z⟩
  keep := fun i h h' st k => by
    obtain ⟨h1, h2, ⟨u, v, h3⟩, ⟨o4, h4, c4⟩, ⟨o5, h5, c5⟩⟩ := st
    exact ⟨k z (by simp) _ h1, k TI (by simp) _ h2, ⟨u, v, k TO (by simp) _ h3⟩, ⟨o4, k i1 (by simp) _ h4, c4⟩, ⟨o5, k i2 (by simp) _ h5, c5⟩⟩
  item := by
    intro X hP hw hK hc i pins s σ H E I hf st hg
    subst hP hw hK
    obtain ⟨xs, ys, x, y, hx, hy, ex, ey⟩ := hg
    obtain ⟨its, rx, px, _⟩ := I.tuple hx
    obtain ⟨jts, ry, py, _⟩ := I.tuple hy
    obtain ⟨u, eu, ru⟩ := rx.get ex
    obtain ⟨v, ev, rv⟩ := ry.get ey
    obtain ⟨h1, h2, ⟨p, q, h3⟩, h4, h5⟩ := st
    have hh : X.A.in1.handled = none := I.ok.hd hc
    have fa : ∀ c ∈ [z, TI, TO, i1, i2], a ≠ c := fun c hc => sqt_ne I (hf c hc) hx
    have fb : ∀ c ∈ [z, TI, TO, i1, i2], b ≠ c := fun c hc => sqt_ne I (hf c hc) hy
    have far : ZipFar z TI TO i1 i2 [i1, a] [i2, b] := ⟨a1, a2, a3, a4, a5, a6, a7, a8, a9, a10, by
      simp only [List.mem_cons, List.not_mem_nil, or_false, not_or]
      exact ⟨Ne.symm a3, Ne.symm (fa z (by simp))⟩, by
      simp only [List.mem_cons, List.not_mem_nil, or_false, not_or]
      exact ⟨a8, Ne.symm (fa TO (by simp))⟩, by
      simp only [List.mem_cons, List.not_mem_nil, or_false, not_or]
      exact ⟨Ne.symm a10, Ne.symm (fa i2 (by simp))⟩, by
      simp only [List.mem_cons, List.not_mem_nil, or_false, not_or]
      exact ⟨Ne.symm a4, Ne.symm (fb z (by simp))⟩, by
      simp only [List.mem_cons, List.not_mem_nil, or_false, not_or]
      exact ⟨a9, Ne.symm (fb TO (by simp))⟩, by
      simp only [List.mem_cons, List.not_mem_nil, or_false, not_or]
      exact ⟨a10, Ne.symm (fb i1 (by simp))⟩⟩
    have l1 : i < its.toArray.size := by
      have := (List.getElem?_eq_some_iff.mp eu).1
      simpa using this
    have l2 : i < jts.toArray.size := by
      have := (List.getElem?_eq_some_iff.mp ev).1
      simpa using this
    refine pyNext_zipD (draws_tup hh i1 a (fa i1 (by simp)) its.toArray) (draws_tup hh i2 b (fb i2 (by simp)) jts.toArray) far h1 h2 h3 ⟨h4, px⟩ ⟨h5, py⟩ l1 l2 fun x' y' g tk e1 e2 z1 o1 s1 s2 t1 sz kp => ?_
    have e1' : x' = u := by
      have : its[i]? = some x' := by simpa using e1
      rw [eu] at this
      exact (Option.some.inj this).symm
    have e2' : y' = v := by
      have : jts[i]? = some y' := by simpa using e2
      rw [ev] at this
      exact (Option.some.inj this).symm
    subst e1' e2'
    refine ⟨_, rfl, wpAny_letOwnedTupleGo_zip z1 fun g2 z2 sb => ?_⟩
    have zlt : z < s.heap.objs.size := Heap.lt_size h1
    have kk : ∀ c o, c ∉ [z, TI, TO, i1, i2] → s.heap.get? c = some o → g2.get? c = some o := fun c o hc e => by
      simp only [List.mem_cons, List.not_mem_nil, or_false, not_or] at hc
      exact (sb.2 c hc.1).trans (kp c o hc.1 hc.2.2.1 hc.2.2.2.1 hc.2.2.2.2 e)
    have t2 : g2.get? s.heap.objs.size = some { cls := .type "tuple", data := .seq #[x', y'] } := (sb.2 _ (Nat.ne_of_gt zlt)).trans t1
    have hT0 : H s.heap.objs.size = none := I.hok.fresh (Nat.le_refl _)
    have I2 := I.drawn (ch := [z, TI, TO, i1, i2]) (T := s.heap.objs.size) (xs := [x, y]) (its := [x', y']) (h' := g2) (tk := tk) hf kk (Nat.le_refl _) (by show 2 ≤ sizeLine; decide) (.cons ru (.cons rv .nil)) ⟨_, t2, rfl, _, rfl⟩
    refine ⟨.ref s.heap.objs.size, _, I2, rfl, ⟨_, x, y, rfl, hT0, rfl, fun xs' hx' => by rw [I.tuple_inj hx' hx]; exact ex, fun ys' hy' => by rw [I.tuple_inj hy' hy]; exact ey⟩, ?_, fun c hc => ?_⟩
    · obtain ⟨o4, g4, c4⟩ := s1.1
      obtain ⟨o5, g5, c5⟩ := s2.1
      exact ⟨z2, (sb.2 _ a1).trans (kp _ _ a1 a5 a6 a7 h2), ⟨_, _, (sb.2 _ a2).trans o1⟩, ⟨o4, (sb.2 _ a3).trans g4, c4⟩, ⟨o5, (sb.2 _ a4).trans g5, c5⟩⟩
    · have n0 := (hf c hc).1
      obtain ⟨o, eo⟩ : ∃ o, s.heap.get? c = some o := by
        obtain ⟨o4, g4, _⟩ := h4
        obtain ⟨o5, g5, _⟩ := h5
        simp only [List.mem_cons, List.not_mem_nil, or_false] at hc
        rcases hc with rfl | rfl | rfl | rfl | rfl
        · exact ⟨_, h1⟩
        · exact ⟨_, h2⟩
        · exact ⟨_, h3⟩
        · exact ⟨_, g4⟩
        · exact ⟨_, g5⟩
      rw [upd_ne (Nat.ne_of_lt (Heap.lt_size eo))]
      exact n0
  done := by
    intro X hP hw hK hc i pins s σ H E I hf st hg
    subst hP hw hK
    obtain ⟨xs, ys, hx, hy, hi⟩ := hg
    obtain ⟨its, rx, px, _⟩ := I.tuple hx
    obtain ⟨jts, ry, py, _⟩ := I.tuple hy
    obtain ⟨h1, h2, ⟨p, q, h3⟩, h4, h5⟩ := st
    have hh : X.A.in1.handled = none := I.ok.hd hc
    have fa : ∀ c ∈ [z, TI, TO, i1, i2], a ≠ c := fun c hc => sqt_ne I (hf c hc) hx
    have fb : ∀ c ∈ [z, TI, TO, i1, i2], b ≠ c := fun c hc => sqt_ne I (hf c hc) hy
    have far : ZipFar z TI TO i1 i2 [i1, a] [i2, b] := ⟨a1, a2, a3, a4, a5, a6, a7, a8, a9, a10, by
      simp only [List.mem_cons, List.not_mem_nil, or_false, not_or]
      exact ⟨Ne.symm a3, Ne.symm (fa z (by simp))⟩, by
      simp only [List.mem_cons, List.not_mem_nil, or_false, not_or]
      exact ⟨a8, Ne.symm (fa TO (by simp))⟩, by
      simp only [List.mem_cons, List.not_mem_nil, or_false, not_or]
      exact ⟨Ne.symm a10, Ne.symm (fa i2 (by simp))⟩, by
      simp only [List.mem_cons, List.not_mem_nil, or_false, not_or]
      exact ⟨Ne.symm a4, Ne.symm (fb z (by simp))⟩, by
      simp only [List.mem_cons, List.not_mem_nil, or_false, not_or]
      exact ⟨a9, Ne.symm (fb TO (by simp))⟩, by
      simp only [List.mem_cons, List.not_mem_nil, or_false, not_or]
      exact ⟨a10, Ne.symm (fb i1 (by simp))⟩⟩
    have e1 := rx.length
    have e2 := ry.length
    refine pyNext_zipD_end (draws_tup hh i1 a (fa i1 (by simp)) its.toArray) (draws_tup hh i2 b (fb i2 (by simp)) jts.toArray) far h1 h2 h3 ⟨h4, px⟩ ⟨h5, py⟩ (by simp only [List.size_toArray]; omega) fun g tk kp => ⟨rfl, ?_⟩
    have kk : ∀ c o, c ∉ [z, TI, TO, i1, i2] → s.heap.get? c = some o → g.get? c = some o := fun c o hc e => by
      simp only [List.mem_cons, List.not_mem_nil, or_false, not_or] at hc
      exact kp c o hc.1 hc.2.2.1 hc.2.2.2.1 hc.2.2.2.2 e
    refine I.step (g' := s.gens) (d' := s.drawn) (t' := tk) (ch := [z, TI, TO, i1, i2]) (fun c hc => ⟨(hf c hc).2.2.2.1, (hf c hc).2.1, (hf c hc).2.2.2.2.1, (hf c hc).2.2.2.2.2⟩) ?_ ?_ (fun c o _ e n => n) ?_ (fun _ _ e => e) (fun _ _ _ e => e) (fun c ps e => ⟨#[], by rw [e]; simp⟩) ?_ ?_ I.bare
    · exact fun c o _ _ hc e _ => kk c o hc e
    · exact fun c o _ _ hc e _ => ⟨o.slots, kk c o hc e⟩
    · exact fun c o hc e => ⟨o, kk c o hc e⟩
    · intro m hm
      obtain ⟨o, es, ep, ho, r⟩ := hm
      exact ⟨o, es, ep, kk _ o (fun y => (hf _ y).2.1 rfl) ho, r⟩
    · intro c u e
      refine (I.hok c u e).stay (fun d v hd q => kk d v (fun y => ?_) q) (fun _ q => q) fun _ _ q => q
      have n := (hf d y).1
      rcases hd with x | x
      · rw [x, e] at n; cases n
      · rw [x] at n; cases n
  self := fun _ _ _ _ _ st h => wpAny_pyIter_zip st.1 h
end
section
variable {X : Cx} {pos p tp : Pos} {elts : List Expr} {n : Nat}
theorem pi_zip {a b : Expr} {ta : TA} (hg : Gl X "zip") (hm : X.mg "zip" = none) (ha : PA X [a, b] ta) (hs : starEach [a, b] X.env = [(false, eval a X.env), (false, eval b X.env)] := by rfl) (hs2 : starEach [b] X.env = [(false, eval b X.env)] := by rfl) :
    PI X (.Tuple elts n tp) (.Call (.Name "zip" p) [a, b] [] pos) (fun σ H R => ta σ H fun vs H1 => ∃ l m, vs = [.ref l, .ref m] ∧ (∃ xs, SqT X.K H1 l xs) ∧ (∃ xs, SqT X.K H1 m xs) ∧ R (Itz X.K l m) H1) := by
  intro pins s σ H R I h
  refine Call_ (ld_blt I hg hm bt_zip (PyProof.Rows.callWith_type1 (thn (ha pos pins s σ H _ I h) fun us s1 ⟨vs, H1, I1, r1, q1⟩ => ?_) (by rw [hs, hs2]) (by rw [hs2]; rfl)))
  obtain ⟨l, m, e, ⟨xs, hx⟩, ⟨ys, hy⟩, q⟩ := q1
  subst e
  obtain ⟨u, v, rfl, ru, rv⟩ := vals2 r1
  cases ru
  cases rv
  obtain ⟨its, _, px, _⟩ := I1.tuple hx
  obtain ⟨jts, _, py, _⟩ := I1.tuple hy
  refine call_zip_tup px py fun g h1 h2 h3 h4 h5 hk => wpAny_pyIter_zip h1 ?_
  have I2 : Inv X pins σ H1 { s1 with heap := g } := I1.kept (t' := s1.toks) hk
  refine ⟨s1.heap.objs.size + 4, [s1.heap.objs.size + 4, s1.heap.objs.size + 2, s1.heap.objs.size + 3, s1.heap.objs.size, s1.heap.objs.size + 1], _, _, H1, rfl, I2, turn_zip l m _ _ _ _ _ ?_ ?_ ?_ ?_ ?_ ?_ ?_ ?_ ?_ ?_, ⟨h1, h2, ⟨_, _, h3⟩, h4, h5⟩, fun b hb => ?_, q⟩
  · exact fun z => by have z : s1.heap.objs.size + 2 = s1.heap.objs.size + 4 := z; omega
  · exact fun z => by have z : s1.heap.objs.size + 3 = s1.heap.objs.size + 4 := z; omega
  · exact fun z => by have z : s1.heap.objs.size = s1.heap.objs.size + 4 := z; omega
  · exact fun z => by have z : s1.heap.objs.size + 1 = s1.heap.objs.size + 4 := z; omega
  · exact fun z => by have z : s1.heap.objs.size + 2 = s1.heap.objs.size + 3 := z; omega
  · exact fun z => by have z : s1.heap.objs.size + 2 = s1.heap.objs.size := z; omega
  · exact fun z => by have z : s1.heap.objs.size + 2 = s1.heap.objs.size + 1 := z; omega
  · exact fun z => by have z : s1.heap.objs.size + 3 = s1.heap.objs.size := z; omega
  · exact fun z => by have z : s1.heap.objs.size + 3 = s1.heap.objs.size + 1 := z; omega
  · exact fun z => by have z : s1.heap.objs.size = s1.heap.objs.size + 1 := z; omega
  · have hb' : s1.heap.objs.size ≤ b := by
      simp only [List.mem_cons, List.not_mem_nil, or_false] at hb
      rcases hb with rfl | rfl | rfl | rfl | rfl
      · exact Nat.le_add_right _ _
      · exact Nat.le_add_right _ _
      · exact Nat.le_add_right _ _
      · exact Nat.le_refl _
      · exact Nat.le_add_right _ _
    exact I1.fpOk hb' (I1.hok.fresh hb')
def zipD : List D → List D → List D
  | x :: a, y :: b => .tup [x, y] :: zipD a b
  | _, _ => []
theorem zip_get : ∀ {ds es : List D} {i : Nat}, (zipD ds es)[i]? = (ds[i]?).bind fun d => (es[i]?).map fun e => D.tup [d, e]
  | [], es, i => by simp [zipD]
  | d :: ds, [], i => by simp [zipD]
  | d :: ds, e :: es, 0 => by simp [zipD]
  | d :: ds, e :: es, i + 1 => by
    show (zipD ds es)[i]? = _
    rw [zip_get]
    simp
theorem zip_len : ∀ {ds es : List D}, (zipD ds es).length = min ds.length es.length
  | [], es => by simp [zipD]
  | d :: ds, [] => by simp [zipD]
  | d :: ds, e :: es => by
    show (zipD ds es).length + 1 = _
    rw [zip_len]
    simp only [List.length_cons]
    omega
theorem seq_zip {K : PySem.W.Frag} {H1 : Hp} {a b : Addr} {ds es : List D} {xs ys : List V} (h1 : SqT K H1 a xs) (h2 : HasL K H1 ds xs) (g1 : SqT K H1 b ys) (g2 : HasL K H1 es ys) : Seq3 K H1 (Itz K a b) (zipD ds es) (fun _ => True) where
  go := fun i H M hi hm ok e1 => by
    rw [zip_len] at hi
    obtain ⟨x, ex, _⟩ := h2.get (List.getElem?_eq_getElem (show i < ds.length by omega))
    obtain ⟨y, ey, _⟩ := g2.get (List.getElem?_eq_getElem (show i < es.length by omega))
    exact ⟨xs, ys, x, y, e1.t _ _ h1, e1.t _ _ g1, ex, ey⟩
  yld := fun i d H M v H' hd hm ok e1 y => by
    obtain ⟨p, x, z, rfl, hp, rfl, y1, y2⟩ := y
    rw [zip_get] at hd
    cases e : ds[i]? with
    | none => rw [e] at hd; cases hd
    | some d' =>
      cases e' : es[i]? with
      | none => rw [e, e'] at hd; cases hd
      | some d'' =>
        rw [e, e'] at hd
        cases hd
        obtain ⟨x', q1, hx⟩ := h2.get e
        obtain ⟨z', q2, hz⟩ := g2.get e'
        have w1 := y1 xs (e1.t _ _ h1)
        have w2 := y2 ys (e1.t _ _ g1)
        rw [q1] at w1
        rw [q2] at w2
        have v1 : x' = x := Option.some.inj w1
        have v2 : z' = z := Option.some.inj w2
        subst v1 v2
        have ex : ExtT K H (upd H p (.tup [x', z'])) := .new hp
        exact ⟨.tup (.of upd_same) (.cons (hx.mono (e1.trans ex)) (.cons (hz.mono (e1.trans ex)) .nil)), hm.add hp, ex⟩
  stop := fun H M hm ok e1 => ⟨xs, ys, e1.t _ _ h1, e1.t _ _ g1, by rw [zip_len, h2.length, g2.length]⟩
def izip3 (t : T3A) : T3I := fun δ M R => t δ M fun ds M1 => match ds with
  | [.tup a, .tup b] => R (zipD a b) (fun _ => True) M1
  | _ => False
theorem i3_zip {a b : Expr} {ta : T3A} (hg : Gl X "zip") (hm : X.mg "zip" = none) (ha : A3 X [a, b] ta) (hs : starEach [a, b] X.env = [(false, eval a X.env), (false, eval b X.env)] := by rfl) (hs2 : starEach [b] X.env = [(false, eval b X.env)] := by rfl) :
    I3 X (.Tuple elts n tp) (.Call (.Name "zip" p) [a, b] [] pos) (izip3 ta) :=
  PI.mono (pi_zip hg hm ha hs hs2) fun σ H R' ⟨δ, M, R, hs, hm, ht, k⟩ => ⟨δ, M, _, hs, hm, ht, fun vs H1 ds M1 hd hm1 e1 q1 => by
    split at q1
    · obtain ⟨v, u, rfl, hv, hw⟩ := two_inv hd
      obtain ⟨l, xs, rfl, h1, h2⟩ := hv.tup_inv
      obtain ⟨m, ys, rfl, g1, g2⟩ := hw.tup_inv
      exact ⟨l, m, rfl, ⟨xs, h1⟩, ⟨ys, g1⟩, k _ H1 _ _ M1 (seq_zip h1 h2 g1 g2) hm1 e1 trivial q1⟩
    · exact q1.elim⟩
end
end L3
namespace L3
open PySem PySem.Spec PyProof.Rows L2
def Sub (M M' : Mp) : Prop := ∀ a c, M a = some c → M' a = some c
theorem Sub.refl {M : Mp} : Sub M M := fun _ _ h => h
theorem Sub.trans {M M1 M2 : Mp} (a : Sub M M1) (b : Sub M1 M2) : Sub M M2 := fun x c h => b x c (a x c h)
theorem Sub.new {M : Mp} {p : Addr} {c : Cell} (h : M p = none) : Sub M (updM M p c) := fun x d q => by rw [updM_ne (neM q h)]; exact q
theorem Sub.lst {M M' : Mp} {a : Addr} {ds : List D} (s : Sub M M') (h : lstM M a = some ds) : lstM M' a = some ds := by
  unfold lstM at h ⊢
  cases e : M a with
  | none => rw [e] at h; cases h
  | some c => rw [s a c e]; rw [e] at h; exact h
theorem HM.sub {K : PySem.W.Frag} {H : Hp} {M M' : Mp} (h : HM K H M') (s : Sub M M') : HM K H M := fun a c q => h a c (s a c q)
section
variable {P : Program} {w : World} {K : PySem.W.Frag} {mg : Str → Option Value} {base : Heap}
theorem fun3s {x qual : Str} {st : Stmt} {f : Addr} {fd : FuncData} {N ps : List Str} {k : Nat} {sp : Sp3} (F : Fun K x qual st f fd) (S : FnScope N ps (defScope st)) (len : ∀ ds M Q, sp ds M Q → ds.length = ps.length)
    (hbody : ∀ (cdv : Value) (A : Around) (outer : List Env) (s : Shared) (H : Hp) (E : XK), Room k (A.deeper (envOfC qual (defScope st) s.heap.objs.size f cdv)) →
      ∃ t, Ss3 (cxOf CX0 P w K mg base N qual (defScope st) f cdv A outer s H E).nox (defBody st) t ∧ ∀ ds M Q, sp ds M Q → t { nx := fun _ M' => ∃ M'', Sub M'' M' ∧ Q .non M'', rt := fun d M' => ∃ M'', Sub M'' M' ∧ Q d M'' } (start3 N ds) M) : Fn3 P w K mg base (k + 1) f fd ps sp := by
  refine F.ok S (fun vs H Q E h => ?_) (fun cdv A outer s H vs Q' E hr h => ?_)
  · obtain ⟨ds, M, Q, hd, _, hs, _⟩ := h
    rw [← hd.length]
    exact len ds M Q hs
  · obtain ⟨ds, M, Q, hd, hm, hs, k⟩ := h
    obtain ⟨t, ht, hb⟩ := hbody cdv A outer s H E hr
    exact ⟨_, ht, start3 N ds, M, _, start_has hd, hm, hb ds M Q hs, fun σ' H' δ' M' _ x2 x3 _ ⟨M'', y1, y2⟩ => k .non H' .non M'' .non (x2.sub y1) x3 y2, fun v H' d M' x1 x2 x3 ⟨M'', y1, y2⟩ => k v H' d M'' x1 (x2.sub y1) x3 y2, fun _ _ _ _ _ _ _ _ z => z, fun _ _ _ _ _ _ _ _ z => z⟩
end
theorem crun_gen {g : T3G} {te : T3} {ok : Mp → Prop} {Q : DK} {f : D → D} {M : Mp} (J : DSt → Prop) (hok : ok M) : ∀ (ds acc : List D) (δ : DSt), J δ → acc.length + ds.length ≤ sizeLine →
    (∀ d ∈ ds, ∀ δ, J δ → ∀ k : DSt → DK, (∀ δ', J δ' → k δ' (f d) M) → g d δ M fun δ2 M2 => te δ2 M2 (k δ2)) → (∀ p, M p = none → Q (.ref p) (updM M p (.lst (acc ++ ds.map f)))) → crun3 g noif3 te ok Q ds acc δ M
  | [], acc, δ, _, hl, _, hq => ⟨by simpa using hl, by simpa using hq⟩
  | d :: r, acc, δ, hj, hl, ht, hq => by
    rw [List.length_cons] at hl
    refine ⟨by omega, ?_⟩
    refine ht d List.mem_cons_self δ hj (fun δ2 y M4 => ok M4 ∧ crun3 g noif3 te ok Q r (acc ++ [y]) δ2 M4) fun δ' hj' => ⟨hok, crun_gen (f := f) J hok r (acc ++ [f d]) δ' hj' ?_ (fun e he => ht e (List.mem_cons_of_mem _ he)) ?_⟩
    · rw [List.length_append, List.length_singleton]
      omega
    · simpa using hq
theorem crun_pure {i : Nat} {te : T3} {ok : Mp → Prop} {Q : DK} {f : D → D} {M : Mp} (hok : ok M) : ∀ (ds acc : List D) (δ : DSt), acc.length + ds.length ≤ sizeLine → (∀ d ∈ ds, ∀ k : DK, k (f d) M → te (δ.set i (some d)) M k) →
    (∀ p, M p = none → Q (.ref p) (updM M p (.lst (acc ++ ds.map f)))) → crun3 (gName3 i) noif3 te ok Q ds acc δ M := fun ds acc δ hl ht hq =>
  crun_gen (f := f) (fun δ' => ∀ d, δ'.set i (some d) = δ.set i (some d)) hok ds acc δ (fun _ => rfl) hl (fun d hd δ' hj k hk => by
    show te (δ'.set i (some d)) M (k (δ'.set i (some d)))
    rw [hj d]
    exact ht d hd _ (hk _ fun e => by rw [List.set_set])) hq
theorem bls_map {α : Type} (f : α → Bool) : ∀ l : List α, blsD (l.map fun x => D.bl (f x)) = some (l.map f)
  | [] => rfl
  | x :: r => by
    show (blsD (r.map fun x => D.bl (f x))).map (f x :: ·) = _
    rw [bls_map f r]
    rfl
theorem lst_new {M : Mp} {p : Addr} {ds : List D} : lstM (updM M p (.lst ds)) p = some ds := by
  unfold lstM
  rw [updM_same]
theorem elim_of {α : Type} {o : Option α} {P : α → Prop} {x : α} (e : o = some x) (h : P x) : o.elim False P := by rw [e]; exact h
theorem few {l : List D} (h : decide (l.length ≤ 100) = true) : l.length ≤ sizeLine := by
  have z : sizeLine = 16777216 := sizeLine_eq
  have := of_decide_eq_true h
  omega
theorem vac {P : Program} {w : World} {K : PySem.W.Frag} {mg : Str → Option Value} {base : Heap} {f : Addr} {fd : FuncData} {ps : List Str} : Fn3 P w K mg base 0 f fd ps (fun _ _ _ => False) :=
  ⟨fun vs H Q E ⟨_, _, _, _, _, z, _⟩ => z.elim, fun A outer s H args us vs Q E _ _ _ _ ⟨_, _, _, _, _, z, _⟩ => z.elim⟩
end L3
namespace L3
open PySem PySem.Spec PyProof.Rows L2
theorem run_inv {g : T3G} {tb : T3S} {ok : Mp → Prop} {E : Ends3} (J : DSt → Mp → Prop) (hok : ∀ δ M, J δ M → ok M) : ∀ (ds : List D) (δ : DSt) (M : Mp), J δ M →
    (∀ d ∈ ds, ∀ δ M, J δ M → ∀ nx : DSt → Mp → Prop, (∀ δ' M', J δ' M' → nx δ' M') → g d δ M fun δ2 M2 => tb { E with nx := nx, ct := nx, bk := E.nx } δ2 M2) → (∀ δ M, J δ M → E.nx δ M) → run3 g tb ok E ds δ M
  | [], δ, M, j, _, hn => hn δ M j
  | d :: r, δ, M, j, ht, hn => ht d List.mem_cons_self δ M j (fun δ' M' => ok M' ∧ run3 g tb ok E r δ' M') fun δ' M' j' => ⟨hok δ' M' j', run_inv J hok r δ' M' j' (fun e he => ht e (List.mem_cons_of_mem _ he)) hn⟩
theorem kit_self {K : PySem.W.Frag} {t : Value} : PySem.W.kitOne K t t = some true := by
  unfold PySem.W.kitOne
  rw [if_pos (by simp)]
theorem kit_of {K : PySem.W.Frag} {t c : Value} {b : Bool} (h : PySem.W.kitCls K t c = some b) (ne : b = false → (t == c) = false) : PySem.W.kitOne K t c = some b := by
  unfold PySem.W.kitOne
  by_cases e : (t == c) = true
  · rw [if_pos e]
    cases b with
    | true => rfl
    | false => rw [ne rfl] at e; cases e
  · rw [if_neg e]
    exact h
theorem kit_ref {K : PySem.W.Frag} {t : Value} {C : Addr} {cd : ClassData} {b : Bool} (q1 : PySem.W.clsIn K C = some cd) (q2 : PySem.W.typeIn K (.ref C) = some (.type "type")) (s : PySem.W.subIn K t (.ref C) = some b) (ne : b = false → (t == .ref C) = false) : PySem.W.kitOne K t (.ref C) = some b := by
  refine kit_of ?_ ne
  unfold PySem.W.kitCls
  simp only
  rw [q1, q2, if_pos (by rfl)]
  exact s
theorem kit_ty {K : PySem.W.Frag} {t : Value} {T : String} {b : Bool} (m : PySem.W.kitMeta T = true) (s : PySem.W.subIn K t (.type T) = some b) (ne : b = false → (t == .type T) = false) : PySem.W.kitOne K t (.type T) = some b := by
  refine kit_of ?_ ne
  unfold PySem.W.kitCls
  simp only
  rw [if_pos m]
  exact s
theorem km_str : PySem.W.kitMeta "str" = true := by decide +kernel
theorem km_bool : PySem.W.kitMeta "bool" = true := by decide +kernel
theorem km_tuple : PySem.W.kitMeta "tuple" = true := by decide +kernel
theorem iteC {c : Bool} {A B : Prop} (h : c = false) (hb : B) : if c = true then A else B := by
  subst h
  exact iteF hb
theorem cut {t u : T3S} {E : Ends3} {δ : DSt} {M : Mp} (R : DSt → Mp → Prop) (h2 : ∀ nx : DSt → Mp → Prop, (∀ δ' M', R δ' M' → nx δ' M') → t { E with nx := nx } δ M) (h1 : ∀ δ' M', R δ' M' → u E δ' M') : seq3 t u E δ M := h2 (u E) h1
theorem enum_mem {ds : List D} {d : D} (h : d ∈ enumD 0 ds) : ∃ (i : Nat) (e : D), ds[i]? = some e ∧ d = .tup [.int (i : Nat), e] := by
  obtain ⟨i, hi, e⟩ := List.getElem_of_mem h
  have e' : (enumD 0 ds)[i]? = some d := by rw [List.getElem?_eq_getElem hi, e]
  rw [enum_get] at e'
  cases q : ds[i]? with
  | none => rw [q] at e'; cases e'
  | some x =>
    rw [q] at e'
    refine ⟨i, x, q, ?_⟩
    have := (Option.some.inj e').symm
    rw [Nat.zero_add] at this
    exact this
theorem rl_of {K : PySem.W.Frag} {H : Hp} {a : Addr} {ns : List Int} (hO : Only H) (hS : SqL K H a (ns.map V.int)) : Has K H (.rl (ns.map D.int)) (.ref a) := by
  have r : RoL K H a (ns.map V.int) := by
    rcases hS with h | h
    · rcases h with h | ⟨o, h⟩
      · rcases hO a with z | ⟨o, xs, z⟩ <;> (rw [h] at z; cases z)
      · exact .inl ⟨o, h⟩
    · exact .inr h
  unfold Has
  exact ⟨a, _, rfl, r, .ints⟩
theorem law_sp {K : PySem.W.Frag} {sp : Sp3} {H : Hp} {a : Addr} {ns : List Int} (hO : Only H) (hS : SqL K H a (ns.map V.int)) (h : sp [.rl (ns.map D.int)] (fun _ => none) fun d _ => d = .bl true) : up3 K sp [.ref a] H (fun v _ => v = .bl true) fun _ _ _ => False :=
  ⟨_, fun _ => none, _, .cons (rl_of hO hS) .nil, fun _ _ z => (by cases z), h, fun v H' d M' x1 _ _ x4 => by subst x4; exact x1.bl_inv⟩
theorem law_walk {l : PySem.W.OpenLaw} {q : Program} {loose : List Str} {XP : (Str → Option Value) → Heap → Prop} {YP : World → Heap → Prop} {d : DefRec} {K : Params → PySem.W.Frag} {k : Nat} {x : Str} {sp : Sp3} (hn : l.most = some 63) (hdf : d.params.defaults = []) (hr : Room k callerA)
    (hY : ∀ (w : World) (h : Heap), YP w h → (K w.params).In h)
    (hsp : ∀ ns : List Int, ns.length ≤ 63 → sp [.rl (ns.map D.int)] (fun _ => none) fun d _ => d = .bl true)
    (F : ∀ (w : World) (mg : Str → Option Value) (fa : Addr) (h : Heap), (K w.params).In h → h.Ns mainGlobals mg → mg d.name = some (.ref fa) →
      ∃ fd : FuncData, (∀ (s : Shared) (u : Value), BindsTo s fd ⟨[u], []⟩ [(x, u)]) ∧ ∀ base : Heap, (K w.params).In base → base.Ns mainGlobals mg → Fn3 l.prog w (K w.params) mg base k fa fd [x] sp) :
    PySem.W.WalkO q loose XP YP l.row.toRowW d [] (fun f vs => PySem.call f vs) :=
  L2.walk_of (n := 63) (k := k) (x := x) (CX := fun _ => CX0) (sp := fun w => up3 (K w.params) sp) hn (by decide) hdf hr hY F (fun _ _ a ns hl hO hS => law_sp hO hS (hsp ns hl)) fun _ _ _ _ _ z => z
end L3
namespace L3
open PySem PySem.Spec PyProof.Rows L2
section
variable {X : Cx} {pos p : Pos} {x : Str} {d : D} {e o i : Expr} {ta tb td tk : T3} {F : List (Str × List Str)}
variable {es : List Expr} {t : T3A} {apos : Pos}
end
end L3
namespace L3
open PySem PySem.Spec PyProof.Rows L2
end L3
namespace L3
open PySem PySem.Spec PyProof.Rows L2
section
variable {X : Cx} {pos apos : Pos} {o e : Expr} {es : List Expr} {ta : T3} {t : T3A}
end
end L3
namespace L3
open PySem PySem.Spec PyProof.Rows L2
section
variable {X : Cx} {pos : Pos}
end
end L3
namespace L3
open PySem PySem.Spec PyProof.Rows L2
section
variable {X : Cx} {pos : Pos} {a : Expr} {ta : T3}
end
end L3
namespace K11
open PySem PySem.Spec PyProof.Rows L2 L3
def top (i : Nat) : Stmt := PySem.Challenge.pw_callboard_k11_wishes_made.main.body.getD i (.Pass ⟨0, 0, 0, 0⟩)
abbrev s_wish_of : Stmt := top 16
abbrev s_law_at : Stmt := top 18
abbrev s_law_draw : Stmt := top 19
abbrev s_law_word : Stmt := top 20
abbrev s_law_some : Stmt := top 21
abbrev s_law_wish : Stmt := top 22
abbrev s_law_wants : Stmt := top 23
abbrev s_law_of_class : Stmt := top 24
abbrev s_law_alike : Stmt := top 25
abbrev s_law : Stmt := top 26
abbrev s_Bar_init : Stmt := inClass (top 7) 0
abbrev s_Wish_told : Stmt := inClass (top 6) 1
abbrev s_Bar_wants : Stmt := inClass (top 7) 1
abbrev s_Shut_init : Stmt := inClass (top 8) 0
abbrev s_Shut_wants : Stmt := inClass (top 8) 1
abbrev s_Forward_init : Stmt := inClass (top 9) 0
abbrev s_Forward_wants : Stmt := inClass (top 9) 1
abbrev s_Night_init : Stmt := inClass (top 11) 0
abbrev s_Silent_init : Stmt := inClass (top 13) 0
abbrev s_Wait_init : Stmt := inClass (top 14) 0
abbrev s_Wait_wants : Stmt := inClass (top 14) 1
abbrev s_Breaks_init : Stmt := inClass (top 15) 0
abbrev s_Breaks_wants : Stmt := inClass (top 15) 1
abbrev s_Wish_init : Stmt := inClass (top 6) 0
theorem sc_wish_of : FnScope ["told", "word"] ["told"] (defScope s_wish_of) := ⟨rfl, rfl, rfl, by decide +kernel, rfl, by decide +kernel, by decide +kernel⟩
theorem sc_law_at : FnScope ["_law_script", "_law_k"] ["_law_script", "_law_k"] (defScope s_law_at) := ⟨rfl, rfl, rfl, by decide +kernel, rfl, by decide +kernel, by decide +kernel⟩
theorem sc_law_draw : FnScope ["_law_cell", "_law_factor", "_law_many"] ["_law_cell", "_law_factor", "_law_many"] (defScope s_law_draw) := ⟨rfl, rfl, rfl, by decide +kernel, rfl, by decide +kernel, by decide +kernel⟩
theorem sc_law_word : FnScope ["_law_seed", "_law_which", "_law_letters", "_law_size", "_law_place", "_law_rest", "_law_sign"] ["_law_seed", "_law_which"] (defScope s_law_word) := ⟨rfl, rfl, rfl, by decide +kernel, rfl, by decide +kernel, by decide +kernel⟩
theorem sc_law_some : FnScope ["_law_row", "_law_cell", "_law_most", "_law_first", "_law_size"] ["_law_row", "_law_cell", "_law_most"] (defScope s_law_some) := ⟨rfl, rfl, rfl, by decide +kernel, rfl, by decide +kernel, by decide +kernel⟩
theorem sc_law_wish : FnScope ["_law_cell", "_law_own", "_law_names", "_law_a", "_law_place", "_law_b", "_law_c", "_law_pick", "_law_first"] ["_law_cell", "_law_own", "_law_names"] (defScope s_law_wish) := ⟨rfl, rfl, rfl, by decide +kernel, rfl, by decide +kernel, by decide +kernel⟩
theorem sc_law_wants : FnScope ["_law_told"] ["_law_told"] (defScope s_law_wants) := ⟨rfl, rfl, rfl, by decide +kernel, rfl, by decide +kernel, by decide +kernel⟩
theorem sc_law_of_class : FnScope ["_law_wish_here", "_law_word_here", "_law_some_here", "_law_words"] ["_law_wish_here", "_law_word_here"] (defScope s_law_of_class) := ⟨rfl, rfl, rfl, by decide +kernel, rfl, by decide +kernel, by decide +kernel⟩
theorem sc_law_alike : FnScope ["_law_found", "_law_due"] ["_law_found", "_law_due"] (defScope s_law_alike) := ⟨rfl, rfl, rfl, by decide +kernel, rfl, by decide +kernel, by decide +kernel⟩
theorem sc_law : FnScope ["_law_script", "_law_seed", "_law_own", "_law_names", "_law_ahead", "_law_k", "_law_cell", "_law_told", "_law_wish_here", "_law_wanted_thing"] ["_law_script"] (defScope s_law) := ⟨rfl, rfl, rfl, by decide +kernel, rfl, by decide +kernel, by decide +kernel⟩
theorem sc_Bar_init : FnScope ["self", "told"] ["self", "told"] (defScope s_Bar_init) := ⟨rfl, rfl, rfl, by decide +kernel, rfl, by decide +kernel, by decide +kernel⟩
theorem sc_Wish_told : FnScope ["self"] ["self"] (defScope s_Wish_told) := ⟨rfl, rfl, rfl, by decide +kernel, rfl, by decide +kernel, by decide +kernel⟩
theorem sc_Bar_wants : FnScope ["self"] ["self"] (defScope s_Bar_wants) := ⟨rfl, rfl, rfl, by decide +kernel, rfl, by decide +kernel, by decide +kernel⟩
theorem sc_Shut_init : FnScope ["self", "told"] ["self", "told"] (defScope s_Shut_init) := ⟨rfl, rfl, rfl, by decide +kernel, rfl, by decide +kernel, by decide +kernel⟩
theorem sc_Shut_wants : FnScope ["self"] ["self"] (defScope s_Shut_wants) := ⟨rfl, rfl, rfl, by decide +kernel, rfl, by decide +kernel, by decide +kernel⟩
theorem sc_Forward_init : FnScope ["self", "told"] ["self", "told"] (defScope s_Forward_init) := ⟨rfl, rfl, rfl, by decide +kernel, rfl, by decide +kernel, by decide +kernel⟩
theorem sc_Forward_wants : FnScope ["self"] ["self"] (defScope s_Forward_wants) := ⟨rfl, rfl, rfl, by decide +kernel, rfl, by decide +kernel, by decide +kernel⟩
theorem sc_Night_init : FnScope ["self", "told"] ["self", "told"] (defScope s_Night_init) := ⟨rfl, rfl, rfl, by decide +kernel, rfl, by decide +kernel, by decide +kernel⟩
theorem sc_Silent_init : FnScope ["self", "told"] ["self", "told"] (defScope s_Silent_init) := ⟨rfl, rfl, rfl, by decide +kernel, rfl, by decide +kernel, by decide +kernel⟩
theorem sc_Wait_init : FnScope ["self", "told"] ["self", "told"] (defScope s_Wait_init) := ⟨rfl, rfl, rfl, by decide +kernel, rfl, by decide +kernel, by decide +kernel⟩
theorem sc_Wait_wants : FnScope ["self"] ["self"] (defScope s_Wait_wants) := ⟨rfl, rfl, rfl, by decide +kernel, rfl, by decide +kernel, by decide +kernel⟩
theorem sc_Breaks_init : FnScope ["self", "told"] ["self", "told"] (defScope s_Breaks_init) := ⟨rfl, rfl, rfl, by decide +kernel, rfl, by decide +kernel, by decide +kernel⟩
theorem sc_Breaks_wants : FnScope ["self"] ["self"] (defScope s_Breaks_wants) := ⟨rfl, rfl, rfl, by decide +kernel, rfl, by decide +kernel, by decide +kernel⟩
theorem sc_Wish_init : FnScope ["self", "told"] ["self", "told"] (defScope s_Wish_init) := ⟨rfl, rfl, rfl, by decide +kernel, rfl, by decide +kernel, by decide +kernel⟩
structure Ad where
  f_wish_of : Addr
  fd_wish_of : FuncData
  f_law_at : Addr
  fd_law_at : FuncData
  f_law_draw : Addr
  fd_law_draw : FuncData
  f_law_word : Addr
  fd_law_word : FuncData
  f_law_some : Addr
  fd_law_some : FuncData
  f_law_wish : Addr
  fd_law_wish : FuncData
  f_law_wants : Addr
  fd_law_wants : FuncData
  f_law_of_class : Addr
  fd_law_of_class : FuncData
  f_law_alike : Addr
  fd_law_alike : FuncData
  f_law : Addr
  fd_law : FuncData
  f_Bar_init : Addr
  fd_Bar_init : FuncData
  f_Wish_told : Addr
  fd_Wish_told : FuncData
  f_Bar_wants : Addr
  fd_Bar_wants : FuncData
  f_Shut_init : Addr
  fd_Shut_init : FuncData
  f_Shut_wants : Addr
  fd_Shut_wants : FuncData
  f_Forward_init : Addr
  fd_Forward_init : FuncData
  f_Forward_wants : Addr
  fd_Forward_wants : FuncData
  f_Night_init : Addr
  fd_Night_init : FuncData
  f_Silent_init : Addr
  fd_Silent_init : FuncData
  f_Wait_init : Addr
  fd_Wait_init : FuncData
  f_Wait_wants : Addr
  fd_Wait_wants : FuncData
  f_Breaks_init : Addr
  fd_Breaks_init : FuncData
  f_Breaks_wants : Addr
  fd_Breaks_wants : FuncData
  f_Wish_init : Addr
  fd_Wish_init : FuncData
  c_Wish : Addr
  c_Bar : Addr
  c_Shut : Addr
  c_Forward : Addr
  c_Always : Addr
  c_Night : Addr
  c_Busy : Addr
  c_Silent : Addr
  c_Wait : Addr
  c_Breaks : Addr
structure Gl (K : PySem.W.Frag) (mg : Str → Option Value) (a : Ad) : Prop where
  mg_wish_of : mg "wish_of" = some (.ref a.f_wish_of)
  kp_wish_of : PySem.W.keepIn K (.ref a.f_wish_of) = true
  fn_wish_of : Fun K "wish_of" "wish_of" s_wish_of a.f_wish_of a.fd_wish_of
  b_wish_of : Binds K a.fd_wish_of ["told"] []
  mg_law_at : mg "_law_at" = some (.ref a.f_law_at)
  kp_law_at : PySem.W.keepIn K (.ref a.f_law_at) = true
  fn_law_at : Fun K "_law_at" "_law_at" s_law_at a.f_law_at a.fd_law_at
  b_law_at : Binds K a.fd_law_at ["_law_script", "_law_k"] []
  mg_law_draw : mg "_law_draw" = some (.ref a.f_law_draw)
  kp_law_draw : PySem.W.keepIn K (.ref a.f_law_draw) = true
  fn_law_draw : Fun K "_law_draw" "_law_draw" s_law_draw a.f_law_draw a.fd_law_draw
  b_law_draw : Binds K a.fd_law_draw ["_law_cell", "_law_factor", "_law_many"] []
  mg_law_word : mg "_law_word" = some (.ref a.f_law_word)
  kp_law_word : PySem.W.keepIn K (.ref a.f_law_word) = true
  fn_law_word : Fun K "_law_word" "_law_word" s_law_word a.f_law_word a.fd_law_word
  b_law_word : Binds K a.fd_law_word ["_law_seed", "_law_which"] []
  mg_law_some : mg "_law_some" = some (.ref a.f_law_some)
  kp_law_some : PySem.W.keepIn K (.ref a.f_law_some) = true
  fn_law_some : Fun K "_law_some" "_law_some" s_law_some a.f_law_some a.fd_law_some
  b_law_some : Binds K a.fd_law_some ["_law_row", "_law_cell", "_law_most"] []
  mg_law_wish : mg "_law_wish" = some (.ref a.f_law_wish)
  kp_law_wish : PySem.W.keepIn K (.ref a.f_law_wish) = true
  fn_law_wish : Fun K "_law_wish" "_law_wish" s_law_wish a.f_law_wish a.fd_law_wish
  b_law_wish : Binds K a.fd_law_wish ["_law_cell", "_law_own", "_law_names"] []
  mg_law_wants : mg "_law_wants" = some (.ref a.f_law_wants)
  kp_law_wants : PySem.W.keepIn K (.ref a.f_law_wants) = true
  fn_law_wants : Fun K "_law_wants" "_law_wants" s_law_wants a.f_law_wants a.fd_law_wants
  b_law_wants : Binds K a.fd_law_wants ["_law_told"] []
  mg_law_of_class : mg "_law_of_class" = some (.ref a.f_law_of_class)
  kp_law_of_class : PySem.W.keepIn K (.ref a.f_law_of_class) = true
  fn_law_of_class : Fun K "_law_of_class" "_law_of_class" s_law_of_class a.f_law_of_class a.fd_law_of_class
  b_law_of_class : Binds K a.fd_law_of_class ["_law_wish_here", "_law_word_here"] []
  mg_law_alike : mg "_law_alike" = some (.ref a.f_law_alike)
  kp_law_alike : PySem.W.keepIn K (.ref a.f_law_alike) = true
  fn_law_alike : Fun K "_law_alike" "_law_alike" s_law_alike a.f_law_alike a.fd_law_alike
  b_law_alike : Binds K a.fd_law_alike ["_law_found", "_law_due"] []
  mg_law : mg "law" = some (.ref a.f_law)
  kp_law : PySem.W.keepIn K (.ref a.f_law) = true
  fn_law : Fun K "law" "law" s_law a.f_law a.fd_law
  b_law : Binds K a.fd_law ["_law_script"] []
  kp_Bar_init : PySem.W.keepIn K (.ref a.f_Bar_init) = true
  fn_Bar_init : Fun K "__init__" "Bar.__init__" s_Bar_init a.f_Bar_init a.fd_Bar_init
  b_Bar_init : Binds K a.fd_Bar_init ["self", "told"] []
  kp_Wish_told : PySem.W.keepIn K (.ref a.f_Wish_told) = true
  fn_Wish_told : Fun K "told" "Wish.told" s_Wish_told a.f_Wish_told a.fd_Wish_told
  b_Wish_told : Binds K a.fd_Wish_told ["self"] []
  kp_Bar_wants : PySem.W.keepIn K (.ref a.f_Bar_wants) = true
  fn_Bar_wants : Fun K "wants" "Bar.wants" s_Bar_wants a.f_Bar_wants a.fd_Bar_wants
  b_Bar_wants : Binds K a.fd_Bar_wants ["self"] []
  kp_Shut_init : PySem.W.keepIn K (.ref a.f_Shut_init) = true
  fn_Shut_init : Fun K "__init__" "Shut.__init__" s_Shut_init a.f_Shut_init a.fd_Shut_init
  b_Shut_init : Binds K a.fd_Shut_init ["self", "told"] []
  kp_Shut_wants : PySem.W.keepIn K (.ref a.f_Shut_wants) = true
  fn_Shut_wants : Fun K "wants" "Shut.wants" s_Shut_wants a.f_Shut_wants a.fd_Shut_wants
  b_Shut_wants : Binds K a.fd_Shut_wants ["self"] []
  kp_Forward_init : PySem.W.keepIn K (.ref a.f_Forward_init) = true
  fn_Forward_init : Fun K "__init__" "Forward.__init__" s_Forward_init a.f_Forward_init a.fd_Forward_init
  b_Forward_init : Binds K a.fd_Forward_init ["self", "told"] []
  kp_Forward_wants : PySem.W.keepIn K (.ref a.f_Forward_wants) = true
  fn_Forward_wants : Fun K "wants" "Forward.wants" s_Forward_wants a.f_Forward_wants a.fd_Forward_wants
  b_Forward_wants : Binds K a.fd_Forward_wants ["self"] []
  kp_Night_init : PySem.W.keepIn K (.ref a.f_Night_init) = true
  fn_Night_init : Fun K "__init__" "Night.__init__" s_Night_init a.f_Night_init a.fd_Night_init
  b_Night_init : Binds K a.fd_Night_init ["self", "told"] []
  kp_Silent_init : PySem.W.keepIn K (.ref a.f_Silent_init) = true
  fn_Silent_init : Fun K "__init__" "Silent.__init__" s_Silent_init a.f_Silent_init a.fd_Silent_init
  b_Silent_init : Binds K a.fd_Silent_init ["self", "told"] []
  kp_Wait_init : PySem.W.keepIn K (.ref a.f_Wait_init) = true
  fn_Wait_init : Fun K "__init__" "Wait.__init__" s_Wait_init a.f_Wait_init a.fd_Wait_init
  b_Wait_init : Binds K a.fd_Wait_init ["self", "told"] []
  kp_Wait_wants : PySem.W.keepIn K (.ref a.f_Wait_wants) = true
  fn_Wait_wants : Fun K "wants" "Wait.wants" s_Wait_wants a.f_Wait_wants a.fd_Wait_wants
  b_Wait_wants : Binds K a.fd_Wait_wants ["self"] []
  kp_Breaks_init : PySem.W.keepIn K (.ref a.f_Breaks_init) = true
  fn_Breaks_init : Fun K "__init__" "Breaks.__init__" s_Breaks_init a.f_Breaks_init a.fd_Breaks_init
  b_Breaks_init : Binds K a.fd_Breaks_init ["self", "told"] []
  kp_Breaks_wants : PySem.W.keepIn K (.ref a.f_Breaks_wants) = true
  fn_Breaks_wants : Fun K "wants" "Breaks.wants" s_Breaks_wants a.f_Breaks_wants a.fd_Breaks_wants
  b_Breaks_wants : Binds K a.fd_Breaks_wants ["self"] []
  kp_Wish_init : PySem.W.keepIn K (.ref a.f_Wish_init) = true
  fn_Wish_init : Fun K "__init__" "Wish.__init__" s_Wish_init a.f_Wish_init a.fd_Wish_init
  b_Wish_init : Binds K a.fd_Wish_init ["self", "told"] []
  mg_Wish : mg "Wish" = some (.ref a.c_Wish)
  cl_Wish : Cls K a.c_Wish
  mg_Bar : mg "Bar" = some (.ref a.c_Bar)
  cl_Bar : Cls K a.c_Bar
  mg_Shut : mg "Shut" = some (.ref a.c_Shut)
  cl_Shut : Cls K a.c_Shut
  mg_Forward : mg "Forward" = some (.ref a.c_Forward)
  cl_Forward : Cls K a.c_Forward
  mg_Always : mg "Always" = some (.ref a.c_Always)
  cl_Always : Cls K a.c_Always
  mg_Night : mg "Night" = some (.ref a.c_Night)
  cl_Night : Cls K a.c_Night
  mg_Busy : mg "Busy" = some (.ref a.c_Busy)
  cl_Busy : Cls K a.c_Busy
  mg_Silent : mg "Silent" = some (.ref a.c_Silent)
  cl_Silent : Cls K a.c_Silent
  mg_Wait : mg "Wait" = some (.ref a.c_Wait)
  cl_Wait : Cls K a.c_Wait
  mg_Breaks : mg "Breaks" = some (.ref a.c_Breaks)
  cl_Breaks : Cls K a.c_Breaks
  ci_Bar : ClsI K a.c_Bar
  ci_Shut : ClsI K a.c_Shut
  ci_Always : ClsI K a.c_Always
  ci_Night : ClsI K a.c_Night
  ci_Busy : ClsI K a.c_Busy
  ci_Silent : ClsI K a.c_Silent
  ci_Wait : ClsI K a.c_Wait
  ci_Breaks : ClsI K a.c_Breaks
  mk_Bar : Mk K a.c_Bar a.f_Bar_init
  mk_Shut : Mk K a.c_Shut a.f_Shut_init
  mk_Always : Mk K a.c_Always a.f_Forward_init
  mk_Night : Mk K a.c_Night a.f_Night_init
  mk_Busy : Mk K a.c_Busy a.f_Forward_init
  mk_Silent : Mk K a.c_Silent a.f_Silent_init
  mk_Wait : Mk K a.c_Wait a.f_Wait_init
  mk_Breaks : Mk K a.c_Breaks a.f_Breaks_init
  mt_Bar_told : Meth K a.c_Bar "told" a.f_Wish_told
  mt_Shut_told : Meth K a.c_Shut "told" a.f_Wish_told
  mt_Always_told : Meth K a.c_Always "told" a.f_Wish_told
  mt_Night_told : Meth K a.c_Night "told" a.f_Wish_told
  mt_Busy_told : Meth K a.c_Busy "told" a.f_Wish_told
  mt_Silent_told : Meth K a.c_Silent "told" a.f_Wish_told
  mt_Wait_told : Meth K a.c_Wait "told" a.f_Wish_told
  mt_Breaks_told : Meth K a.c_Breaks "told" a.f_Wish_told
  mt_Bar_wants : Meth K a.c_Bar "wants" a.f_Bar_wants
  mt_Shut_wants : Meth K a.c_Shut "wants" a.f_Shut_wants
  mt_Always_wants : Meth K a.c_Always "wants" a.f_Forward_wants
  mt_Night_wants : Meth K a.c_Night "wants" a.f_Forward_wants
  mt_Busy_wants : Meth K a.c_Busy "wants" a.f_Forward_wants
  mt_Silent_wants : Meth K a.c_Silent "wants" a.f_Forward_wants
  mt_Wait_wants : Meth K a.c_Wait "wants" a.f_Wait_wants
  mt_Breaks_wants : Meth K a.c_Breaks "wants" a.f_Breaks_wants
  cm_Wish_init : ClsM K a.c_Wish "__init__" a.f_Wish_init
  cm_Forward_init : ClsM K a.c_Forward "__init__" a.f_Forward_init
  na_Bar_form : NoAttr K a.c_Bar "form"
  na_Bar_phone : NoAttr K a.c_Bar "phone"
  na_Bar_targets : NoAttr K a.c_Bar "targets"
  na_Shut_form : NoAttr K a.c_Shut "form"
  na_Shut_target : NoAttr K a.c_Shut "target"
  na_Shut_callers : NoAttr K a.c_Shut "callers"
  na_Always_form : NoAttr K a.c_Always "form"
  na_Always_target : NoAttr K a.c_Always "target"
  na_Always_goal : NoAttr K a.c_Always "goal"
  na_Night_form : NoAttr K a.c_Night "form"
  na_Night_target : NoAttr K a.c_Night "target"
  na_Night_goal : NoAttr K a.c_Night "goal"
  na_Night_first : NoAttr K a.c_Night "first"
  na_Night_last : NoAttr K a.c_Night "last"
  na_Busy_form : NoAttr K a.c_Busy "form"
  na_Busy_target : NoAttr K a.c_Busy "target"
  na_Busy_goal : NoAttr K a.c_Busy "goal"
  na_Silent_form : NoAttr K a.c_Silent "form"
  na_Silent_target : NoAttr K a.c_Silent "target"
  na_Silent_goal : NoAttr K a.c_Silent "goal"
  na_Silent_turns : NoAttr K a.c_Silent "turns"
  na_Wait_form : NoAttr K a.c_Wait "form"
  na_Wait_phone : NoAttr K a.c_Wait "phone"
  na_Breaks_form : NoAttr K a.c_Breaks "form"
  na_Breaks_phone : NoAttr K a.c_Breaks "phone"
  ki_tuple_tuple : PySem.W.kitOne K (.type "tuple") (.type "tuple") = some true
  ki_str_tuple : PySem.W.kitOne K (.type "str") (.type "tuple") = some false
  ki_str_str : PySem.W.kitOne K (.type "str") (.type "str") = some true
  ki_int_tuple : PySem.W.kitOne K (.type "int") (.type "tuple") = some false
  ki_int_str : PySem.W.kitOne K (.type "int") (.type "str") = some false
  ki_int_int : PySem.W.kitOne K (.type "int") (.type "int") = some true
  ki_int_bool : PySem.W.kitOne K (.type "int") (.type "bool") = some false
  ki_Bar_Bar : PySem.W.kitOne K (.ref a.c_Bar) (.ref a.c_Bar) = some true
  ki_Bar_Shut : PySem.W.kitOne K (.ref a.c_Bar) (.ref a.c_Shut) = some false
  ki_Bar_Always : PySem.W.kitOne K (.ref a.c_Bar) (.ref a.c_Always) = some false
  ki_Bar_Night : PySem.W.kitOne K (.ref a.c_Bar) (.ref a.c_Night) = some false
  ki_Bar_Busy : PySem.W.kitOne K (.ref a.c_Bar) (.ref a.c_Busy) = some false
  ki_Bar_Silent : PySem.W.kitOne K (.ref a.c_Bar) (.ref a.c_Silent) = some false
  ki_Bar_Wait : PySem.W.kitOne K (.ref a.c_Bar) (.ref a.c_Wait) = some false
  ki_Bar_Breaks : PySem.W.kitOne K (.ref a.c_Bar) (.ref a.c_Breaks) = some false
  ki_Shut_Bar : PySem.W.kitOne K (.ref a.c_Shut) (.ref a.c_Bar) = some false
  ki_Shut_Shut : PySem.W.kitOne K (.ref a.c_Shut) (.ref a.c_Shut) = some true
  ki_Shut_Always : PySem.W.kitOne K (.ref a.c_Shut) (.ref a.c_Always) = some false
  ki_Shut_Night : PySem.W.kitOne K (.ref a.c_Shut) (.ref a.c_Night) = some false
  ki_Shut_Busy : PySem.W.kitOne K (.ref a.c_Shut) (.ref a.c_Busy) = some false
  ki_Shut_Silent : PySem.W.kitOne K (.ref a.c_Shut) (.ref a.c_Silent) = some false
  ki_Shut_Wait : PySem.W.kitOne K (.ref a.c_Shut) (.ref a.c_Wait) = some false
  ki_Shut_Breaks : PySem.W.kitOne K (.ref a.c_Shut) (.ref a.c_Breaks) = some false
  ki_Always_Bar : PySem.W.kitOne K (.ref a.c_Always) (.ref a.c_Bar) = some false
  ki_Always_Shut : PySem.W.kitOne K (.ref a.c_Always) (.ref a.c_Shut) = some false
  ki_Always_Always : PySem.W.kitOne K (.ref a.c_Always) (.ref a.c_Always) = some true
  ki_Always_Night : PySem.W.kitOne K (.ref a.c_Always) (.ref a.c_Night) = some false
  ki_Always_Busy : PySem.W.kitOne K (.ref a.c_Always) (.ref a.c_Busy) = some false
  ki_Always_Silent : PySem.W.kitOne K (.ref a.c_Always) (.ref a.c_Silent) = some false
  ki_Always_Wait : PySem.W.kitOne K (.ref a.c_Always) (.ref a.c_Wait) = some false
  ki_Always_Breaks : PySem.W.kitOne K (.ref a.c_Always) (.ref a.c_Breaks) = some false
  ki_Night_Bar : PySem.W.kitOne K (.ref a.c_Night) (.ref a.c_Bar) = some false
  ki_Night_Shut : PySem.W.kitOne K (.ref a.c_Night) (.ref a.c_Shut) = some false
  ki_Night_Always : PySem.W.kitOne K (.ref a.c_Night) (.ref a.c_Always) = some false
  ki_Night_Night : PySem.W.kitOne K (.ref a.c_Night) (.ref a.c_Night) = some true
  ki_Night_Busy : PySem.W.kitOne K (.ref a.c_Night) (.ref a.c_Busy) = some false
  ki_Night_Silent : PySem.W.kitOne K (.ref a.c_Night) (.ref a.c_Silent) = some false
  ki_Night_Wait : PySem.W.kitOne K (.ref a.c_Night) (.ref a.c_Wait) = some false
  ki_Night_Breaks : PySem.W.kitOne K (.ref a.c_Night) (.ref a.c_Breaks) = some false
  ki_Busy_Bar : PySem.W.kitOne K (.ref a.c_Busy) (.ref a.c_Bar) = some false
  ki_Busy_Shut : PySem.W.kitOne K (.ref a.c_Busy) (.ref a.c_Shut) = some false
  ki_Busy_Always : PySem.W.kitOne K (.ref a.c_Busy) (.ref a.c_Always) = some false
  ki_Busy_Night : PySem.W.kitOne K (.ref a.c_Busy) (.ref a.c_Night) = some false
  ki_Busy_Busy : PySem.W.kitOne K (.ref a.c_Busy) (.ref a.c_Busy) = some true
  ki_Busy_Silent : PySem.W.kitOne K (.ref a.c_Busy) (.ref a.c_Silent) = some false
  ki_Busy_Wait : PySem.W.kitOne K (.ref a.c_Busy) (.ref a.c_Wait) = some false
  ki_Busy_Breaks : PySem.W.kitOne K (.ref a.c_Busy) (.ref a.c_Breaks) = some false
  ki_Silent_Bar : PySem.W.kitOne K (.ref a.c_Silent) (.ref a.c_Bar) = some false
  ki_Silent_Shut : PySem.W.kitOne K (.ref a.c_Silent) (.ref a.c_Shut) = some false
  ki_Silent_Always : PySem.W.kitOne K (.ref a.c_Silent) (.ref a.c_Always) = some false
  ki_Silent_Night : PySem.W.kitOne K (.ref a.c_Silent) (.ref a.c_Night) = some false
  ki_Silent_Busy : PySem.W.kitOne K (.ref a.c_Silent) (.ref a.c_Busy) = some false
  ki_Silent_Silent : PySem.W.kitOne K (.ref a.c_Silent) (.ref a.c_Silent) = some true
  ki_Silent_Wait : PySem.W.kitOne K (.ref a.c_Silent) (.ref a.c_Wait) = some false
  ki_Silent_Breaks : PySem.W.kitOne K (.ref a.c_Silent) (.ref a.c_Breaks) = some false
  ki_Wait_Bar : PySem.W.kitOne K (.ref a.c_Wait) (.ref a.c_Bar) = some false
  ki_Wait_Shut : PySem.W.kitOne K (.ref a.c_Wait) (.ref a.c_Shut) = some false
  ki_Wait_Always : PySem.W.kitOne K (.ref a.c_Wait) (.ref a.c_Always) = some false
  ki_Wait_Night : PySem.W.kitOne K (.ref a.c_Wait) (.ref a.c_Night) = some false
  ki_Wait_Busy : PySem.W.kitOne K (.ref a.c_Wait) (.ref a.c_Busy) = some false
  ki_Wait_Silent : PySem.W.kitOne K (.ref a.c_Wait) (.ref a.c_Silent) = some false
  ki_Wait_Wait : PySem.W.kitOne K (.ref a.c_Wait) (.ref a.c_Wait) = some true
  ki_Wait_Breaks : PySem.W.kitOne K (.ref a.c_Wait) (.ref a.c_Breaks) = some false
  ki_Breaks_Bar : PySem.W.kitOne K (.ref a.c_Breaks) (.ref a.c_Bar) = some false
  ki_Breaks_Shut : PySem.W.kitOne K (.ref a.c_Breaks) (.ref a.c_Shut) = some false
  ki_Breaks_Always : PySem.W.kitOne K (.ref a.c_Breaks) (.ref a.c_Always) = some false
  ki_Breaks_Night : PySem.W.kitOne K (.ref a.c_Breaks) (.ref a.c_Night) = some false
  ki_Breaks_Busy : PySem.W.kitOne K (.ref a.c_Breaks) (.ref a.c_Busy) = some false
  ki_Breaks_Silent : PySem.W.kitOne K (.ref a.c_Breaks) (.ref a.c_Silent) = some false
  ki_Breaks_Wait : PySem.W.kitOne K (.ref a.c_Breaks) (.ref a.c_Wait) = some false
  ki_Breaks_Breaks : PySem.W.kitOne K (.ref a.c_Breaks) (.ref a.c_Breaks) = some true
  ki_Bar_Wish : PySem.W.kitOne K (.ref a.c_Bar) (.ref a.c_Wish) = some true
  ki_Shut_Wish : PySem.W.kitOne K (.ref a.c_Shut) (.ref a.c_Wish) = some true
  ki_Always_Wish : PySem.W.kitOne K (.ref a.c_Always) (.ref a.c_Wish) = some true
  ki_Night_Wish : PySem.W.kitOne K (.ref a.c_Night) (.ref a.c_Wish) = some true
  ki_Busy_Wish : PySem.W.kitOne K (.ref a.c_Busy) (.ref a.c_Wish) = some true
  ki_Silent_Wish : PySem.W.kitOne K (.ref a.c_Silent) (.ref a.c_Wish) = some true
  ki_Wait_Wish : PySem.W.kitOne K (.ref a.c_Wait) (.ref a.c_Wish) = some true
  ki_Breaks_Wish : PySem.W.kitOne K (.ref a.c_Breaks) (.ref a.c_Wish) = some true
  no_range : mg "range" = none
  no_enumerate : mg "enumerate" = none
  no_len : mg "len" = none
  no_min : mg "min" = none
  no_tuple : mg "tuple" = none
  no_isinstance : mg "isinstance" = none
  no_all : mg "all" = none
  no_zip : mg "zip" = none
  no_str : mg "str" = none
  no_int : mg "int" = none
  no_bool : mg "bool" = none
def draw (c f m : Int) : Int := (c % 2147483647 + 5) * f % 2147483629 / 89 % m
theorem draw_nn {c f m : Int} (h : 0 < m) : 0 ≤ draw c f m := Int.emod_nonneg _ (by omega)
theorem draw_lt {c f m : Int} (h : 0 < m) : draw c f m < m := Int.emod_lt_of_pos _ h
def sp_draw : Sp3 := fun ds M Q => ∃ c f m, ds = [.int c, .int f, .int m] ∧ 0 < m ∧ Q (.int (draw c f m)) M
def letters : Str := "abcdefghijklmnopqrstuvwxyz"
def letter (i : Int) : Str := ⟨#[97 + i.toNat]⟩
def size (s : Int) : Int := 1 + s % 6
def place (s : Int) : Int := s / 6 % size s
def word (s v : Int) : Str := repS (letter (s / 36 % 26)) (place s) ++ letter ((s / 936 + v) % 26) ++ repS (letter (s / 36 % 26)) (size s - 1 - place s)
def sp_word : Sp3 := fun ds M Q => ∃ s v, ds = [.int s, .int v] ∧ Q (.str (word s v)) M
def cell (ns : List Int) (i : Int) : Int := if 0 ≤ i ∧ i < ns.length then ns.getD i.toNat 0 else 0
def sp_at : Sp3 := fun ds M Q => ∃ ns i, ds = [.rl (ns.map D.int), .int i] ∧ Q (.int (cell ns i)) M
theorem size_pos (c : Int) : 0 < size c := by
  unfold size
  have := Int.emod_nonneg c (show (6 : Int) ≠ 0 by decide)
  omega
theorem size_le (c : Int) : size c ≤ 6 := by
  unfold size
  have := Int.emod_lt_of_pos c (show (0 : Int) < 6 by decide)
  omega
theorem rep1_len (i n : Int) : (repS (letter i) n).length = n.toNat := by
  show ((List.replicate n.toNat (letter i).cps).foldl (· ++ ·) #[] : Array Nat).size = n.toNat
  rw [rep_len]
  show n.toNat * 1 = n.toNat
  omega
theorem letters_len : letters.length ≤ sizeLine := by decide +kernel
section
variable {P : Program} {w : World} {K : PySem.W.Frag} {mg : Str → Option Value} {base : Heap} {a : Ad}
theorem ok_draw (G : Gl K mg a) : Fn3 P w K mg base 1 a.f_law_draw a.fd_law_draw ["_law_cell", "_law_factor", "_law_many"] sp_draw := by
  refine fun3s G.fn_law_draw sc_law_draw (fun ds M Q h => ?_) (fun cdv A outer s H E hr => ⟨_, (ss3_one (s3_ret (e3_op (e3_op (e3_op (e3_op (e3_op (e3_op (e3_var 0 (pv 0)) e3_int) e3_int) (e3_var 1 (pv 1))) e3_int) e3_int) (e3_var 2 (pv 2))))), ?_⟩)
  · obtain ⟨c, f, m, rfl, _⟩ := h
    rfl
  · rintro ds M Q ⟨c, f, m, rfl, hm, q⟩
    refine ⟨by decide, .inl ?_, by decide, ⟨by decide, by decide⟩, hm, M, .refl, q⟩
    have h1 : 0 ≤ c % 2147483647 := Int.emod_nonneg _ (by decide)
    have h2 : c % 2147483647 < 2147483647 := Int.emod_lt_of_pos _ (by decide)
    exact ⟨by omega, by omega⟩
theorem letter_at {i : Int} (h0 : 0 ≤ i) (h1 : i < 26) : atI letters.cps.toList i = some (97 + i.toNat) := by
  obtain ⟨n, rfl⟩ := Int.eq_ofNat_of_zero_le h0
  have hn : n < 26 := by omega
  have key : ∀ n : _root_.Fin 26, atI letters.cps.toList ((n.val : Nat) : Int) = some (97 + n.val) := by decide +kernel
  exact key ⟨n, hn⟩
theorem ok_word (G : Gl K mg a) : Fn3 P w K mg base 1 a.f_law_word a.fd_law_word ["_law_seed", "_law_which"] sp_word := by
  refine fun3s G.fn_law_word sc_law_word (fun ds M Q h => ?_) (fun cdv A outer s H E hr => ⟨_, (ss3_cons (s3_set (i := 2) sc_law_word.nd rfl (Or.inl rfl) e3_str)
 (ss3_cons (s3_set (i := 3) sc_law_word.nd rfl (Or.inl rfl) (e3_op e3_int (e3_op (e3_var 0 (pv 0)) e3_int)))
 (ss3_cons (s3_set (i := 4) sc_law_word.nd rfl (Or.inl rfl) (e3_op (e3_op (e3_var 0 (pv 0)) e3_int) (e3_var 3 (pv 3))))
 (ss3_cons (s3_set (i := 5) sc_law_word.nd rfl (Or.inl rfl) (e3_ix (e3_var 2 (pv 2)) (e3_op (e3_op (e3_var 0 (pv 0)) e3_int) e3_int)))
 (ss3_cons (s3_set (i := 6) sc_law_word.nd rfl (Or.inl rfl) (e3_ix (e3_var 2 (pv 2)) (e3_op (e3_op (e3_op (e3_var 0 (pv 0)) e3_int) (e3_var 1 (pv 1))) e3_int)))
 (ss3_one (s3_ret (e3_op (e3_op (e3_op (e3_var 5 (pv 5)) (e3_var 4 (pv 4))) (e3_var 6 (pv 6))) (e3_op (e3_var 5 (pv 5)) (e3_op (e3_op (e3_var 3 (pv 3)) e3_int) (e3_var 4 (pv 4)))))))))))), ?_⟩)
  · obtain ⟨c, v, rfl, _⟩ := h
    rfl
  · rintro ds M Q ⟨c, v, rfl, q⟩
    have hs := size_pos c
    have hs6 := size_le c
    have hp0 : 0 ≤ place c := Int.emod_nonneg _ (by omega)
    have hp1 : place c < size c := Int.emod_lt_of_pos _ hs
    have l1 := rep1_len (c / 36 % 26) (place c)
    have l2 := rep1_len (c / 36 % 26) (size c - 1 - place c)
    have hz : sizeLine = 16777216 := sizeLine_eq
    refine ⟨by decide, ⟨by decide, by decide⟩, hs, ⟨by decide, by decide⟩, by decide, letters_len, elim_of (letter_at (Int.emod_nonneg _ (by decide)) (Int.emod_lt_of_pos _ (by decide))) ?_⟩
    refine ⟨⟨by decide, by decide⟩, by decide, letters_len, elim_of (letter_at (Int.emod_nonneg _ (by decide)) (Int.emod_lt_of_pos _ (by decide))) ?_⟩
    refine ⟨⟨?_, ?_, ?_⟩, ?_, ⟨?_, ?_, ?_⟩, ?_, M, .refl, q⟩
    · show place c < 4096
      omega
    · show -4096 < place c
      omega
    · show (1 : Nat) < 4096
      decide
    · show (repS (letter (c / 36 % 26)) (place c)).length + 1 ≤ sizeLine
      omega
    · show size c - 1 - place c < 4096
      omega
    · show -4096 < size c - 1 - place c
      omega
    · show (1 : Nat) < 4096
      decide
    · show (repS (letter (c / 36 % 26)) (place c) ++ letter ((c / 936 + v) % 26)).length + (repS (letter (c / 36 % 26)) (size c - 1 - place c)).length ≤ sizeLine
      rw [PySem.size_cat]
      have : (letter ((c / 936 + v) % 26)).length = 1 := rfl
      omega
theorem ok_at (G : Gl K mg a) : Fn3 P w K mg base 1 a.f_law_at a.fd_law_at ["_law_script", "_law_k"] sp_at := by
  refine fun3s G.fn_law_at sc_law_at (fun ds M Q h => ?_) (fun cdv A outer s H E hr => ⟨_, (ss3_cons (s3_if (b3_chain (hu9 hr) e3_int (e3_var 1 (pv 1)) (e3_callB c3_len rfl G.no_len bt_len (a3_cons (e3_var 0 (pv 0)) a3_nil)))
 (ss3_one (s3_ret (e3_ix (e3_var 0 (pv 0)) (e3_var 1 (pv 1)))))
 ss3_nil)
 (ss3_one (s3_ret e3_int))), ?_⟩)
  · obtain ⟨ns, i, rfl, _⟩ := h
    rfl
  · rintro ds M Q ⟨ns, i, rfl, q⟩
    refine ite2 (fun h0 => ?_) (fun h0 => ?_)
    · have h0 : 0 ≤ i := of_decide_eq_true h0
      refine ite2 (fun h1 => ?_) (fun h1 => ?_)
      · have h1 : i < ((ns.map D.int).length : Int) := of_decide_eq_true h1
        rw [List.length_map] at h1
        have hi : i.toNat < ns.length := by omega
        have e : atI (ns.map D.int) i = some (D.int (ns.getD i.toNat 0)) := by
          obtain ⟨n, rfl⟩ := Int.eq_ofNat_of_zero_le h0
          have hn : n < ns.length := by omega
          refine atI_nat ?_
          rw [List.getElem?_map, List.getElem?_eq_getElem hn]
          simp [hn]
        refine elim_of e ⟨M, .refl, ?_⟩
        have : cell ns i = ns.getD i.toNat 0 := by unfold cell; rw [if_pos ⟨h0, h1⟩]
        rw [← this]
        exact q
      · have h1 : ¬ i < ((ns.map D.int).length : Int) := fun z => h1 (decide_eq_true z)
        rw [List.length_map] at h1
        refine ⟨M, .refl, ?_⟩
        have : cell ns i = 0 := by unfold cell; rw [if_neg (fun z => h1 z.2)]
        rw [← this]
        exact q
    · have h0 : ¬ 0 ≤ i := fun z => h0 (decide_eq_true z)
      refine ⟨M, .refl, ?_⟩
      have : cell ns i = 0 := by unfold cell; rw [if_neg (fun z => h0 z.1)]
      rw [← this]
      exact q
end
inductive Wi where
  | bar (x : Str) (ns : List Str) | shut (x : Str) (ns : List Str) | always (x y : Str) | night (x y : Str) (f l : Int) | busy (x y : Str) | silent (x y : Str) (n : Int) | wait (x : Str) | breaks (x : Str)
abbrev names (ns : List Str) : D := .tup (ns.map D.str)
def Wi.told : Wi → List D
  | .bar x ns => [.str "bar", .str x, names ns]
  | .shut x ns => [.str "shut", .str x, names ns]
  | .always x y => [.str "always", .str x, .str y]
  | .night x y f l => [.str "night", .str x, .str y, .int f, .int l]
  | .busy x y => [.str "busy", .str x, .str y]
  | .silent x y n => [.str "silent", .str x, .str y, .int n]
  | .wait x => [.str "wait", .str x]
  | .breaks x => [.str "breaks", .str x]
def Wi.wants : Wi → List D
  | .bar _ _ => [.str "end"]
  | .shut _ _ => [.str "end"]
  | .always _ y => [.str "to", .str y]
  | .night _ y _ _ => [.str "to", .str y]
  | .busy _ y => [.str "to", .str y]
  | .silent _ y _ => [.str "to", .str y]
  | .wait x => [.str "wait", .str x]
  | .breaks _ => [.str "break"]
def Wi.word : Wi → Str
  | .bar _ _ => "bar"
  | .shut _ _ => "shut"
  | .always _ _ => "always"
  | .night _ _ _ _ => "night"
  | .busy _ _ => "busy"
  | .silent _ _ _ => "silent"
  | .wait _ => "wait"
  | .breaks _ => "breaks"
def Wi.cls (a : Ad) : Wi → Addr
  | .bar _ _ => a.c_Bar
  | .shut _ _ => a.c_Shut
  | .always _ _ => a.c_Always
  | .night _ _ _ _ => a.c_Night
  | .busy _ _ => a.c_Busy
  | .silent _ _ _ => a.c_Silent
  | .wait _ => a.c_Wait
  | .breaks _ => a.c_Breaks
def Wi.more : Wi → List (Str × D)
  | .bar x ns => [("phone", .str x), ("targets", names ns)]
  | .shut x ns => [("target", .str x), ("callers", names ns)]
  | .always x y => [("target", .str x), ("goal", .str y)]
  | .night x y f l => [("target", .str x), ("goal", .str y), ("first", .int f), ("last", .int l)]
  | .busy x y => [("target", .str x), ("goal", .str y)]
  | .silent x y n => [("target", .str x), ("goal", .str y), ("turns", .int n)]
  | .wait x => [("phone", .str x)]
  | .breaks x => [("phone", .str x)]
def Wi.flds (v : Wi) : List (Str × D) := ("form", .tup v.told) :: v.more
abbrev at0 (ns : List Str) (i : Int) : Str := ns.getD i.toNat Str.empty
def someN (row : List Str) (c m : Int) : Nat := (1 + draw c 40692 (if (row.length : Int) < m then (row.length : Int) else m)).toNat
def some1 (row : List Str) (c : Int) (j : Nat) : Str := at0 row ((draw c 69621 row.length + (0 + (j : Nat))) % row.length)
def someW (row : List Str) (c m : Int) : List Str := (List.range (someN row c m)).map (some1 row c)
def sp_some : Sp3 := fun ds M Q => ∃ r c m row, ds = [.ref r, .int c, .int m] ∧ lstM M r = some (row.map D.str) ∧ row ≠ [] ∧ 0 < m ∧ row.length ≤ 64 ∧ Q (names (someW row c m)) M
theorem at0_mod {row : List Str} (h : row ≠ []) (x : Int) : atI (row.map D.str) (x % row.length) = some (D.str (at0 row (x % row.length))) := by
  have hl : 0 < row.length := List.length_pos_iff.mpr h
  have h0 : 0 ≤ x % row.length := Int.emod_nonneg _ (by omega)
  have h1 : x % row.length < row.length := Int.emod_lt_of_pos _ (by omega)
  obtain ⟨n, hn⟩ := Int.eq_ofNat_of_zero_le h0
  rw [hn] at h1 ⊢
  have hn' : n < row.length := by omega
  refine atI_nat ?_
  rw [List.getElem?_map, List.getElem?_eq_getElem hn']
  simp [at0, hn']
section
variable {P : Program} {w : World} {K : PySem.W.Frag} {mg : Str → Option Value} {base : Heap} {a : Ad}
theorem ok_some (G : Gl K mg a) : Fn3 P w K mg base 2 a.f_law_some a.fd_law_some ["_law_row", "_law_cell", "_law_most"] sp_some := by
  have C_law_draw := ok_draw (P := P) (w := w) (base := base) G
  refine fun3s G.fn_law_some sc_law_some (fun ds M Q h => ?_) (fun cdv A outer s H E hr => ⟨_, (ss3_cons (s3_set (i := 3) sc_law_some.nd rfl (Or.inr rfl) (e3_call C_law_draw (hr.mono (by first | decide | omega)) rfl G.mg_law_draw G.kp_law_draw G.b_law_draw (a3_cons (e3_var 1 (pv 1)) (a3_cons e3_int (a3_cons (e3_callB c3_len rfl G.no_len bt_len (a3_cons (e3_var 0 (pv 0)) a3_nil)) a3_nil)))))
 (ss3_cons (s3_set (i := 4) sc_law_some.nd rfl (Or.inl rfl) (e3_op e3_int (e3_call C_law_draw (hr.mono (by first | decide | omega)) rfl G.mg_law_draw G.kp_law_draw G.b_law_draw (a3_cons (e3_var 1 (pv 1)) (a3_cons e3_int (a3_cons (e3_callB (c3_min rfl) rfl G.no_min bt_min (a3_cons (e3_var 2 (pv 2)) (a3_cons (e3_callB c3_len rfl G.no_len bt_len (a3_cons (e3_var 0 (pv 0)) a3_nil)) a3_nil))) a3_nil))))))
 (ss3_one (s3_ret (e3_callTy c3_tuple rfl G.no_tuple bt_tuple (a3_cons (e3_comp rfl (compS (ix := [none, some 0, some 3]) (N' := ["_law_j", "_law_row", "_law_first"]) (by kernel_rfl)) (i3_range1 rfl G.no_range (a3_cons (e3_var 4 (pv 4)) a3_nil)) (fun C s0 H0 ex => (g3_name (i := 0) (show List.Nodup (["_law_j", "_law_row", "_law_first"] : List Str) by decide +kernel) rfl (Or.inl rfl))) (fun C s0 H0 ex => f3_nil) (fun C s0 H0 ex => (e3_ix (e3_var 1 (pv 1)) (e3_op (e3_op (e3_var 2 (pv 2)) (e3_var 0 (pv 0))) (e3_callB c3_len rfl G.no_len bt_len (a3_cons (e3_var 1 (pv 1)) a3_nil)))))) a3_nil)))))), ?_⟩)
  · obtain ⟨r, c, m, row, rfl, _⟩ := h
    rfl
  · rintro ds M Q ⟨r, c, m, row, rfl, hl, hne, hm, h64, q⟩
    have hlen : 0 < row.length := List.length_pos_iff.mpr hne
    have hz : sizeLine = 16777216 := sizeLine_eq
    have el : ((row.map D.str).length : Int) = row.length := by rw [List.length_map]
    refine elim_of hl ⟨c, 69621, _, rfl, by rw [el]; omega, ?_⟩
    refine elim_of hl ⟨c, 40692, _, rfl, by rw [el]; split <;> omega, ?_⟩
    rw [el]
    have d0 := draw_nn (c := c) (f := 40692) (m := if (row.length : Int) < m then (row.length : Int) else m) (by split <;> omega)
    have d1 := draw_lt (c := c) (f := 40692) (m := if (row.length : Int) < m then (row.length : Int) else m) (by split <;> omega)
    have d2 : draw c 40692 (if (row.length : Int) < m then (row.length : Int) else m) < row.length + 1 := by
      refine Int.lt_of_lt_of_le d1 ?_
      split <;> omega
    refine ⟨rfl, ⟨?_, ?_⟩, crun_pure (f := fun d => match d with | .int j => D.str (at0 row ((draw c 69621 row.length + j) % row.length)) | _ => .non) trivial _ [] _ ?_ (fun d hd k hk => ?_) fun p hp => ?_⟩
    · show -(2 ^ 62) ≤ 1 + draw c 40692 (if (row.length : Int) < m then (row.length : Int) else m)
      omega
    · show 1 + draw c 40692 (if (row.length : Int) < m then (row.length : Int) else m) < 2 ^ 62
      omega
    · rw [List.length_map, List.length_range]
      show 0 + someN row c m ≤ sizeLine
      unfold someN
      omega
    · obtain ⟨j, _, rfl⟩ := List.mem_map.mp hd
      refine elim_of hl ⟨by rw [el]; omega, elim_of hl ?_⟩
      rw [el]
      exact elim_of (at0_mod hne _) hk
    · refine elim_of (x := (someW row c m).map D.str) ?_ ⟨M, .new hp, q⟩
      unfold lstM
      rw [updM_same]
      show some ([] ++ ((List.range (someN row c m)).map fun i => D.int (0 + (i : Nat))).map _) = _
      rw [List.nil_append, List.map_map]
      unfold someW
      rw [List.map_map]
      rfl
def wishW (c : Int) (own all : List Str) : Wi :=
  let x := at0 own (draw c 16807 own.length)
  let pl := draw c 39373 all.length
  let y := at0 all pl
  let z := at0 all ((pl + 1 + draw c 742938285 ((all.length : Int) - 1)) % all.length)
  let k := draw c 1226874159 12
  if k = 0 then .bar x (someW all c 3)
  else if k = 1 then .shut y (someW own c 3)
  else if k = 2 then .always y z
  else if k < 5 then .night y z (draw c 22695477 24) ((draw c 22695477 24 + 1 + draw c 48271 23) % 24)
  else if k < 7 then .busy y z
  else if k < 9 then .silent y z ([1, 1, 2, 3, 9].getD (draw c 950706376 5).toNat 0)
  else if k = 9 then .wait x
  else .breaks x
def sp_wish : Sp3 := fun ds M Q => ∃ c o n own all, ds = [.int c, .ref o, .ref n] ∧ lstM M o = some (own.map D.str) ∧ lstM M n = some (all.map D.str) ∧ own ≠ [] ∧ 2 ≤ all.length ∧ own.length ≤ 64 ∧ all.length ≤ 64 ∧ Q (.tup (wishW c own all).told) M
theorem at0_in {row : List Str} {x : Int} (h0 : 0 ≤ x) (h1 : x < row.length) : atI (row.map D.str) x = some (D.str (at0 row x)) := by
  obtain ⟨n, rfl⟩ := Int.eq_ofNat_of_zero_le h0
  have hn' : n < row.length := by omega
  refine atI_nat ?_
  rw [List.getElem?_map, List.getElem?_eq_getElem hn']
  simp [at0, hn']
theorem ok_wish (G : Gl K mg a) : Fn3 P w K mg base 3 a.f_law_wish a.fd_law_wish ["_law_cell", "_law_own", "_law_names"] sp_wish := by
  have C_law_draw := ok_draw (P := P) (w := w) (base := base) G
  have C_law_some := ok_some (P := P) (w := w) (base := base) G
  refine fun3s G.fn_law_wish sc_law_wish (fun ds M Q h => ?_) (fun cdv A outer s H E hr => ⟨_, (ss3_cons (s3_set (i := 3) sc_law_wish.nd rfl (Or.inl rfl) (e3_ix (e3_var 1 (pv 1)) (e3_call C_law_draw (hr.mono (by first | decide | omega)) rfl G.mg_law_draw G.kp_law_draw G.b_law_draw (a3_cons (e3_var 0 (pv 0)) (a3_cons e3_int (a3_cons (e3_callB c3_len rfl G.no_len bt_len (a3_cons (e3_var 1 (pv 1)) a3_nil)) a3_nil))))))
 (ss3_cons (s3_set (i := 4) sc_law_wish.nd rfl (Or.inl rfl) (e3_call C_law_draw (hr.mono (by first | decide | omega)) rfl G.mg_law_draw G.kp_law_draw G.b_law_draw (a3_cons (e3_var 0 (pv 0)) (a3_cons e3_int (a3_cons (e3_callB c3_len rfl G.no_len bt_len (a3_cons (e3_var 2 (pv 2)) a3_nil)) a3_nil)))))
 (ss3_cons (s3_set (i := 5) sc_law_wish.nd rfl (Or.inl rfl) (e3_ix (e3_var 2 (pv 2)) (e3_var 4 (pv 4))))
 (ss3_cons (s3_set (i := 6) sc_law_wish.nd rfl (Or.inl rfl) (e3_ix (e3_var 2 (pv 2)) (e3_op (e3_op (e3_op (e3_var 4 (pv 4)) e3_int) (e3_call C_law_draw (hr.mono (by first | decide | omega)) rfl G.mg_law_draw G.kp_law_draw G.b_law_draw (a3_cons (e3_var 0 (pv 0)) (a3_cons e3_int (a3_cons (e3_op (e3_callB c3_len rfl G.no_len bt_len (a3_cons (e3_var 2 (pv 2)) a3_nil)) e3_int) a3_nil))))) (e3_callB c3_len rfl G.no_len bt_len (a3_cons (e3_var 2 (pv 2)) a3_nil)))))
 (ss3_cons (s3_set (i := 7) sc_law_wish.nd rfl (Or.inl rfl) (e3_call C_law_draw (hr.mono (by first | decide | omega)) rfl G.mg_law_draw G.kp_law_draw G.b_law_draw (a3_cons (e3_var 0 (pv 0)) (a3_cons e3_int (a3_cons e3_int a3_nil)))))
 (ss3_cons (s3_if (b3_cmp (hu9 hr) (e3_var 7 (pv 7)) e3_int)
 (ss3_one (s3_ret (e3_tup (a3_cons e3_str (a3_cons (e3_var 3 (pv 3)) (a3_cons (e3_call C_law_some (hr.mono (by first | decide | omega)) rfl G.mg_law_some G.kp_law_some G.b_law_some (a3_cons (e3_var 2 (pv 2)) (a3_cons (e3_var 0 (pv 0)) (a3_cons e3_int a3_nil)))) a3_nil))))))
 ss3_nil)
 (ss3_cons (s3_if (b3_cmp (hu9 hr) (e3_var 7 (pv 7)) e3_int)
 (ss3_one (s3_ret (e3_tup (a3_cons e3_str (a3_cons (e3_var 5 (pv 5)) (a3_cons (e3_call C_law_some (hr.mono (by first | decide | omega)) rfl G.mg_law_some G.kp_law_some G.b_law_some (a3_cons (e3_var 1 (pv 1)) (a3_cons (e3_var 0 (pv 0)) (a3_cons e3_int a3_nil)))) a3_nil))))))
 ss3_nil)
 (ss3_cons (s3_if (b3_cmp (hu9 hr) (e3_var 7 (pv 7)) e3_int)
 (ss3_one (s3_ret (e3_tup (a3_cons e3_str (a3_cons (e3_var 5 (pv 5)) (a3_cons (e3_var 6 (pv 6)) a3_nil))))))
 ss3_nil)
 (ss3_cons (s3_if (b3_cmp (hu9 hr) (e3_var 7 (pv 7)) e3_int)
 (ss3_cons (s3_set (i := 8) sc_law_wish.nd rfl (Or.inl rfl) (e3_call C_law_draw (hr.mono (by first | decide | omega)) rfl G.mg_law_draw G.kp_law_draw G.b_law_draw (a3_cons (e3_var 0 (pv 0)) (a3_cons e3_int (a3_cons e3_int a3_nil)))))
 (ss3_one (s3_ret (e3_tup (a3_cons e3_str (a3_cons (e3_var 5 (pv 5)) (a3_cons (e3_var 6 (pv 6)) (a3_cons (e3_var 8 (pv 8)) (a3_cons (e3_op (e3_op (e3_op (e3_var 8 (pv 8)) e3_int) (e3_call C_law_draw (hr.mono (by first | decide | omega)) rfl G.mg_law_draw G.kp_law_draw G.b_law_draw (a3_cons (e3_var 0 (pv 0)) (a3_cons e3_int (a3_cons e3_int a3_nil))))) e3_int) a3_nil)))))))))
 ss3_nil)
 (ss3_cons (s3_if (b3_cmp (hu9 hr) (e3_var 7 (pv 7)) e3_int)
 (ss3_one (s3_ret (e3_tup (a3_cons e3_str (a3_cons (e3_var 5 (pv 5)) (a3_cons (e3_var 6 (pv 6)) a3_nil))))))
 ss3_nil)
 (ss3_cons (s3_if (b3_cmp (hu9 hr) (e3_var 7 (pv 7)) e3_int)
 (ss3_one (s3_ret (e3_tup (a3_cons e3_str (a3_cons (e3_var 5 (pv 5)) (a3_cons (e3_var 6 (pv 6)) (a3_cons (e3_ix (e3_tup (a3_cons e3_int (a3_cons e3_int (a3_cons e3_int (a3_cons e3_int (a3_cons e3_int a3_nil)))))) (e3_call C_law_draw (hr.mono (by first | decide | omega)) rfl G.mg_law_draw G.kp_law_draw G.b_law_draw (a3_cons (e3_var 0 (pv 0)) (a3_cons e3_int (a3_cons e3_int a3_nil))))) a3_nil)))))))
 ss3_nil)
 (ss3_cons (s3_if (b3_cmp (hu9 hr) (e3_var 7 (pv 7)) e3_int)
 (ss3_one (s3_ret (e3_tup (a3_cons e3_str (a3_cons (e3_var 3 (pv 3)) a3_nil)))))
 ss3_nil)
 (ss3_one (s3_ret (e3_tup (a3_cons e3_str (a3_cons (e3_var 3 (pv 3)) a3_nil))))))))))))))))), ?_⟩)
  · obtain ⟨c, o, n, own, all, rfl, _⟩ := h
    rfl
  · rintro ds M Q ⟨c, o, n, own, all, rfl, ho, hn, hne, h2, l1, l2, q⟩
    have hlen : 0 < own.length := List.length_pos_iff.mpr hne
    have hne2 : all ≠ [] := fun z => by rw [z] at h2; simp at h2
    have e1 : ((own.map D.str).length : Int) = own.length := by rw [List.length_map]
    have e2 : ((all.map D.str).length : Int) = all.length := by rw [List.length_map]
    have p1 : (0 : Int) < own.length := by omega
    have p2 : (0 : Int) < all.length := by omega
    have p3 : (0 : Int) < (all.length : Int) - 1 := by omega
    refine elim_of ho ⟨c, _, _, rfl, by rw [e1]; exact p1, ?_⟩
    rw [e1]
    refine elim_of ho (elim_of (at0_in (draw_nn p1) (draw_lt p1)) ?_)
    refine elim_of hn ⟨c, _, _, rfl, by rw [e2]; exact p2, ?_⟩
    rw [e2]
    refine elim_of hn (elim_of (at0_in (draw_nn p2) (draw_lt p2)) ?_)
    refine elim_of hn ⟨c, _, _, rfl, by rw [e2]; exact p3, ?_⟩
    rw [e2]
    refine elim_of hn ⟨by rw [e2]; exact p2, ?_⟩
    rw [e2]
    refine elim_of hn (elim_of (at0_mod hne2 _) ?_)
    refine ⟨c, _, _, rfl, by decide, ?_⟩
    have fin : ∀ t : List D, (wishW c own all).told = t → ∃ M'', L3.Sub M'' M ∧ Q (.tup t) M'' := fun t e => ⟨M, .refl, e ▸ q⟩
    have k0 : 0 ≤ draw c 1226874159 12 := draw_nn (by decide)
    refine ite2 (fun h => ?_) (fun h => ?_)
    · have h : draw c 1226874159 12 = 0 := by simpa using h
      refine ⟨n, c, 3, all, rfl, hn, hne2, by decide, l2, few rfl, fin _ ?_⟩
      simp only [wishW, if_pos h, Wi.told]
    have h : ¬ draw c 1226874159 12 = 0 := by simpa using h
    refine ite2 (fun g => ?_) (fun g => ?_)
    · have g : draw c 1226874159 12 = 1 := by simpa using g
      refine ⟨o, c, 3, own, rfl, ho, hne, by decide, l1, few rfl, fin _ ?_⟩
      simp only [wishW, if_neg h, if_pos g, Wi.told]
    have g : ¬ draw c 1226874159 12 = 1 := by simpa using g
    refine ite2 (fun i => ?_) (fun i => ?_)
    · have i : draw c 1226874159 12 = 2 := by simpa using i
      refine ⟨few rfl, fin _ ?_⟩
      simp only [wishW, if_neg h, if_neg g, if_pos i, Wi.told]
    have i : ¬ draw c 1226874159 12 = 2 := by simpa using i
    refine ite2 (fun j => ?_) (fun j => ?_)
    · have j : draw c 1226874159 12 < 5 := of_decide_eq_true j
      refine ⟨c, _, _, rfl, by decide, c, _, _, rfl, by decide, by decide, few rfl, fin _ ?_⟩
      simp only [wishW, if_neg h, if_neg g, if_neg i, if_pos j, Wi.told]
    have j : ¬ draw c 1226874159 12 < 5 := fun z => j (decide_eq_true z)
    refine ite2 (fun l => ?_) (fun l => ?_)
    · have l : draw c 1226874159 12 < 7 := of_decide_eq_true l
      refine ⟨few rfl, fin _ ?_⟩
      simp only [wishW, if_neg h, if_neg g, if_neg i, if_neg j, if_pos l, Wi.told]
    have l : ¬ draw c 1226874159 12 < 7 := fun z => l (decide_eq_true z)
    refine ite2 (fun m => ?_) (fun m => ?_)
    · have m : draw c 1226874159 12 < 9 := of_decide_eq_true m
      have d0 : 0 ≤ draw c 950706376 5 := draw_nn (by decide)
      have d1 : draw c 950706376 5 < 5 := draw_lt (by decide)
      have e : atI [D.int 1, .int 1, .int 2, .int 3, .int 9] (draw c 950706376 5) = some (D.int ([1, 1, 2, 3, 9].getD (draw c 950706376 5).toNat 0)) := by
        obtain ⟨t, ht⟩ := Int.eq_ofNat_of_zero_le d0
        rw [ht] at d1 ⊢
        have : t < 5 := by omega
        match t, this with
        | 0, _ => rfl
        | 1, _ => rfl
        | 2, _ => rfl
        | 3, _ => rfl
        | 4, _ => rfl
      refine ⟨few rfl, c, _, _, rfl, by decide, elim_of e ⟨few rfl, fin _ ?_⟩⟩
      simp only [wishW, if_neg h, if_neg g, if_neg i, if_neg j, if_neg l, if_pos m, Wi.told]
    have m : ¬ draw c 1226874159 12 < 9 := fun z => m (decide_eq_true z)
    refine ite2 (fun r => ?_) (fun r => ?_)
    · have r : draw c 1226874159 12 = 9 := by simpa using r
      refine ⟨few rfl, fin _ ?_⟩
      simp only [wishW, if_neg h, if_neg g, if_neg i, if_neg j, if_neg l, if_neg m, if_pos r, Wi.told]
    have r : ¬ draw c 1226874159 12 = 9 := by simpa using r
    refine ⟨few rfl, fin _ ?_⟩
    simp only [wishW, if_neg h, if_neg g, if_neg i, if_neg j, if_neg l, if_neg m, if_neg r, Wi.told]
end
end K11
namespace K11
open PySem PySem.Spec PyProof.Rows L2 L3
def sp_wants : Sp3 := fun ds M Q => ∃ v : Wi, ds = [.tup v.told] ∧ Q (.tup v.wants) M
def okD : Nat → D → Bool
  | _, .int _ => true
  | _, .str _ => true
  | n + 1, .tup ds => ds.all (okD n) && decide (ds.length ≤ 1000)
  | _, _ => false
def sp_alike (n : Nat) : Sp3 := fun ds M Q => ∃ d, ds = [d, d] ∧ okD n d = true ∧ Q (.bl true) M
section
variable {P : Program} {w : World} {K : PySem.W.Frag} {mg : Str → Option Value} {base : Heap} {a : Ad}
theorem ok_wants (G : Gl K mg a) : Fn3 P w K mg base 1 a.f_law_wants a.fd_law_wants ["_law_told"] sp_wants := by
  refine fun3s G.fn_law_wants sc_law_wants (fun ds M Q h => ?_) (fun cdv A outer s H E hr => ⟨_, (ss3_cons (s3_if (W3.b3 (w3_or (b3_cmp (hu9 hr) (e3_ix (e3_var 0 (pv 0)) e3_int) e3_str) (w3_or1 (b3_cmp (hu9 hr) (e3_ix (e3_var 0 (pv 0)) e3_int) e3_str))))
 (ss3_one (s3_ret (e3_tup (a3_cons e3_str a3_nil))))
 ss3_nil)
 (ss3_cons (s3_if (b3_cmp (hu9 hr) (e3_ix (e3_var 0 (pv 0)) e3_int) e3_str)
 (ss3_one (s3_ret (e3_tup (a3_cons e3_str (a3_cons (e3_ix (e3_var 0 (pv 0)) e3_int) a3_nil)))))
 ss3_nil)
 (ss3_cons (s3_if (b3_cmp (hu9 hr) (e3_ix (e3_var 0 (pv 0)) e3_int) e3_str)
 (ss3_one (s3_ret (e3_tup (a3_cons e3_str a3_nil))))
 ss3_nil)
 (ss3_one (s3_ret (e3_tup (a3_cons e3_str (a3_cons (e3_ix (e3_var 0 (pv 0)) e3_int) a3_nil)))))))), ?_⟩)
  · obtain ⟨v, rfl, _⟩ := h
    rfl
  · rintro ds M Q ⟨v, rfl, q⟩
    cases v with
    | bar x ns => exact ⟨few rfl, M, .refl, q⟩
    | shut x ns => exact ⟨few rfl, M, .refl, q⟩
    | always x y => exact ⟨few rfl, M, .refl, q⟩
    | night x y f l => exact ⟨few rfl, M, .refl, q⟩
    | busy x y => exact ⟨few rfl, M, .refl, q⟩
    | silent x y n => exact ⟨few rfl, M, .refl, q⟩
    | wait x => exact ⟨few rfl, M, .refl, q⟩
    | breaks x => exact ⟨few rfl, M, .refl, q⟩
def sp_alike' : Nat → Sp3
  | 0 => fun _ _ _ => False
  | n + 1 => sp_alike n
theorem step_alike (G : Gl K mg a) (n : Nat) (C_law_alike : Fn3 P w K mg base n a.f_law_alike a.fd_law_alike ["_law_found", "_law_due"] (sp_alike' n)) : Fn3 P w K mg base (n + 1) a.f_law_alike a.fd_law_alike ["_law_found", "_law_due"] (sp_alike n) := by
  refine fun3s G.fn_law_alike sc_law_alike (fun ds M Q h => ?_) (fun cdv A outer s H E hr => ⟨_, (ss3_cons (s3_if (b3_of (e3_callB c3_isinst rfl G.no_isinstance bt_isinstance (a3_cons (e3_var 1 (pv 1)) (a3_cons (e3_ty rfl G.no_tuple bt_tuple) a3_nil))))
 (ss3_cons (s3_if (W3.b3 (w3_or (b3_not (b3_of (e3_callB c3_isinst rfl G.no_isinstance bt_isinstance (a3_cons (e3_var 0 (pv 0)) (a3_cons (e3_ty rfl G.no_tuple bt_tuple) a3_nil))))) (w3_or1 (b3_cmp (hu9 hr) (e3_callB c3_len rfl G.no_len bt_len (a3_cons (e3_var 0 (pv 0)) a3_nil)) (e3_callB c3_len rfl G.no_len bt_len (a3_cons (e3_var 1 (pv 1)) a3_nil))))))
 (ss3_one (s3_ret e3_bl))
 ss3_nil)
 (ss3_one (s3_ret (e3_callB (c3_all rfl) rfl G.no_all bt_all (a3_cons (e3_comp rfl (compS (ix := [none, none]) (N' := ["_law_one", "_law_other"]) (by kernel_rfl)) (i3_zip rfl G.no_zip (a3_cons (e3_var 0 (pv 0)) (a3_cons (e3_var 1 (pv 1)) a3_nil))) (fun C s0 H0 ex => (g3_tup (n := 2) rfl (gs3_cons (g3_name (i := 0) (show List.Nodup (["_law_one", "_law_other"] : List Str) by decide +kernel) rfl (Or.inl rfl)) (gs3_cons (g3_name (i := 1) (show List.Nodup (["_law_one", "_law_other"] : List Str) by decide +kernel) rfl (Or.inl rfl)) gs3_nil)))) (fun C s0 H0 ex => f3_nil) (fun C s0 H0 ex => (e3_call C_law_alike (hr.mono (by first | decide | omega)) rfl G.mg_law_alike G.kp_law_alike G.b_law_alike (a3_cons (e3_var 0 (pv 0)) (a3_cons (e3_var 1 (pv 1)) a3_nil))))) a3_nil)))))
 ss3_nil)
 (ss3_cons (s3_if (b3_of (e3_callB c3_isinst rfl G.no_isinstance bt_isinstance (a3_cons (e3_var 1 (pv 1)) (a3_cons (e3_ty rfl G.no_str bt_str) a3_nil))))
 (ss3_one (s3_ret (e3_and (e3_callB c3_isinst rfl G.no_isinstance bt_isinstance (a3_cons (e3_var 0 (pv 0)) (a3_cons (e3_ty rfl G.no_str bt_str) a3_nil))) (e3_one (e3_cmp (hu9 hr) (e3_var 0 (pv 0)) (e3_var 1 (pv 1)))))))
 ss3_nil)
 (ss3_one (s3_ret (e3_and (e3_callB c3_isinst rfl G.no_isinstance bt_isinstance (a3_cons (e3_var 0 (pv 0)) (a3_cons (e3_ty rfl G.no_int bt_int) a3_nil))) (e3_and (e3_not (e3_callB c3_isinst rfl G.no_isinstance bt_isinstance (a3_cons (e3_var 0 (pv 0)) (a3_cons (e3_ty rfl G.no_bool bt_bool) a3_nil)))) (e3_one (e3_cmp (hu9 hr) (e3_var 0 (pv 0)) (e3_var 1 (pv 1)))))))))), ?_⟩)
  · obtain ⟨d, rfl, _⟩ := h
    rfl
  · rintro ds M Q ⟨d, rfl, hd, q⟩
    cases d with
    | int i =>
      refine ⟨fun C z => (by cases z), elim_of G.ki_int_tuple (iteF ⟨fun C z => (by cases z), elim_of G.ki_int_str (iteF ⟨fun C z => (by cases z), elim_of G.ki_int_int (iteT ⟨fun C z => (by cases z), elim_of G.ki_int_bool (iteT ⟨M, .refl, ?_⟩)⟩)⟩)⟩)⟩
      show Q (.bl (i == i)) M
      rw [beq_self_eq_true]
      exact q
    | str x =>
      refine ⟨fun C z => (by cases z), elim_of G.ki_str_tuple (iteF ⟨fun C z => (by cases z), elim_of G.ki_str_str (iteT ⟨fun C z => (by cases z), elim_of G.ki_str_str (iteT ⟨M, .refl, ?_⟩)⟩)⟩)⟩
      show Q (.bl (x == x)) M
      rw [beq_self_eq_true]
      exact q
    | tup es =>
      cases n with
      | zero => cases hd
      | succ n =>
        have hd : (es.all (okD n) && decide (es.length ≤ 1000)) = true := hd
        rw [Bool.and_eq_true] at hd
        obtain ⟨h1, h2⟩ := hd
        have h2 := of_decide_eq_true h2
        have hz : sizeLine = 16777216 := sizeLine_eq
        refine ⟨fun C z => (by cases z), elim_of G.ki_tuple_tuple (iteT ⟨fun C z => (by cases z), elim_of G.ki_tuple_tuple (iteF ?_)⟩)⟩
        show if (!((es.length : Int) == (es.length : Int))) = true then _ else _
        rw [beq_self_eq_true]
        refine iteF ?_
        refine crun_gen (f := fun _ => .bl true) (fun δ => ∃ u v, δ = [u, v]) trivial _ [] _ ⟨_, _, rfl⟩ ?_ (fun d hd δ hj k hk => ?_) fun p hp => ?_
        · rw [L3.zip_len]
          show 0 + min es.length es.length ≤ sizeLine
          omega
        · obtain ⟨u, v, rfl⟩ := hj
          have : ∃ e, e ∈ es ∧ d = .tup [e, e] := by
            obtain ⟨i, hi, e⟩ := List.getElem_of_mem hd
            have e' : (zipD es es)[i]? = some d := by rw [List.getElem?_eq_getElem hi, e]
            rw [L3.zip_get] at e'
            cases q1 : es[i]? with
            | none => rw [q1] at e'; cases e'
            | some e1 =>
              rw [q1] at e'
              exact ⟨e1, List.mem_of_getElem? q1, (Option.some.inj e').symm⟩
          obtain ⟨e, he, rfl⟩ := this
          exact ⟨rfl, e, rfl, List.all_eq_true.mp h1 e he, hk _ ⟨_, _, rfl⟩⟩
        · refine elim_of lst_new (elim_of (bls_map (fun _ => true) (zipD es es)) ⟨M, .new hp, ?_⟩)
          have : ((zipD es es).map fun _ => true).all id = true := by
            rw [List.all_map]
            exact List.all_eq_true.mpr fun _ _ => rfl
          rw [this]
          exact q
    | _ => cases n <;> cases hd
theorem ok_alike (G : Gl K mg a) : ∀ n, Fn3 P w K mg base (n + 1) a.f_law_alike a.fd_law_alike ["_law_found", "_law_due"] (sp_alike n)
  | 0 => step_alike G 0 vac
  | n + 1 => step_alike G (n + 1) (ok_alike G n)
end
end K11
namespace K11
open PySem PySem.Spec PyProof.Rows L2 L3
def sp_winit (K : PySem.W.Frag) : Sp3 := fun ds M Q => ∃ p d C, ds = [.ref p, d] ∧ M p = some (.ins C []) ∧ NoAttr K C "form" ∧ Q .non (updM M p (.ins C [("form", d)]))
def sp_finit (K : PySem.W.Frag) : Sp3 := fun ds M Q => ∃ p t x y C, ds = [.ref p, .tup t] ∧ atI t 1 = some x ∧ atI t 2 = some y ∧ M p = some (.ins C []) ∧ NoAttr K C "form" ∧ NoAttr K C "target" ∧ NoAttr K C "goal" ∧ Q .non (updM M p (.ins C [("form", .tup t), ("target", x), ("goal", y)]))
def sp_init (a : Ad) (k : Wi → Prop) : Sp3 := fun ds M Q => ∃ p v, ds = [.ref p, .tup (Wi.told v)] ∧ k v ∧ M p = some (.ins (v.cls a) []) ∧ Q .non (updM M p (.ins (v.cls a) v.flds))
section
variable {P : Program} {w : World} {K : PySem.W.Frag} {mg : Str → Option Value} {base : Heap} {a : Ad}
theorem ok_winit (G : Gl K mg a) : Fn3 P w K mg base 1 a.f_Wish_init a.fd_Wish_init ["self", "told"] (sp_winit K) := by
  refine fun3s G.fn_Wish_init sc_Wish_init (fun ds M Q h => ?_) (fun cdv A outer s H E hr => ⟨_, (ss3_one (s3_fld (e3_var 0 (pv 0)) (e3_var 1 (pv 1)))), ?_⟩)
  · obtain ⟨p, d, C, rfl, _⟩ := h
    rfl
  · rintro ds M Q ⟨p, d, C, rfl, hp, na, q⟩
    exact ins_of hp ⟨na, by decide, _, .refl, q⟩
theorem ok_finit (G : Gl K mg a) : Fn3 P w K mg base 2 a.f_Forward_init a.fd_Forward_init ["self", "told"] (sp_finit K) := by
  have C_Wish_init := ok_winit (P := P) (w := w) (base := base) G
  refine fun3s G.fn_Forward_init sc_Forward_init (fun ds M Q h => ?_) (fun cdv A outer s H E hr => ⟨_, (ss3_cons (s3_expr (e3_clsm G.cm_Wish_init C_Wish_init (hr.mono (by first | decide | omega)) rfl G.mg_Wish G.kp_Wish_init G.b_Wish_init (a3_cons (e3_var 0 (pv 0)) (a3_cons (e3_var 1 (pv 1)) a3_nil))))
 (ss3_cons (s3_fld (e3_var 0 (pv 0)) (e3_ix (e3_var 1 (pv 1)) e3_int))
 (ss3_one (s3_fld (e3_var 0 (pv 0)) (e3_ix (e3_var 1 (pv 1)) e3_int))))), ?_⟩)
  · obtain ⟨p, t, x, y, C, rfl, _⟩ := h
    rfl
  · rintro ds M Q ⟨p, t, x, y, C, rfl, e1, e2, hp, n1, n2, n3, q⟩
    refine ⟨p, _, C, rfl, hp, n1, elim_of e1 (ins_of updM_same ⟨n2, by show 1 < 1000; decide, ?_⟩)⟩
    refine elim_of e2 (ins_of updM_same ⟨n3, by show 2 < 1000; decide, _, ?_, q⟩)
    rw [updM_updM, updM_updM]
    exact .refl
theorem ok_Bar (G : Gl K mg a) : Fn3 P w K mg base 2 a.f_Bar_init a.fd_Bar_init ["self", "told"] (sp_init a fun v => ∃ x ns, v = .bar x ns) := by
  have C_Wish_init := ok_winit (P := P) (w := w) (base := base) G
  refine fun3s G.fn_Bar_init sc_Bar_init (fun ds M Q h => ?_) (fun cdv A outer s H E hr => ⟨_, (ss3_cons (s3_expr (e3_clsm G.cm_Wish_init C_Wish_init (hr.mono (by first | decide | omega)) rfl G.mg_Wish G.kp_Wish_init G.b_Wish_init (a3_cons (e3_var 0 (pv 0)) (a3_cons (e3_var 1 (pv 1)) a3_nil))))
 (ss3_cons (s3_fld (e3_var 0 (pv 0)) (e3_ix (e3_var 1 (pv 1)) e3_int))
 (ss3_one (s3_fld (e3_var 0 (pv 0)) (e3_ix (e3_var 1 (pv 1)) e3_int))))), ?_⟩)
  · obtain ⟨p, v, rfl, _⟩ := h
    rfl
  · rintro ds M Q ⟨p, v, rfl, ⟨x, ns, rfl⟩, hp, q⟩
    refine ⟨p, _, _, rfl, hp, G.na_Bar_form, ins_of updM_same ⟨G.na_Bar_phone, by show 1 < 1000; decide, ?_⟩⟩
    refine ins_of updM_same ⟨G.na_Bar_targets, by show 2 < 1000; decide, _, ?_, q⟩
    rw [updM_updM, updM_updM]
    exact .refl
theorem ok_Shut (G : Gl K mg a) : Fn3 P w K mg base 2 a.f_Shut_init a.fd_Shut_init ["self", "told"] (sp_init a fun v => ∃ x ns, v = .shut x ns) := by
  have C_Wish_init := ok_winit (P := P) (w := w) (base := base) G
  refine fun3s G.fn_Shut_init sc_Shut_init (fun ds M Q h => ?_) (fun cdv A outer s H E hr => ⟨_, (ss3_cons (s3_expr (e3_clsm G.cm_Wish_init C_Wish_init (hr.mono (by first | decide | omega)) rfl G.mg_Wish G.kp_Wish_init G.b_Wish_init (a3_cons (e3_var 0 (pv 0)) (a3_cons (e3_var 1 (pv 1)) a3_nil))))
 (ss3_cons (s3_fld (e3_var 0 (pv 0)) (e3_ix (e3_var 1 (pv 1)) e3_int))
 (ss3_one (s3_fld (e3_var 0 (pv 0)) (e3_ix (e3_var 1 (pv 1)) e3_int))))), ?_⟩)
  · obtain ⟨p, v, rfl, _⟩ := h
    rfl
  · rintro ds M Q ⟨p, v, rfl, ⟨x, ns, rfl⟩, hp, q⟩
    refine ⟨p, _, _, rfl, hp, G.na_Shut_form, ins_of updM_same ⟨G.na_Shut_target, by show 1 < 1000; decide, ?_⟩⟩
    refine ins_of updM_same ⟨G.na_Shut_callers, by show 2 < 1000; decide, _, ?_, q⟩
    rw [updM_updM, updM_updM]
    exact .refl
theorem ok_Night (G : Gl K mg a) : Fn3 P w K mg base 3 a.f_Night_init a.fd_Night_init ["self", "told"] (sp_init a fun v => ∃ x y f l, v = .night x y f l) := by
  have C_Forward_init := ok_finit (P := P) (w := w) (base := base) G
  refine fun3s G.fn_Night_init sc_Night_init (fun ds M Q h => ?_) (fun cdv A outer s H E hr => ⟨_, (ss3_cons (s3_expr (e3_clsm G.cm_Forward_init C_Forward_init (hr.mono (by first | decide | omega)) rfl G.mg_Forward G.kp_Forward_init G.b_Forward_init (a3_cons (e3_var 0 (pv 0)) (a3_cons (e3_var 1 (pv 1)) a3_nil))))
 (ss3_cons (s3_fld (e3_var 0 (pv 0)) (e3_ix (e3_var 1 (pv 1)) e3_int))
 (ss3_one (s3_fld (e3_var 0 (pv 0)) (e3_ix (e3_var 1 (pv 1)) e3_int))))), ?_⟩)
  · obtain ⟨p, v, rfl, _⟩ := h
    rfl
  · rintro ds M Q ⟨p, v, rfl, ⟨x, y, f, l, rfl⟩, hp, q⟩
    refine ⟨p, _, _, _, _, rfl, rfl, rfl, hp, G.na_Night_form, G.na_Night_target, G.na_Night_goal, ins_of updM_same ⟨G.na_Night_first, by show 3 < 1000; decide, ?_⟩⟩
    refine ins_of updM_same ⟨G.na_Night_last, by show 4 < 1000; decide, _, ?_, q⟩
    rw [updM_updM, updM_updM]
    exact .refl
theorem ok_Silent (G : Gl K mg a) : Fn3 P w K mg base 3 a.f_Silent_init a.fd_Silent_init ["self", "told"] (sp_init a fun v => ∃ x y n, v = .silent x y n) := by
  have C_Forward_init := ok_finit (P := P) (w := w) (base := base) G
  refine fun3s G.fn_Silent_init sc_Silent_init (fun ds M Q h => ?_) (fun cdv A outer s H E hr => ⟨_, (ss3_cons (s3_expr (e3_clsm G.cm_Forward_init C_Forward_init (hr.mono (by first | decide | omega)) rfl G.mg_Forward G.kp_Forward_init G.b_Forward_init (a3_cons (e3_var 0 (pv 0)) (a3_cons (e3_var 1 (pv 1)) a3_nil))))
 (ss3_one (s3_fld (e3_var 0 (pv 0)) (e3_ix (e3_var 1 (pv 1)) e3_int)))), ?_⟩)
  · obtain ⟨p, v, rfl, _⟩ := h
    rfl
  · rintro ds M Q ⟨p, v, rfl, ⟨x, y, n, rfl⟩, hp, q⟩
    refine ⟨p, _, _, _, _, rfl, rfl, rfl, hp, G.na_Silent_form, G.na_Silent_target, G.na_Silent_goal, ins_of updM_same ⟨G.na_Silent_turns, by show 3 < 1000; decide, _, ?_, q⟩⟩
    rw [updM_updM]
    exact .refl
theorem ok_Wait (G : Gl K mg a) : Fn3 P w K mg base 2 a.f_Wait_init a.fd_Wait_init ["self", "told"] (sp_init a fun v => ∃ x, v = .wait x) := by
  have C_Wish_init := ok_winit (P := P) (w := w) (base := base) G
  refine fun3s G.fn_Wait_init sc_Wait_init (fun ds M Q h => ?_) (fun cdv A outer s H E hr => ⟨_, (ss3_cons (s3_expr (e3_clsm G.cm_Wish_init C_Wish_init (hr.mono (by first | decide | omega)) rfl G.mg_Wish G.kp_Wish_init G.b_Wish_init (a3_cons (e3_var 0 (pv 0)) (a3_cons (e3_var 1 (pv 1)) a3_nil))))
 (ss3_one (s3_fld (e3_var 0 (pv 0)) (e3_ix (e3_var 1 (pv 1)) e3_int)))), ?_⟩)
  · obtain ⟨p, v, rfl, _⟩ := h
    rfl
  · rintro ds M Q ⟨p, v, rfl, ⟨x, rfl⟩, hp, q⟩
    refine ⟨p, _, _, rfl, hp, G.na_Wait_form, ins_of updM_same ⟨G.na_Wait_phone, by show 1 < 1000; decide, _, ?_, q⟩⟩
    rw [updM_updM]
    exact .refl
theorem ok_Breaks (G : Gl K mg a) : Fn3 P w K mg base 2 a.f_Breaks_init a.fd_Breaks_init ["self", "told"] (sp_init a fun v => ∃ x, v = .breaks x) := by
  have C_Wish_init := ok_winit (P := P) (w := w) (base := base) G
  refine fun3s G.fn_Breaks_init sc_Breaks_init (fun ds M Q h => ?_) (fun cdv A outer s H E hr => ⟨_, (ss3_cons (s3_expr (e3_clsm G.cm_Wish_init C_Wish_init (hr.mono (by first | decide | omega)) rfl G.mg_Wish G.kp_Wish_init G.b_Wish_init (a3_cons (e3_var 0 (pv 0)) (a3_cons (e3_var 1 (pv 1)) a3_nil))))
 (ss3_one (s3_fld (e3_var 0 (pv 0)) (e3_ix (e3_var 1 (pv 1)) e3_int)))), ?_⟩)
  · obtain ⟨p, v, rfl, _⟩ := h
    rfl
  · rintro ds M Q ⟨p, v, rfl, ⟨x, rfl⟩, hp, q⟩
    refine ⟨p, _, _, rfl, hp, G.na_Breaks_form, ins_of updM_same ⟨G.na_Breaks_phone, by show 1 < 1000; decide, _, ?_, q⟩⟩
    rw [updM_updM]
    exact .refl
end
end K11
namespace K11
open PySem PySem.Spec PyProof.Rows L2 L3
def sp_wish_of (a : Ad) : Sp3 := fun ds M Q => ∃ v : Wi, ds = [.tup v.told] ∧ ∀ p, M p = none → Q (.ref p) (updM M p (.ins (v.cls a) v.flds))
def sp_told (a : Ad) : Sp3 := fun ds M Q => ∃ p, ∃ v : Wi, ds = [.ref p] ∧ M p = some (.ins (v.cls a) v.flds) ∧ Q (.tup v.told) M
def sp_end : Sp3 := fun ds M Q => ∃ p, ds = [.ref p] ∧ Q (.tup [.str "end"]) M
def sp_brk : Sp3 := fun ds M Q => ∃ p, ds = [.ref p] ∧ Q (.tup [.str "break"]) M
def sp_to : Sp3 := fun ds M Q => ∃ p C fs y, ds = [.ref p] ∧ M p = some (.ins C fs) ∧ fs.lookup ("goal" : Str) = some y ∧ Q (.tup [.str "to", y]) M
def sp_wt : Sp3 := fun ds M Q => ∃ p C fs y, ds = [.ref p] ∧ M p = some (.ins C fs) ∧ fs.lookup ("phone" : Str) = some y ∧ Q (.tup [.str "wait", y]) M
def R_told (a : Ad) : Addr → Sp3 → Prop := fun C sp => (∃ v : Wi, C = v.cls a) ∧ sp = sp_told a
def R_wants (a : Ad) : Addr → Sp3 → Prop := fun C sp => ((C = a.c_Bar ∨ C = a.c_Shut) ∧ sp = sp_end) ∨ ((C = a.c_Always ∨ C = a.c_Night ∨ C = a.c_Busy ∨ C = a.c_Silent) ∧ sp = sp_to) ∨ (C = a.c_Wait ∧ sp = sp_wt) ∨ (C = a.c_Breaks ∧ sp = sp_brk)
def Wi.idx : Wi → Nat
  | .bar _ _ => 0
  | .shut _ _ => 1
  | .always _ _ => 2
  | .night _ _ _ _ => 3
  | .busy _ _ => 4
  | .silent _ _ _ => 5
  | .wait _ => 6
  | .breaks _ => 7
def Wi.is (v : Wi) (j : Nat) : Bool := v.idx == j
def sp_ofc (a : Ad) : Sp3 := fun ds M Q => ∃ p, ∃ v : Wi, ds = [.ref p, .str v.word] ∧ M p = some (.ins (v.cls a) v.flds) ∧ Q (.bl true) M
section
variable {P : Program} {w : World} {K : PySem.W.Frag} {mg : Str → Option Value} {base : Heap} {a : Ad}
theorem ok_wish_of (G : Gl K mg a) : Fn3 P w K mg base 5 a.f_wish_of a.fd_wish_of ["told"] (sp_wish_of a) := by
  have C_Bar_init := ok_Bar (P := P) (w := w) (base := base) G
  have C_Shut_init := ok_Shut (P := P) (w := w) (base := base) G
  have C_Always_init := ok_finit (P := P) (w := w) (base := base) G
  have C_Busy_init := ok_finit (P := P) (w := w) (base := base) G
  have C_Silent_init := ok_Silent (P := P) (w := w) (base := base) G
  have C_Night_init := ok_Night (P := P) (w := w) (base := base) G
  have C_Wait_init := ok_Wait (P := P) (w := w) (base := base) G
  have C_Breaks_init := ok_Breaks (P := P) (w := w) (base := base) G
  refine fun3s G.fn_wish_of sc_wish_of (fun ds M Q h => ?_) (fun cdv A outer s H E hr => ⟨_, (ss3_cons (s3_set (i := 1) sc_wish_of.nd rfl (Or.inl rfl) (e3_ix (e3_var 0 (pv 0)) e3_int))
 (ss3_cons (s3_if (b3_cmp (hu9 hr) (e3_var 1 (pv 1)) e3_str)
 (ss3_one (s3_ret (e3_make G.cl_Bar G.mk_Bar C_Bar_init (hr.mono (by first | decide | omega)) rfl G.mg_Bar G.b_Bar_init (a3_cons (e3_var 0 (pv 0)) a3_nil))))
 ss3_nil)
 (ss3_cons (s3_if (b3_cmp (hu9 hr) (e3_var 1 (pv 1)) e3_str)
 (ss3_one (s3_ret (e3_make G.cl_Shut G.mk_Shut C_Shut_init (hr.mono (by first | decide | omega)) rfl G.mg_Shut G.b_Shut_init (a3_cons (e3_var 0 (pv 0)) a3_nil))))
 ss3_nil)
 (ss3_cons (s3_if (b3_cmp (hu9 hr) (e3_var 1 (pv 1)) e3_str)
 (ss3_one (s3_ret (e3_make G.cl_Always G.mk_Always C_Always_init (hr.mono (by first | decide | omega)) rfl G.mg_Always G.b_Forward_init (a3_cons (e3_var 0 (pv 0)) a3_nil))))
 ss3_nil)
 (ss3_cons (s3_if (b3_cmp (hu9 hr) (e3_var 1 (pv 1)) e3_str)
 (ss3_one (s3_ret (e3_make G.cl_Night G.mk_Night C_Night_init (hr.mono (by first | decide | omega)) rfl G.mg_Night G.b_Night_init (a3_cons (e3_var 0 (pv 0)) a3_nil))))
 ss3_nil)
 (ss3_cons (s3_if (b3_cmp (hu9 hr) (e3_var 1 (pv 1)) e3_str)
 (ss3_one (s3_ret (e3_make G.cl_Busy G.mk_Busy C_Busy_init (hr.mono (by first | decide | omega)) rfl G.mg_Busy G.b_Forward_init (a3_cons (e3_var 0 (pv 0)) a3_nil))))
 ss3_nil)
 (ss3_cons (s3_if (b3_cmp (hu9 hr) (e3_var 1 (pv 1)) e3_str)
 (ss3_one (s3_ret (e3_make G.cl_Silent G.mk_Silent C_Silent_init (hr.mono (by first | decide | omega)) rfl G.mg_Silent G.b_Silent_init (a3_cons (e3_var 0 (pv 0)) a3_nil))))
 ss3_nil)
 (ss3_cons (s3_if (b3_cmp (hu9 hr) (e3_var 1 (pv 1)) e3_str)
 (ss3_one (s3_ret (e3_make G.cl_Wait G.mk_Wait C_Wait_init (hr.mono (by first | decide | omega)) rfl G.mg_Wait G.b_Wait_init (a3_cons (e3_var 0 (pv 0)) a3_nil))))
 ss3_nil)
 (ss3_cons (s3_if (b3_cmp (hu9 hr) (e3_var 1 (pv 1)) e3_str)
 (ss3_one (s3_ret (e3_make G.cl_Breaks G.mk_Breaks C_Breaks_init (hr.mono (by first | decide | omega)) rfl G.mg_Breaks G.b_Breaks_init (a3_cons (e3_var 0 (pv 0)) a3_nil))))
 ss3_nil)
 (ss3_one s3_never)))))))))), ?_⟩)
  · obtain ⟨v, rfl, _⟩ := h
    rfl
  · rintro ds M Q ⟨v, rfl, q⟩
    have fin : ∀ (x : Addr) (c0 c1 : Cell) (C : Addr) (fs : List (Str × D)), M x = none → Q (.ref x) (updM M x c1) → ∃ M'', L3.Sub M'' (updM (updM M x c0) x c1) ∧ Q (.ref x) M'' := fun x c0 c1 C fs hx q => ⟨_, by rw [updM_updM]; exact .refl, q⟩
    cases v with
    | bar x ns => exact fun p hp => ⟨p, .bar x ns, rfl, ⟨_, _, rfl⟩, updM_same, rfl, fin p _ _ 0 [] hp (q p hp)⟩
    | shut x ns => exact fun p hp => ⟨p, .shut x ns, rfl, ⟨_, _, rfl⟩, updM_same, rfl, fin p _ _ 0 [] hp (q p hp)⟩
    | always x y => exact fun p hp => ⟨p, _, _, _, _, rfl, rfl, rfl, updM_same, G.na_Always_form, G.na_Always_target, G.na_Always_goal, rfl, fin p _ _ 0 [] hp (q p hp)⟩
    | night x y f l => exact fun p hp => ⟨p, .night x y f l, rfl, ⟨_, _, _, _, rfl⟩, updM_same, rfl, fin p _ _ 0 [] hp (q p hp)⟩
    | busy x y => exact fun p hp => ⟨p, _, _, _, _, rfl, rfl, rfl, updM_same, G.na_Busy_form, G.na_Busy_target, G.na_Busy_goal, rfl, fin p _ _ 0 [] hp (q p hp)⟩
    | silent x y n => exact fun p hp => ⟨p, .silent x y n, rfl, ⟨_, _, _, rfl⟩, updM_same, rfl, fin p _ _ 0 [] hp (q p hp)⟩
    | wait x => exact fun p hp => ⟨p, .wait x, rfl, ⟨_, rfl⟩, updM_same, rfl, fin p _ _ 0 [] hp (q p hp)⟩
    | breaks x => exact fun p hp => ⟨p, .breaks x, rfl, ⟨_, rfl⟩, updM_same, rfl, fin p _ _ 0 [] hp (q p hp)⟩
theorem ok_told (G : Gl K mg a) : Fn3 P w K mg base 1 a.f_Wish_told a.fd_Wish_told ["self"] (sp_told a) := by
  refine fun3s G.fn_Wish_told sc_Wish_told (fun ds M Q h => ?_) (fun cdv A outer s H E hr => ⟨_, (ss3_one (s3_ret (e3_fld (e3_var 0 (pv 0))))), ?_⟩)
  · obtain ⟨p, v, rfl, _⟩ := h
    rfl
  · rintro ds M Q ⟨p, v, rfl, hp, q⟩
    exact ins_of hp (elim_of rfl ⟨M, .refl, q⟩)
theorem ok_wBar (G : Gl K mg a) : Fn3 P w K mg base 1 a.f_Bar_wants a.fd_Bar_wants ["self"] sp_end := by
  refine fun3s G.fn_Bar_wants sc_Bar_wants (fun ds M Q h => ?_) (fun cdv A outer s H E hr => ⟨_, (ss3_one (s3_ret (e3_tup (a3_cons e3_str a3_nil)))), ?_⟩)
  · obtain ⟨p, rfl, _⟩ := h
    rfl
  · rintro ds M Q ⟨p, rfl, q⟩
    exact ⟨few rfl, M, .refl, q⟩
theorem ok_wShut (G : Gl K mg a) : Fn3 P w K mg base 1 a.f_Shut_wants a.fd_Shut_wants ["self"] sp_end := by
  refine fun3s G.fn_Shut_wants sc_Shut_wants (fun ds M Q h => ?_) (fun cdv A outer s H E hr => ⟨_, (ss3_one (s3_ret (e3_tup (a3_cons e3_str a3_nil)))), ?_⟩)
  · obtain ⟨p, rfl, _⟩ := h
    rfl
  · rintro ds M Q ⟨p, rfl, q⟩
    exact ⟨few rfl, M, .refl, q⟩
theorem ok_wForward (G : Gl K mg a) : Fn3 P w K mg base 1 a.f_Forward_wants a.fd_Forward_wants ["self"] sp_to := by
  refine fun3s G.fn_Forward_wants sc_Forward_wants (fun ds M Q h => ?_) (fun cdv A outer s H E hr => ⟨_, (ss3_one (s3_ret (e3_tup (a3_cons e3_str (a3_cons (e3_fld (e3_var 0 (pv 0))) a3_nil))))), ?_⟩)
  · obtain ⟨p, C, fs, y, rfl, _⟩ := h
    rfl
  · rintro ds M Q ⟨p, C, fs, y, rfl, hp, e, q⟩
    exact ins_of hp (elim_of e ⟨few rfl, M, .refl, q⟩)
theorem ok_wWait (G : Gl K mg a) : Fn3 P w K mg base 1 a.f_Wait_wants a.fd_Wait_wants ["self"] sp_wt := by
  refine fun3s G.fn_Wait_wants sc_Wait_wants (fun ds M Q h => ?_) (fun cdv A outer s H E hr => ⟨_, (ss3_one (s3_ret (e3_tup (a3_cons e3_str (a3_cons (e3_fld (e3_var 0 (pv 0))) a3_nil))))), ?_⟩)
  · obtain ⟨p, C, fs, y, rfl, _⟩ := h
    rfl
  · rintro ds M Q ⟨p, C, fs, y, rfl, hp, e, q⟩
    exact ins_of hp (elim_of e ⟨few rfl, M, .refl, q⟩)
theorem ok_wBreaks (G : Gl K mg a) : Fn3 P w K mg base 1 a.f_Breaks_wants a.fd_Breaks_wants ["self"] sp_brk := by
  refine fun3s G.fn_Breaks_wants sc_Breaks_wants (fun ds M Q h => ?_) (fun cdv A outer s H E hr => ⟨_, (ss3_one (s3_ret (e3_tup (a3_cons e3_str a3_nil)))), ?_⟩)
  · obtain ⟨p, rfl, _⟩ := h
    rfl
  · rintro ds M Q ⟨p, rfl, q⟩
    exact ⟨few rfl, M, .refl, q⟩
theorem m_told (G : Gl K mg a) : ∀ C sp, R_told a C sp → MethOk P w K mg base 1 "told" C (up3 K sp) := by
  rintro C sp ⟨⟨v, rfl⟩, rfl⟩
  have F := ok_told (P := P) (w := w) (base := base) G
  cases v with
  | bar _ _ => exact ⟨G.cl_Bar, _, _, _, G.mt_Bar_told, F, G.b_Wish_told⟩
  | shut _ _ => exact ⟨G.cl_Shut, _, _, _, G.mt_Shut_told, F, G.b_Wish_told⟩
  | always _ _ => exact ⟨G.cl_Always, _, _, _, G.mt_Always_told, F, G.b_Wish_told⟩
  | night _ _ _ _ => exact ⟨G.cl_Night, _, _, _, G.mt_Night_told, F, G.b_Wish_told⟩
  | busy _ _ => exact ⟨G.cl_Busy, _, _, _, G.mt_Busy_told, F, G.b_Wish_told⟩
  | silent _ _ _ => exact ⟨G.cl_Silent, _, _, _, G.mt_Silent_told, F, G.b_Wish_told⟩
  | wait _ => exact ⟨G.cl_Wait, _, _, _, G.mt_Wait_told, F, G.b_Wish_told⟩
  | breaks _ => exact ⟨G.cl_Breaks, _, _, _, G.mt_Breaks_told, F, G.b_Wish_told⟩
theorem m_wants (G : Gl K mg a) : ∀ C sp, R_wants a C sp → MethOk P w K mg base 1 "wants" C (up3 K sp) := by
  rintro C sp (⟨rfl | rfl, rfl⟩ | ⟨rfl | rfl | rfl | rfl, rfl⟩ | ⟨rfl, rfl⟩ | ⟨rfl, rfl⟩)
  · exact ⟨G.cl_Bar, _, _, _, G.mt_Bar_wants, ok_wBar G, G.b_Bar_wants⟩
  · exact ⟨G.cl_Shut, _, _, _, G.mt_Shut_wants, ok_wShut G, G.b_Shut_wants⟩
  · exact ⟨G.cl_Always, _, _, _, G.mt_Always_wants, ok_wForward G, G.b_Forward_wants⟩
  · exact ⟨G.cl_Night, _, _, _, G.mt_Night_wants, ok_wForward G, G.b_Forward_wants⟩
  · exact ⟨G.cl_Busy, _, _, _, G.mt_Busy_wants, ok_wForward G, G.b_Forward_wants⟩
  · exact ⟨G.cl_Silent, _, _, _, G.mt_Silent_wants, ok_wForward G, G.b_Forward_wants⟩
  · exact ⟨G.cl_Wait, _, _, _, G.mt_Wait_wants, ok_wWait G, G.b_Wait_wants⟩
  · exact ⟨G.cl_Breaks, _, _, _, G.mt_Breaks_wants, ok_wBreaks G, G.b_Breaks_wants⟩
theorem ty_ins {M : Mp} {p C : Addr} {fs : List (Str × D)} (hp : M p = some (.ins C fs)) : tyD M (.ref p) = some (.ref C) := by
  show cellTy (M p) = _
  rw [hp]
  rfl
theorem ci_of {C : Addr} (ci : ClsI K C) : ∀ C', Value.ref C = Value.ref C' → ClsI K C' := fun C' z => by
  cases z
  exact ci
theorem kits0 (G : Gl K mg a) (v : Wi) : PySem.W.kitOne K (.ref (v.cls a)) (.ref a.c_Bar) = some (v.is 0) := by
  cases v with
  | bar _ _ => exact G.ki_Bar_Bar
  | shut _ _ => exact G.ki_Shut_Bar
  | always _ _ => exact G.ki_Always_Bar
  | night _ _ _ _ => exact G.ki_Night_Bar
  | busy _ _ => exact G.ki_Busy_Bar
  | silent _ _ _ => exact G.ki_Silent_Bar
  | wait _ => exact G.ki_Wait_Bar
  | breaks _ => exact G.ki_Breaks_Bar
theorem kits1 (G : Gl K mg a) (v : Wi) : PySem.W.kitOne K (.ref (v.cls a)) (.ref a.c_Shut) = some (v.is 1) := by
  cases v with
  | bar _ _ => exact G.ki_Bar_Shut
  | shut _ _ => exact G.ki_Shut_Shut
  | always _ _ => exact G.ki_Always_Shut
  | night _ _ _ _ => exact G.ki_Night_Shut
  | busy _ _ => exact G.ki_Busy_Shut
  | silent _ _ _ => exact G.ki_Silent_Shut
  | wait _ => exact G.ki_Wait_Shut
  | breaks _ => exact G.ki_Breaks_Shut
theorem kits2 (G : Gl K mg a) (v : Wi) : PySem.W.kitOne K (.ref (v.cls a)) (.ref a.c_Always) = some (v.is 2) := by
  cases v with
  | bar _ _ => exact G.ki_Bar_Always
  | shut _ _ => exact G.ki_Shut_Always
  | always _ _ => exact G.ki_Always_Always
  | night _ _ _ _ => exact G.ki_Night_Always
  | busy _ _ => exact G.ki_Busy_Always
  | silent _ _ _ => exact G.ki_Silent_Always
  | wait _ => exact G.ki_Wait_Always
  | breaks _ => exact G.ki_Breaks_Always
theorem kits3 (G : Gl K mg a) (v : Wi) : PySem.W.kitOne K (.ref (v.cls a)) (.ref a.c_Night) = some (v.is 3) := by
  cases v with
  | bar _ _ => exact G.ki_Bar_Night
  | shut _ _ => exact G.ki_Shut_Night
  | always _ _ => exact G.ki_Always_Night
  | night _ _ _ _ => exact G.ki_Night_Night
  | busy _ _ => exact G.ki_Busy_Night
  | silent _ _ _ => exact G.ki_Silent_Night
  | wait _ => exact G.ki_Wait_Night
  | breaks _ => exact G.ki_Breaks_Night
theorem kits4 (G : Gl K mg a) (v : Wi) : PySem.W.kitOne K (.ref (v.cls a)) (.ref a.c_Busy) = some (v.is 4) := by
  cases v with
  | bar _ _ => exact G.ki_Bar_Busy
  | shut _ _ => exact G.ki_Shut_Busy
  | always _ _ => exact G.ki_Always_Busy
  | night _ _ _ _ => exact G.ki_Night_Busy
  | busy _ _ => exact G.ki_Busy_Busy
  | silent _ _ _ => exact G.ki_Silent_Busy
  | wait _ => exact G.ki_Wait_Busy
  | breaks _ => exact G.ki_Breaks_Busy
theorem kits5 (G : Gl K mg a) (v : Wi) : PySem.W.kitOne K (.ref (v.cls a)) (.ref a.c_Silent) = some (v.is 5) := by
  cases v with
  | bar _ _ => exact G.ki_Bar_Silent
  | shut _ _ => exact G.ki_Shut_Silent
  | always _ _ => exact G.ki_Always_Silent
  | night _ _ _ _ => exact G.ki_Night_Silent
  | busy _ _ => exact G.ki_Busy_Silent
  | silent _ _ _ => exact G.ki_Silent_Silent
  | wait _ => exact G.ki_Wait_Silent
  | breaks _ => exact G.ki_Breaks_Silent
theorem kits6 (G : Gl K mg a) (v : Wi) : PySem.W.kitOne K (.ref (v.cls a)) (.ref a.c_Wait) = some (v.is 6) := by
  cases v with
  | bar _ _ => exact G.ki_Bar_Wait
  | shut _ _ => exact G.ki_Shut_Wait
  | always _ _ => exact G.ki_Always_Wait
  | night _ _ _ _ => exact G.ki_Night_Wait
  | busy _ _ => exact G.ki_Busy_Wait
  | silent _ _ _ => exact G.ki_Silent_Wait
  | wait _ => exact G.ki_Wait_Wait
  | breaks _ => exact G.ki_Breaks_Wait
theorem kits7 (G : Gl K mg a) (v : Wi) : PySem.W.kitOne K (.ref (v.cls a)) (.ref a.c_Breaks) = some (v.is 7) := by
  cases v with
  | bar _ _ => exact G.ki_Bar_Breaks
  | shut _ _ => exact G.ki_Shut_Breaks
  | always _ _ => exact G.ki_Always_Breaks
  | night _ _ _ _ => exact G.ki_Night_Breaks
  | busy _ _ => exact G.ki_Busy_Breaks
  | silent _ _ _ => exact G.ki_Silent_Breaks
  | wait _ => exact G.ki_Wait_Breaks
  | breaks _ => exact G.ki_Breaks_Breaks
theorem kits8 (G : Gl K mg a) (v : Wi) : PySem.W.kitOne K (.ref (v.cls a)) (.ref a.c_Wish) = some true := by
  cases v with
  | bar _ _ => exact G.ki_Bar_Wish
  | shut _ _ => exact G.ki_Shut_Wish
  | always _ _ => exact G.ki_Always_Wish
  | night _ _ _ _ => exact G.ki_Night_Wish
  | busy _ _ => exact G.ki_Busy_Wish
  | silent _ _ _ => exact G.ki_Silent_Wish
  | wait _ => exact G.ki_Wait_Wish
  | breaks _ => exact G.ki_Breaks_Wish
theorem kits_ci (G : Gl K mg a) (v : Wi) : ClsI K (v.cls a) := by
  cases v with
  | bar _ _ => exact G.ci_Bar
  | shut _ _ => exact G.ci_Shut
  | always _ _ => exact G.ci_Always
  | night _ _ _ _ => exact G.ci_Night
  | busy _ _ => exact G.ci_Busy
  | silent _ _ _ => exact G.ci_Silent
  | wait _ => exact G.ci_Wait
  | breaks _ => exact G.ci_Breaks
theorem ok_ofc (G : Gl K mg a) : Fn3 P w K mg base 1 a.f_law_of_class a.fd_law_of_class ["_law_wish_here", "_law_word_here"] (sp_ofc a) := by
  refine fun3s G.fn_law_of_class sc_law_of_class (fun ds M Q h => ?_) (fun cdv A outer s H E hr => ⟨_, (ss3_cons (s3_set (i := 2) sc_law_of_class.nd rfl (Or.inl rfl) (e3_lst (a3_cons (e3_callB c3_isinst rfl G.no_isinstance bt_isinstance (a3_cons (e3_var 0 (pv 0)) (a3_cons (e3_glob rfl G.mg_Bar) a3_nil))) (a3_cons (e3_callB c3_isinst rfl G.no_isinstance bt_isinstance (a3_cons (e3_var 0 (pv 0)) (a3_cons (e3_glob rfl G.mg_Shut) a3_nil))) (a3_cons (e3_callB c3_isinst rfl G.no_isinstance bt_isinstance (a3_cons (e3_var 0 (pv 0)) (a3_cons (e3_glob rfl G.mg_Always) a3_nil))) (a3_cons (e3_callB c3_isinst rfl G.no_isinstance bt_isinstance (a3_cons (e3_var 0 (pv 0)) (a3_cons (e3_glob rfl G.mg_Night) a3_nil))) a3_nil))))))
 (ss3_cons (s3_set (i := 2) sc_law_of_class.nd rfl (Or.inl rfl) (e3_op (e3_var 2 (pv 2)) (e3_lst (a3_cons (e3_callB c3_isinst rfl G.no_isinstance bt_isinstance (a3_cons (e3_var 0 (pv 0)) (a3_cons (e3_glob rfl G.mg_Busy) a3_nil))) (a3_cons (e3_callB c3_isinst rfl G.no_isinstance bt_isinstance (a3_cons (e3_var 0 (pv 0)) (a3_cons (e3_glob rfl G.mg_Silent) a3_nil))) (a3_cons (e3_callB c3_isinst rfl G.no_isinstance bt_isinstance (a3_cons (e3_var 0 (pv 0)) (a3_cons (e3_glob rfl G.mg_Wait) a3_nil))) (a3_cons (e3_callB c3_isinst rfl G.no_isinstance bt_isinstance (a3_cons (e3_var 0 (pv 0)) (a3_cons (e3_glob rfl G.mg_Breaks) a3_nil))) a3_nil)))))))
 (ss3_cons (s3_set (i := 3) sc_law_of_class.nd rfl (Or.inl rfl) (e3_lst (a3_cons e3_str (a3_cons e3_str (a3_cons e3_str (a3_cons e3_str (a3_cons e3_str (a3_cons e3_str (a3_cons e3_str (a3_cons e3_str a3_nil))))))))))
 (ss3_one (s3_ret (e3_and (e3_callB c3_isinst rfl G.no_isinstance bt_isinstance (a3_cons (e3_var 0 (pv 0)) (a3_cons (e3_glob rfl G.mg_Wish) a3_nil))) (e3_one (e3_ix (e3_var 2 (pv 2)) (e3_bm_index (e3_var 3 (pv 3)) (a3_cons (e3_var 1 (pv 1)) a3_nil)))))))))), ?_⟩)
  · obtain ⟨p, v, rfl, _⟩ := h
    rfl
  · rintro ds M Q ⟨p, v, rfl, hp, q⟩
    have ci := kits_ci G v
    have hz : sizeLine = 16777216 := sizeLine_eq
    refine elim_of (ty_ins hp) ⟨ci_of ci, elim_of (kits0 G v) ?_⟩
    refine elim_of (ty_ins hp) ⟨ci_of ci, elim_of (kits1 G v) ?_⟩
    refine elim_of (ty_ins hp) ⟨ci_of ci, elim_of (kits2 G v) ?_⟩
    refine elim_of (ty_ins hp) ⟨ci_of ci, elim_of (kits3 G v) ?_⟩
    refine ⟨few rfl, fun l1 n1 => ?_⟩
    have s1 : L3.Sub M (updM M l1 (.lst [.bl (v.is 0), .bl (v.is 1), .bl (v.is 2), .bl (v.is 3)])) := .new n1
    have hp1 := s1 _ _ hp
    refine elim_of (ty_ins hp1) ⟨ci_of ci, elim_of (kits4 G v) ?_⟩
    refine elim_of (ty_ins hp1) ⟨ci_of ci, elim_of (kits5 G v) ?_⟩
    refine elim_of (ty_ins hp1) ⟨ci_of ci, elim_of (kits6 G v) ?_⟩
    refine elim_of (ty_ins hp1) ⟨ci_of ci, elim_of (kits7 G v) ?_⟩
    refine ⟨few rfl, fun l2 n2 => ?_⟩
    have s2 : L3.Sub (updM M l1 (.lst [.bl (v.is 0), .bl (v.is 1), .bl (v.is 2), .bl (v.is 3)])) (updM (updM M l1 (.lst [.bl (v.is 0), .bl (v.is 1), .bl (v.is 2), .bl (v.is 3)])) l2 (.lst [.bl (v.is 4), .bl (v.is 5), .bl (v.is 6), .bl (v.is 7)])) := .new n2
    refine elim_of (s2.lst lst_new) (elim_of lst_new ⟨by show 4 + 4 ≤ sizeLine; omega, fun l3 n3 => ⟨few rfl, fun l4 n4 => ?_⟩⟩)
    have s3 := L3.Sub.new (c := .lst ([.bl (v.is 0), .bl (v.is 1), .bl (v.is 2), .bl (v.is 3)] ++ [.bl (v.is 4), .bl (v.is 5), .bl (v.is 6), .bl (v.is 7)])) n3
    have s4 := L3.Sub.new (c := .lst [.str "bar", .str "shut", .str "always", .str "night", .str "busy", .str "silent", .str "wait", .str "breaks"]) n4
    have hp4 := s4 _ _ (s3 _ _ (s2 _ _ hp1))
    refine elim_of (ty_ins hp4) ⟨ci_of ci, elim_of (kits8 G v) ?_⟩
    refine iteT ?_
    refine ⟨by show (lstM _ l4).isSome = true; rw [lst_new]; rfl, elim_of lst_new ⟨rfl, rfl, elim_of (x := v.idx) (by cases v <;> rfl) (elim_of (s4.lst lst_new) (elim_of (x := .bl true) ?_ ⟨M, s1.trans (s2.trans (s3.trans s4)), q⟩))⟩⟩
    cases v <;> rfl
end
end K11
namespace K11
open PySem PySem.Spec PyProof.Rows L2 L3
def ownN (s : Int) : Nat := (2 + draw s 48271 7).toNat
def ownW (s : Int) : List Str := (List.range (ownN s)).map fun k => word s (0 + (k : Nat))
def okW (v : Wi) : Prop := okD 2 (.tup v.told) = true
theorem someN_le {row : List Str} {c m : Int} (hr : row ≠ []) (hm : 0 < m) (h : row.length ≤ 64) : someN row c m ≤ 64 := by
  have hlen : 0 < row.length := List.length_pos_iff.mpr hr
  have d1 := draw_lt (c := c) (f := 40692) (m := if (row.length : Int) < m then (row.length : Int) else m) (by split <;> omega)
  have d2 : draw c 40692 (if (row.length : Int) < m then (row.length : Int) else m) < row.length + 1 := by
    refine Int.lt_of_lt_of_le d1 ?_
    split <;> omega
  have d3 : draw c 40692 (if (row.length : Int) < m then (row.length : Int) else m) < row.length := by
    refine Int.lt_of_lt_of_le d1 ?_
    split <;> omega
  unfold someN
  omega
theorem okN {row : List Str} {c m : Int} (hr : row ≠ []) (hm : 0 < m) (h : row.length ≤ 64) : okD 1 (names (someW row c m)) = true := by
  show (((someW row c m).map D.str).all (okD 0) && decide (((someW row c m).map D.str).length ≤ 1000)) = true
  rw [Bool.and_eq_true]
  constructor
  · rw [List.all_map]
    exact List.all_eq_true.mpr fun x _ => rfl
  · rw [List.length_map]
    unfold someW
    rw [List.length_map, List.length_range]
    have := someN_le (c := c) hr hm h
    exact decide_eq_true (by omega)
theorem okT {d : D} (h : okD 1 d = true) (x y : Str) : okD 2 (.tup [.str x, .str y, d]) = true := by
  show ((okD 1 (.str x) && (okD 1 (.str y) && (okD 1 d && true))) && decide (3 ≤ 1000)) = true
  rw [h]
  rfl
theorem okW_wish {c : Int} {own all : List Str} (ho : own ≠ []) (ha : all ≠ []) (l1 : own.length ≤ 64) (l2 : all.length ≤ 64) : okW (wishW c own all) := by
  unfold okW wishW
  simp only
  split
  · exact okT (okN ha (by decide) l2) _ _
  · split
    · exact okT (okN ho (by decide) l1) _ _
    · split
      · rfl
      · split
        · rfl
        · split
          · rfl
          · split
            · rfl
            · split <;> rfl
theorem eq_wants (M : Mp) (v u : Wi) : ∃ b, eqD M 9 (.tup v.wants) (.tup u.wants) = some b := by
  cases v <;> cases u <;> exact ⟨_, rfl⟩
theorem ok_w (v : Wi) : okD 2 (.tup v.wants) = true := by cases v <;> rfl
theorem R_of (a : Ad) (v : Wi) : ∃ sp, R_wants a (v.cls a) sp ∧ ∀ p M (Q : DK), M p = some (.ins (v.cls a) v.flds) → Q (.tup v.wants) M → sp [.ref p] M Q := by
  cases v with
  | bar x ns => exact ⟨sp_end, .inl ⟨.inl rfl, rfl⟩, fun p M Q hp q => ⟨p, rfl, q⟩⟩
  | shut x ns => exact ⟨sp_end, .inl ⟨.inr rfl, rfl⟩, fun p M Q hp q => ⟨p, rfl, q⟩⟩
  | always x y => exact ⟨sp_to, .inr (.inl ⟨.inl rfl, rfl⟩), fun p M Q hp q => ⟨p, _, _, _, rfl, hp, rfl, q⟩⟩
  | night x y f l => exact ⟨sp_to, .inr (.inl ⟨.inr (.inl rfl), rfl⟩), fun p M Q hp q => ⟨p, _, _, _, rfl, hp, rfl, q⟩⟩
  | busy x y => exact ⟨sp_to, .inr (.inl ⟨.inr (.inr (.inl rfl)), rfl⟩), fun p M Q hp q => ⟨p, _, _, _, rfl, hp, rfl, q⟩⟩
  | silent x y n => exact ⟨sp_to, .inr (.inl ⟨.inr (.inr (.inr rfl)), rfl⟩), fun p M Q hp q => ⟨p, _, _, _, rfl, hp, rfl, q⟩⟩
  | wait x => exact ⟨sp_wt, .inr (.inr (.inl ⟨rfl, rfl⟩)), fun p M Q hp q => ⟨p, _, _, _, rfl, hp, rfl, q⟩⟩
  | breaks x => exact ⟨sp_brk, .inr (.inr (.inr ⟨rfl, rfl⟩)), fun p M Q hp q => ⟨p, rfl, q⟩⟩
def sp_law : Sp3 := fun ds M Q => ∃ ns : List Int, ds = [.rl (ns.map D.int)] ∧ ns.length ≤ 63 ∧ Q (.bl true) M
section
variable {P : Program} {w : World} {K : PySem.W.Frag} {mg : Str → Option Value} {base : Heap} {a : Ad}
theorem ok_law (G : Gl K mg a) : Fn3 P w K mg base 9 a.f_law a.fd_law ["_law_script"] sp_law := by
  have C_law_at := ok_at (P := P) (w := w) (base := base) G
  have C_law_draw := ok_draw (P := P) (w := w) (base := base) G
  have C_law_word := ok_word (P := P) (w := w) (base := base) G
  have C_law_some := ok_some (P := P) (w := w) (base := base) G
  have C_law_wish := ok_wish (P := P) (w := w) (base := base) G
  have C_law_wants := ok_wants (P := P) (w := w) (base := base) G
  have C_law_of_class := ok_ofc (P := P) (w := w) (base := base) G
  have C_law_alike := ok_alike (P := P) (w := w) (base := base) G 2
  have C_wish_of := ok_wish_of (P := P) (w := w) (base := base) G
  have M_told := m_told (P := P) (w := w) (base := base) G
  have M_wants := m_wants (P := P) (w := w) (base := base) G
  refine fun3s G.fn_law sc_law (fun ds M Q h => ?_) (fun cdv A outer s H E hr => ⟨_, (ss3_cons (s3_set (i := 1) sc_law.nd rfl (Or.inr rfl) (e3_call C_law_at (hr.mono (by first | decide | omega)) rfl G.mg_law_at G.kp_law_at G.b_law_at (a3_cons (e3_var 0 (pv 0)) (a3_cons e3_int a3_nil))))
 (ss3_cons (s3_setComp (i := 2) sc_law.nd rfl (Or.inl rfl) rfl (compS (ix := [none, some 1]) (N' := ["_law_k", "_law_seed"]) (by kernel_rfl)) (i3_range1 rfl G.no_range (a3_cons (e3_op e3_int (e3_call C_law_draw (hr.mono (by first | decide | omega)) rfl G.mg_law_draw G.kp_law_draw G.b_law_draw (a3_cons (e3_var 1 (pv 1)) (a3_cons e3_int (a3_cons e3_int a3_nil))))) a3_nil)) (fun C s0 H0 ex => (g3_name (i := 0) (show List.Nodup (["_law_k", "_law_seed"] : List Str) by decide +kernel) rfl (Or.inl rfl))) (fun C s0 H0 ex => f3_nil) (fun C s0 H0 ex => (e3_call C_law_word (hr.mono (by first | decide | omega)) rfl G.mg_law_word G.kp_law_word G.b_law_word (a3_cons (e3_var 1 (pv 1)) (a3_cons (e3_var 0 (pv 0)) a3_nil)))))
 (ss3_cons (s3_set (i := 3) sc_law.nd rfl (Or.inl rfl) (e3_op (e3_var 2 (pv 2)) (e3_lst (a3_cons (e3_call C_law_word (hr.mono (by first | decide | omega)) rfl G.mg_law_word G.kp_law_word G.b_law_word (a3_cons (e3_var 1 (pv 1)) (a3_cons e3_int a3_nil))) (a3_cons (e3_call C_law_word (hr.mono (by first | decide | omega)) rfl G.mg_law_word G.kp_law_word G.b_law_word (a3_cons (e3_var 1 (pv 1)) (a3_cons e3_int a3_nil))) a3_nil)))))
 (ss3_cons (s3_set (i := 4) sc_law.nd rfl (Or.inl rfl) (e3_tup (a3_cons e3_str a3_nil)))
 (ss3_cons (s3_for PassesOwn.never rfl (i3_enumerate rfl G.no_enumerate (a3_cons (e3_op (e3_var 0 (pv 0)) (e3_lst (a3_cons e3_int a3_nil))) a3_nil)) (g3_tup (n := 2) rfl (gs3_cons (g3_name (i := 5) sc_law.nd rfl (Or.inl rfl)) (gs3_cons (g3_name (i := 6) sc_law.nd rfl (Or.inl rfl)) gs3_nil)))
 (ss3_cons (s3_set (i := 7) sc_law.nd rfl (Or.inl rfl) (e3_call C_law_wish (hr.mono (by first | decide | omega)) rfl G.mg_law_wish G.kp_law_wish G.b_law_wish (a3_cons (e3_op (e3_var 6 (pv 6)) (e3_op (e3_op e3_int (e3_var 5 (pv 5))) (e3_var 5 (pv 5)))) (a3_cons (e3_var 2 (pv 2)) (a3_cons (e3_var 3 (pv 3)) a3_nil)))))
 (ss3_cons (s3_if (b3_cmp (hu9 hr) (e3_ix (e3_var 7 (pv 7)) e3_int) e3_str)
 (ss3_one (s3_set (i := 7) sc_law.nd rfl (Or.inl rfl) (e3_op (e3_slice (e3_var 7 (pv 7)) o3_none (o3_some e3_int)) (e3_tup (a3_cons (e3_op e3_int (e3_call C_law_draw (hr.mono (by first | decide | omega)) rfl G.mg_law_draw G.kp_law_draw G.b_law_draw (a3_cons (e3_op (e3_var 6 (pv 6)) (e3_var 5 (pv 5))) (a3_cons e3_int (a3_cons e3_int a3_nil))))) a3_nil)))))
 ss3_nil)
 (ss3_cons (s3_if (W3.b3 (w3_and (b3_cmp (hu9 hr) (e3_ix (e3_var 7 (pv 7)) e3_int) (e3_tup (a3_cons e3_str (a3_cons e3_str a3_nil)))) (w3_and1 (b3_cmp (hu9 hr) (e3_call C_law_draw (hr.mono (by first | decide | omega)) rfl G.mg_law_draw G.kp_law_draw G.b_law_draw (a3_cons (e3_op (e3_var 6 (pv 6)) (e3_var 5 (pv 5))) (a3_cons e3_int (a3_cons e3_int a3_nil)))) e3_int))))
 (ss3_one (s3_set (i := 7) sc_law.nd rfl (Or.inl rfl) (e3_op (e3_slice (e3_var 7 (pv 7)) o3_none (o3_some e3_int)) (e3_tup (a3_cons (e3_call C_law_some (hr.mono (by first | decide | omega)) rfl G.mg_law_some G.kp_law_some G.b_law_some (a3_cons (e3_var 2 (pv 2)) (a3_cons (e3_op (e3_var 6 (pv 6)) (e3_var 5 (pv 5))) (a3_cons e3_int a3_nil)))) a3_nil)))))
 ss3_nil)
 (ss3_cons (s3_set (i := 8) sc_law.nd rfl (Or.inl rfl) (e3_call C_wish_of (hr.mono (by first | decide | omega)) rfl G.mg_wish_of G.kp_wish_of G.b_wish_of (a3_cons (e3_var 7 (pv 7)) a3_nil)))
 (ss3_cons (s3_if (W3.b3 (w3_or (b3_not (b3_of (e3_call C_law_of_class (hr.mono (by first | decide | omega)) rfl G.mg_law_of_class G.kp_law_of_class G.b_law_of_class (a3_cons (e3_var 8 (pv 8)) (a3_cons (e3_ix (e3_var 7 (pv 7)) e3_int) a3_nil))))) (w3_or1 (b3_not (b3_of (e3_call C_law_alike (hr.mono (by first | decide | omega)) rfl G.mg_law_alike G.kp_law_alike G.b_law_alike (a3_cons (e3_meth0 (R := R_told a) (e3_var 8 (pv 8)) M_told (hr.mono (by first | decide | omega))) (a3_cons (e3_var 7 (pv 7)) a3_nil))))))))
 (ss3_one (s3_ret e3_bl))
 ss3_nil)
 (ss3_cons (s3_set (i := 9) sc_law.nd rfl (Or.inl rfl) (e3_meth0 (R := R_wants a) (e3_var 8 (pv 8)) M_wants (hr.mono (by first | decide | omega))))
 (ss3_cons (s3_if (W3.b3 (w3_or (b3_not (b3_of (e3_call C_law_alike (hr.mono (by first | decide | omega)) rfl G.mg_law_alike G.kp_law_alike G.b_law_alike (a3_cons (e3_var 9 (pv 9)) (a3_cons (e3_call C_law_wants (hr.mono (by first | decide | omega)) rfl G.mg_law_wants G.kp_law_wants G.b_law_wants (a3_cons (e3_var 7 (pv 7)) a3_nil)) a3_nil))))) (w3_or1 (b3_not (b3_of (e3_call C_law_alike (hr.mono (by first | decide | omega)) rfl G.mg_law_alike G.kp_law_alike G.b_law_alike (a3_cons (e3_meth0 (R := R_told a) (e3_var 8 (pv 8)) M_told (hr.mono (by first | decide | omega))) (a3_cons (e3_var 7 (pv 7)) a3_nil))))))))
 (ss3_one (s3_ret e3_bl))
 ss3_nil)
 (ss3_cons (s3_if (W3.b3 (w3_or (b3_cmp (hu9 hr) (e3_cmp (hu9 hr) (e3_var 9 (pv 9)) (e3_var 4 (pv 4))) (e3_cmp (hu9 hr) (e3_call C_law_wants (hr.mono (by first | decide | omega)) rfl G.mg_law_wants G.kp_law_wants G.b_law_wants (a3_cons (e3_var 7 (pv 7)) a3_nil)) (e3_var 4 (pv 4)))) (w3_or1 (b3_not (b3_of (e3_call C_law_alike (hr.mono (by first | decide | omega)) rfl G.mg_law_alike G.kp_law_alike G.b_law_alike (a3_cons (e3_meth0 (R := R_wants a) (e3_var 8 (pv 8)) M_wants (hr.mono (by first | decide | omega))) (a3_cons (e3_var 9 (pv 9)) a3_nil))))))))
 (ss3_one (s3_ret e3_bl))
 ss3_nil)
 (ss3_one (s3_set (i := 4) sc_law.nd rfl (Or.inl rfl) (e3_var 9 (pv 9)))))))))))))
 (ss3_one (s3_ret e3_bl))))))), ?_⟩)
  · obtain ⟨ns, rfl, _⟩ := h
    rfl
  · rintro ds M Q ⟨ns, rfl, hl, q⟩
    have hz : sizeLine = 16777216 := sizeLine_eq
    refine ⟨ns, 0, rfl, ?_⟩
    generalize cell ns 0 = sd
    have d0 := draw_nn (c := sd) (f := 48271) (m := 7) (by decide)
    have d1 := draw_lt (c := sd) (f := 48271) (m := 7) (by decide)
    have n2 : 2 ≤ ownN sd := by unfold ownN; omega
    have n9 : ownN sd ≤ 9 := by unfold ownN; omega
    have ol : (ownW sd).length = ownN sd := by unfold ownW; rw [List.length_map, List.length_range]
    refine ⟨sd, 48271, 7, rfl, by decide, rfl, ⟨?_, ?_⟩, crun_pure (f := fun d => match d with | .int j => D.str (word sd j) | _ => .non) trivial _ [] _ ?_ (fun d hd k hk => ?_) fun o ho => ?_⟩
    · show -(2 ^ 62) ≤ 2 + draw sd 48271 7
      omega
    · show 2 + draw sd 48271 7 < 2 ^ 62
      omega
    · rw [List.length_map, List.length_range]
      show 0 + ownN sd ≤ sizeLine
      omega
    · obtain ⟨j, _, rfl⟩ := List.mem_map.mp hd
      exact ⟨sd, _, rfl, hk⟩
    have eo : [] ++ ((List.range (2 + draw sd 48271 7).toNat).map fun i => D.int (0 + (i : Nat))).map (fun d => match d with | .int j => D.str (word sd j) | _ => .non) = (ownW sd).map D.str := by
      rw [List.nil_append, List.map_map]
      unfold ownW
      rw [List.map_map]
      rfl
    rw [eo]
    have so := L3.Sub.new (c := .lst ((ownW sd).map D.str)) ho
    have lo : lstM (updM M o (.lst ((ownW sd).map D.str))) o = some ((ownW sd).map D.str) := lst_new
    generalize updM M o (.lst ((ownW sd).map D.str)) = M1 at so lo ⊢
    refine ⟨sd, 8, rfl, sd, 9, rfl, few rfl, fun l2 h2 => ?_⟩
    have s2 := L3.Sub.new (c := .lst [.str (word sd 8), .str (word sd 9)]) h2
    refine elim_of (s2.lst lo) (elim_of lst_new ⟨?_, fun n hn => ?_⟩)
    · rw [List.length_map, ol]
      show ownN sd + 2 ≤ sizeLine
      omega
    have s3 := L3.Sub.new (c := .lst ((ownW sd).map D.str ++ [.str (word sd 8), .str (word sd 9)])) hn
    have ln : lstM (updM (updM M1 l2 (.lst [.str (word sd 8), .str (word sd 9)])) n (.lst ((ownW sd).map D.str ++ [.str (word sd 8), .str (word sd 9)]))) n = some ((ownW sd ++ [word sd 8, word sd 9]).map D.str) := by
      rw [lst_new, List.map_append]
      rfl
    have lo3 := s3.lst (s2.lst lo)
    have so3 := so.trans (s2.trans s3)
    generalize updM (updM M1 l2 (.lst [.str (word sd 8), .str (word sd 9)])) n (.lst ((ownW sd).map D.str ++ [.str (word sd 8), .str (word sd 9)])) = M3 at so3 lo3 ln ⊢
    have hown : ownW sd ≠ [] := fun z => by
      rw [z] at ol
      have : (0 : Nat) = ownN sd := ol
      omega
    generalize ownW sd = own at lo3 ln hown ol ⊢
    have hal : (own ++ [word sd 8, word sd 9]).length = own.length + 2 := by rw [List.length_append]; rfl
    generalize own ++ [word sd 8, word sd 9] = all at ln hal ⊢
    refine ⟨few rfl, few rfl, fun l3 h3 => elim_of lst_new ⟨?_, fun lp hp => elim_of lst_new ?_⟩⟩
    · rw [List.length_map]
      show ns.length + 1 ≤ sizeLine
      omega
    have s5 := (L3.Sub.new (c := .lst [.int 3]) h3).trans (L3.Sub.new (c := .lst (ns.map D.int ++ [.int 3])) hp)
    have l5 : lstM (updM (updM M3 l3 (.lst [.int 3])) lp (.lst (ns.map D.int ++ [.int 3]))) lp = some (ns.map D.int ++ [.int 3]) := lst_new
    have lo5 := s5.lst lo3
    have ln5 := s5.lst ln
    have so5 := so3.trans s5
    generalize updM (updM M3 l3 (.lst [.int 3])) lp (.lst (ns.map D.int ++ [.int 3])) = M5 at so5 lo5 ln5 l5 ⊢
    refine run_inv (fun δ M' => L3.Sub M5 M' ∧ ∃ (u : Wi) (k c t x y : Option D), δ = [some (.rl (ns.map D.int)), some (.int sd), some (.ref o), some (.ref n), some (.tup u.wants), k, c, t, x, y]) (fun δ M' j => j.1.lst l5) _ _ _ ⟨.refl, .bar Str.empty [], none, none, none, none, none, rfl⟩ ?_ ?_
    · rintro d hd δ M' ⟨sM, u, k0, c0, t0, x0, y0, rfl⟩ nx hnx
      obtain ⟨i, e, he, rfl⟩ := enum_mem hd
      have hi : i < 64 := by
        have := (List.getElem?_eq_some_iff.mp he).1
        rw [List.length_append, List.length_map] at this
        have : i < ns.length + 1 := this
        omega
      obtain ⟨c, rfl⟩ : ∃ c, e = .int c := by
        have : e ∈ ns.map D.int ++ [.int 3] := List.mem_of_getElem? he
        rcases List.mem_append.mp this with z | z
        · obtain ⟨c, _, rfl⟩ := List.mem_map.mp z
          exact ⟨c, rfl⟩
        · exact ⟨3, List.mem_singleton.mp z⟩
      have lo' := sM.lst lo5
      have ln' := sM.lst ln5
      have hall : all ≠ [] := fun z => by rw [z] at hal; simp at hal
      refine ⟨rfl, ⟨.inl ⟨by decide, by decide⟩, .inr ⟨?_, ?_⟩, _, o, n, own, all, rfl, lo', ln', hown, by omega, by omega, by omega, ?_⟩⟩
      · show -(2 ^ 64) < (i : Int)
        omega
      · show (i : Int) < 2 ^ 64
        omega
      have ok1 : okW (wishW (c + 31 * (i : Int) * (i : Int)) own all) := okW_wish hown hall (by omega) (by omega)
      generalize wishW (c + 31 * (i : Int) * (i : Int)) own all = v1 at ok1 ⊢
      refine cut (fun δ' M2 => M' = M2 ∧ ∃ v : Wi, okW v ∧ δ' = [some (.rl (ns.map D.int)), some (.int sd), some (.ref o), some (.ref n), some (.tup u.wants), some (.int (i : Nat)), some (.int c), some (.tup v.told), x0, y0]) (fun nx2 h2 => ?_) ?_
      · exact h2 _ _ ⟨rfl, v1, ok1, rfl⟩
      clear ok1 v1
      rintro _ _ ⟨rfl, v1, ok1, rfl⟩
      refine cut (fun δ' M2 => M' = M2 ∧ ∃ v : Wi, okW v ∧ δ' = [some (.rl (ns.map D.int)), some (.int sd), some (.ref o), some (.ref n), some (.tup u.wants), some (.int (i : Nat)), some (.int c), some (.tup v.told), x0, y0]) (fun nx2 h2 => ?_) ?_
      · cases v1 with
        | silent x y n1 => exact ⟨_, _, _, rfl, by decide, few rfl, List.cons_ne_nil _ _, (by show 3 + 1 ≤ sizeLine; rw [hz]; decide), h2 _ _ ⟨rfl, .silent x y (1 + draw (c + (i : Nat)) 69621 9), rfl, rfl⟩⟩
        | bar x l => exact h2 _ _ ⟨rfl, _, ok1, rfl⟩
        | shut x l => exact h2 _ _ ⟨rfl, _, ok1, rfl⟩
        | always x y => exact h2 _ _ ⟨rfl, _, ok1, rfl⟩
        | night x y f l => exact h2 _ _ ⟨rfl, _, ok1, rfl⟩
        | busy x y => exact h2 _ _ ⟨rfl, _, ok1, rfl⟩
        | wait x => exact h2 _ _ ⟨rfl, _, ok1, rfl⟩
        | breaks x => exact h2 _ _ ⟨rfl, _, ok1, rfl⟩
      rintro _ _ ⟨rfl, v2, ok2, rfl⟩
      refine cut (fun δ' M2 => M' = M2 ∧ ∃ v : Wi, okW v ∧ δ' = [some (.rl (ns.map D.int)), some (.int sd), some (.ref o), some (.ref n), some (.tup u.wants), some (.int (i : Nat)), some (.int c), some (.tup v.told), x0, y0]) (fun nx2 h2 => ?_) ?_
      · cases v2 with
        | bar x l =>
          refine ⟨few rfl, rfl, rfl, _, _, _, rfl, by decide, ite2 (fun _ => ?_) (fun _ => h2 _ _ ⟨rfl, _, ok2, rfl⟩)⟩
          exact ⟨o, _, 6, own, rfl, lo', hown, by decide, by omega, few rfl, List.cons_ne_nil _ _, by show 2 + 1 ≤ sizeLine; rw [hz]; decide, h2 _ _ ⟨rfl, .bar x (someW own (c + (i : Nat)) 6), okT (okN hown (by decide) (by omega)) _ _, rfl⟩⟩
        | shut x l =>
          refine ⟨few rfl, rfl, rfl, _, _, _, rfl, by decide, ite2 (fun _ => ?_) (fun _ => h2 _ _ ⟨rfl, _, ok2, rfl⟩)⟩
          exact ⟨o, _, 6, own, rfl, lo', hown, by decide, by omega, few rfl, List.cons_ne_nil _ _, by show 2 + 1 ≤ sizeLine; rw [hz]; decide, h2 _ _ ⟨rfl, .shut x (someW own (c + (i : Nat)) 6), okT (okN hown (by decide) (by omega)) _ _, rfl⟩⟩
        | always x y => exact ⟨few rfl, rfl, rfl, h2 _ _ ⟨rfl, _, ok2, rfl⟩⟩
        | night x y f l => exact ⟨few rfl, rfl, rfl, h2 _ _ ⟨rfl, _, ok2, rfl⟩⟩
        | busy x y => exact ⟨few rfl, rfl, rfl, h2 _ _ ⟨rfl, _, ok2, rfl⟩⟩
        | silent x y m => exact ⟨few rfl, rfl, rfl, h2 _ _ ⟨rfl, _, ok2, rfl⟩⟩
        | wait x => exact ⟨few rfl, rfl, rfl, h2 _ _ ⟨rfl, _, ok2, rfl⟩⟩
        | breaks x => exact ⟨few rfl, rfl, rfl, h2 _ _ ⟨rfl, _, ok2, rfl⟩⟩
      rintro _ _ ⟨rfl, v, okv, rfl⟩
      refine ⟨v, rfl, fun p hp => ?_⟩
      have sp1 := L3.Sub.new (c := .ins (v.cls a) v.flds) hp
      have hpv : updM M' p (.ins (v.cls a) v.flds) p = some (.ins (v.cls a) v.flds) := updM_same
      generalize updM M' p (.ins (v.cls a) v.flds) = M6 at sp1 hpv ⊢
      have ht : (v.flds).lookup ("told" : Str) = none := by cases v <;> rfl
      have hw : (v.flds).lookup ("wants" : Str) = none := by cases v <;> rfl
      refine elim_of (x := .str v.word) (by cases v <;> rfl) ⟨p, v, rfl, hpv, iteF ?_⟩
      refine ins_of hpv ⟨ht, sp_told a, ⟨⟨v, rfl⟩, rfl⟩, p, v, rfl, hpv, _, rfl, okv, iteF ?_⟩
      obtain ⟨sp, hR, hsp⟩ := R_of a v
      refine ins_of hpv ⟨hw, sp, hR, hsp p M6 _ hpv ?_⟩
      refine ⟨v, rfl, _, rfl, ok_w v, iteF (ins_of hpv ⟨ht, sp_told a, ⟨⟨v, rfl⟩, rfl⟩, p, v, rfl, hpv, _, rfl, okv, iteF ?_⟩)⟩
      obtain ⟨b, hb⟩ := eq_wants M6 v u
      show Option.elim (eqD M6 9 (.tup v.wants) (.tup u.wants)) False _
      refine elim_of hb ⟨v, rfl, ?_⟩
      show Option.elim (eqD M6 9 (.tup v.wants) (.tup u.wants)) False _
      refine elim_of hb ?_
      refine iteC (c := !((!b) == (!b))) (by cases b <;> rfl) ?_
      refine ins_of hpv ⟨hw, sp, hR, hsp p M6 _ hpv ⟨_, rfl, ok_w v, iteF ?_⟩⟩
      exact hnx _ _ ⟨sM.trans sp1, v, _, _, _, _, _, rfl⟩
    · rintro δ M' ⟨sM, u, k0, c0, t0, x0, y0, rfl⟩
      exact ⟨M, so5.trans sM, q⟩
end
end K11
namespace K11
open PySem PySem.Spec PyProof.Rows L2 L3
theorem all_mk {K : PySem.W.Frag} {h : Heap} {mg : Str → Option Value} (X : K.In h) (G : h.Ns mainGlobals mg)
    {od_wish_of an_wish_of : Option Addr} {sl_wish_of : Array (Option Value)} {oc_wish_of kv_wish_of dc_wish_of pm_wish_of cd_wish_of ct_wish_of : Value} {f_wish_of : Addr}
    {od_law_at an_law_at : Option Addr} {sl_law_at : Array (Option Value)} {oc_law_at kv_law_at dc_law_at pm_law_at cd_law_at ct_law_at : Value} {f_law_at : Addr}
    {od_law_draw an_law_draw : Option Addr} {sl_law_draw : Array (Option Value)} {oc_law_draw kv_law_draw dc_law_draw pm_law_draw cd_law_draw ct_law_draw : Value} {f_law_draw : Addr}
    {od_law_word an_law_word : Option Addr} {sl_law_word : Array (Option Value)} {oc_law_word kv_law_word dc_law_word pm_law_word cd_law_word ct_law_word : Value} {f_law_word : Addr}
    {od_law_some an_law_some : Option Addr} {sl_law_some : Array (Option Value)} {oc_law_some kv_law_some dc_law_some pm_law_some cd_law_some ct_law_some : Value} {f_law_some : Addr}
    {od_law_wish an_law_wish : Option Addr} {sl_law_wish : Array (Option Value)} {oc_law_wish kv_law_wish dc_law_wish pm_law_wish cd_law_wish ct_law_wish : Value} {f_law_wish : Addr}
    {od_law_wants an_law_wants : Option Addr} {sl_law_wants : Array (Option Value)} {oc_law_wants kv_law_wants dc_law_wants pm_law_wants cd_law_wants ct_law_wants : Value} {f_law_wants : Addr}
    {od_law_of_class an_law_of_class : Option Addr} {sl_law_of_class : Array (Option Value)} {oc_law_of_class kv_law_of_class dc_law_of_class pm_law_of_class cd_law_of_class ct_law_of_class : Value} {f_law_of_class : Addr}
    {od_law_alike an_law_alike : Option Addr} {sl_law_alike : Array (Option Value)} {oc_law_alike kv_law_alike dc_law_alike pm_law_alike cd_law_alike ct_law_alike : Value} {f_law_alike : Addr}
    {od_law an_law : Option Addr} {sl_law : Array (Option Value)} {oc_law kv_law dc_law pm_law cd_law ct_law : Value} {f_law : Addr}
    {od_Bar_init an_Bar_init : Option Addr} {sl_Bar_init : Array (Option Value)} {oc_Bar_init kv_Bar_init dc_Bar_init pm_Bar_init cd_Bar_init ct_Bar_init : Value} {f_Bar_init : Addr}
    {od_Wish_told an_Wish_told : Option Addr} {sl_Wish_told : Array (Option Value)} {oc_Wish_told kv_Wish_told dc_Wish_told pm_Wish_told cd_Wish_told ct_Wish_told : Value} {f_Wish_told : Addr}
    {od_Bar_wants an_Bar_wants : Option Addr} {sl_Bar_wants : Array (Option Value)} {oc_Bar_wants kv_Bar_wants dc_Bar_wants pm_Bar_wants cd_Bar_wants ct_Bar_wants : Value} {f_Bar_wants : Addr}
    {od_Shut_init an_Shut_init : Option Addr} {sl_Shut_init : Array (Option Value)} {oc_Shut_init kv_Shut_init dc_Shut_init pm_Shut_init cd_Shut_init ct_Shut_init : Value} {f_Shut_init : Addr}
    {od_Shut_wants an_Shut_wants : Option Addr} {sl_Shut_wants : Array (Option Value)} {oc_Shut_wants kv_Shut_wants dc_Shut_wants pm_Shut_wants cd_Shut_wants ct_Shut_wants : Value} {f_Shut_wants : Addr}
    {od_Forward_init an_Forward_init : Option Addr} {sl_Forward_init : Array (Option Value)} {oc_Forward_init kv_Forward_init dc_Forward_init pm_Forward_init cd_Forward_init ct_Forward_init : Value} {f_Forward_init : Addr}
    {od_Forward_wants an_Forward_wants : Option Addr} {sl_Forward_wants : Array (Option Value)} {oc_Forward_wants kv_Forward_wants dc_Forward_wants pm_Forward_wants cd_Forward_wants ct_Forward_wants : Value} {f_Forward_wants : Addr}
    {od_Night_init an_Night_init : Option Addr} {sl_Night_init : Array (Option Value)} {oc_Night_init kv_Night_init dc_Night_init pm_Night_init cd_Night_init ct_Night_init : Value} {f_Night_init : Addr}
    {od_Silent_init an_Silent_init : Option Addr} {sl_Silent_init : Array (Option Value)} {oc_Silent_init kv_Silent_init dc_Silent_init pm_Silent_init cd_Silent_init ct_Silent_init : Value} {f_Silent_init : Addr}
    {od_Wait_init an_Wait_init : Option Addr} {sl_Wait_init : Array (Option Value)} {oc_Wait_init kv_Wait_init dc_Wait_init pm_Wait_init cd_Wait_init ct_Wait_init : Value} {f_Wait_init : Addr}
    {od_Wait_wants an_Wait_wants : Option Addr} {sl_Wait_wants : Array (Option Value)} {oc_Wait_wants kv_Wait_wants dc_Wait_wants pm_Wait_wants cd_Wait_wants ct_Wait_wants : Value} {f_Wait_wants : Addr}
    {od_Breaks_init an_Breaks_init : Option Addr} {sl_Breaks_init : Array (Option Value)} {oc_Breaks_init kv_Breaks_init dc_Breaks_init pm_Breaks_init cd_Breaks_init ct_Breaks_init : Value} {f_Breaks_init : Addr}
    {od_Breaks_wants an_Breaks_wants : Option Addr} {sl_Breaks_wants : Array (Option Value)} {oc_Breaks_wants kv_Breaks_wants dc_Breaks_wants pm_Breaks_wants cd_Breaks_wants ct_Breaks_wants : Value} {f_Breaks_wants : Addr}
    {od_Wish_init an_Wish_init : Option Addr} {sl_Wish_init : Array (Option Value)} {oc_Wish_init kv_Wish_init dc_Wish_init pm_Wish_init cd_Wish_init ct_Wish_init : Value} {f_Wish_init : Addr}
    {c_Wish : Addr}
    {c_Bar : Addr}
    {c_Shut : Addr}
    {c_Forward : Addr}
    {c_Always : Addr}
    {c_Night : Addr}
    {c_Busy : Addr}
    {c_Silent : Addr}
    {c_Wait : Addr}
    {c_Breaks : Addr}
    {cd_Always : ClassData}
    {cd_Bar : ClassData}
    {cd_Breaks : ClassData}
    {cd_Busy : ClassData}
    {cd_Night : ClassData}
    {cd_Shut : ClassData}
    {cd_Silent : ClassData}
    {cd_Wait : ClassData}
    {cd_Wish : ClassData}
    (a_Wish : PySem.W.nsIn K mainGlobals "Wish" = some (some (.ref c_Wish)))
    (a_Bar : PySem.W.nsIn K mainGlobals "Bar" = some (some (.ref c_Bar)))
    (a_Shut : PySem.W.nsIn K mainGlobals "Shut" = some (some (.ref c_Shut)))
    (a_Forward : PySem.W.nsIn K mainGlobals "Forward" = some (some (.ref c_Forward)))
    (a_Always : PySem.W.nsIn K mainGlobals "Always" = some (some (.ref c_Always)))
    (a_Night : PySem.W.nsIn K mainGlobals "Night" = some (some (.ref c_Night)))
    (a_Busy : PySem.W.nsIn K mainGlobals "Busy" = some (some (.ref c_Busy)))
    (a_Silent : PySem.W.nsIn K mainGlobals "Silent" = some (some (.ref c_Silent)))
    (a_Wait : PySem.W.nsIn K mainGlobals "Wait" = some (some (.ref c_Wait)))
    (a_Breaks : PySem.W.nsIn K mainGlobals "Breaks" = some (some (.ref c_Breaks)))
    (a_wish_of : PySem.W.nsIn K mainGlobals "wish_of" = some (some (.ref f_wish_of)))
    (l_wish_of : K.lookup f_wish_of = some ⟨oc_wish_of, od_wish_of, .func (PySem.W.fnOf "wish_of" "wish_of" (defArgs s_wish_of) (defBody s_wish_of) (defScope s_wish_of) .none kv_wish_of dc_wish_of pm_wish_of an_wish_of cd_wish_of ct_wish_of), sl_wish_of⟩)
    (k_wish_of : PySem.W.codeIn K cd_wish_of "wish_of" = true)
    (p_wish_of : PySem.W.keepIn K (.ref f_wish_of) = true)
    (a_law_at : PySem.W.nsIn K mainGlobals "_law_at" = some (some (.ref f_law_at)))
    (l_law_at : K.lookup f_law_at = some ⟨oc_law_at, od_law_at, .func (PySem.W.fnOf "_law_at" "_law_at" (defArgs s_law_at) (defBody s_law_at) (defScope s_law_at) .none kv_law_at dc_law_at pm_law_at an_law_at cd_law_at ct_law_at), sl_law_at⟩)
    (k_law_at : PySem.W.codeIn K cd_law_at "_law_at" = true)
    (p_law_at : PySem.W.keepIn K (.ref f_law_at) = true)
    (a_law_draw : PySem.W.nsIn K mainGlobals "_law_draw" = some (some (.ref f_law_draw)))
    (l_law_draw : K.lookup f_law_draw = some ⟨oc_law_draw, od_law_draw, .func (PySem.W.fnOf "_law_draw" "_law_draw" (defArgs s_law_draw) (defBody s_law_draw) (defScope s_law_draw) .none kv_law_draw dc_law_draw pm_law_draw an_law_draw cd_law_draw ct_law_draw), sl_law_draw⟩)
    (k_law_draw : PySem.W.codeIn K cd_law_draw "_law_draw" = true)
    (p_law_draw : PySem.W.keepIn K (.ref f_law_draw) = true)
    (a_law_word : PySem.W.nsIn K mainGlobals "_law_word" = some (some (.ref f_law_word)))
    (l_law_word : K.lookup f_law_word = some ⟨oc_law_word, od_law_word, .func (PySem.W.fnOf "_law_word" "_law_word" (defArgs s_law_word) (defBody s_law_word) (defScope s_law_word) .none kv_law_word dc_law_word pm_law_word an_law_word cd_law_word ct_law_word), sl_law_word⟩)
    (k_law_word : PySem.W.codeIn K cd_law_word "_law_word" = true)
    (p_law_word : PySem.W.keepIn K (.ref f_law_word) = true)
    (a_law_some : PySem.W.nsIn K mainGlobals "_law_some" = some (some (.ref f_law_some)))
    (l_law_some : K.lookup f_law_some = some ⟨oc_law_some, od_law_some, .func (PySem.W.fnOf "_law_some" "_law_some" (defArgs s_law_some) (defBody s_law_some) (defScope s_law_some) .none kv_law_some dc_law_some pm_law_some an_law_some cd_law_some ct_law_some), sl_law_some⟩)
    (k_law_some : PySem.W.codeIn K cd_law_some "_law_some" = true)
    (p_law_some : PySem.W.keepIn K (.ref f_law_some) = true)
    (a_law_wish : PySem.W.nsIn K mainGlobals "_law_wish" = some (some (.ref f_law_wish)))
    (l_law_wish : K.lookup f_law_wish = some ⟨oc_law_wish, od_law_wish, .func (PySem.W.fnOf "_law_wish" "_law_wish" (defArgs s_law_wish) (defBody s_law_wish) (defScope s_law_wish) .none kv_law_wish dc_law_wish pm_law_wish an_law_wish cd_law_wish ct_law_wish), sl_law_wish⟩)
    (k_law_wish : PySem.W.codeIn K cd_law_wish "_law_wish" = true)
    (p_law_wish : PySem.W.keepIn K (.ref f_law_wish) = true)
    (a_law_wants : PySem.W.nsIn K mainGlobals "_law_wants" = some (some (.ref f_law_wants)))
    (l_law_wants : K.lookup f_law_wants = some ⟨oc_law_wants, od_law_wants, .func (PySem.W.fnOf "_law_wants" "_law_wants" (defArgs s_law_wants) (defBody s_law_wants) (defScope s_law_wants) .none kv_law_wants dc_law_wants pm_law_wants an_law_wants cd_law_wants ct_law_wants), sl_law_wants⟩)
    (k_law_wants : PySem.W.codeIn K cd_law_wants "_law_wants" = true)
    (p_law_wants : PySem.W.keepIn K (.ref f_law_wants) = true)
    (a_law_of_class : PySem.W.nsIn K mainGlobals "_law_of_class" = some (some (.ref f_law_of_class)))
    (l_law_of_class : K.lookup f_law_of_class = some ⟨oc_law_of_class, od_law_of_class, .func (PySem.W.fnOf "_law_of_class" "_law_of_class" (defArgs s_law_of_class) (defBody s_law_of_class) (defScope s_law_of_class) .none kv_law_of_class dc_law_of_class pm_law_of_class an_law_of_class cd_law_of_class ct_law_of_class), sl_law_of_class⟩)
    (k_law_of_class : PySem.W.codeIn K cd_law_of_class "_law_of_class" = true)
    (p_law_of_class : PySem.W.keepIn K (.ref f_law_of_class) = true)
    (a_law_alike : PySem.W.nsIn K mainGlobals "_law_alike" = some (some (.ref f_law_alike)))
    (l_law_alike : K.lookup f_law_alike = some ⟨oc_law_alike, od_law_alike, .func (PySem.W.fnOf "_law_alike" "_law_alike" (defArgs s_law_alike) (defBody s_law_alike) (defScope s_law_alike) .none kv_law_alike dc_law_alike pm_law_alike an_law_alike cd_law_alike ct_law_alike), sl_law_alike⟩)
    (k_law_alike : PySem.W.codeIn K cd_law_alike "_law_alike" = true)
    (p_law_alike : PySem.W.keepIn K (.ref f_law_alike) = true)
    (a_law : PySem.W.nsIn K mainGlobals "law" = some (some (.ref f_law)))
    (l_law : K.lookup f_law = some ⟨oc_law, od_law, .func (PySem.W.fnOf "law" "law" (defArgs s_law) (defBody s_law) (defScope s_law) .none kv_law dc_law pm_law an_law cd_law ct_law), sl_law⟩)
    (k_law : PySem.W.codeIn K cd_law "law" = true)
    (p_law : PySem.W.keepIn K (.ref f_law) = true)
    (a_Bar_init : PySem.W.findIn K (.ref c_Bar) "__init__" = some (some (.ref f_Bar_init)))
    (l_Bar_init : K.lookup f_Bar_init = some ⟨oc_Bar_init, od_Bar_init, .func (PySem.W.fnOf "__init__" "Bar.__init__" (defArgs s_Bar_init) (defBody s_Bar_init) (defScope s_Bar_init) .none kv_Bar_init dc_Bar_init pm_Bar_init an_Bar_init cd_Bar_init ct_Bar_init), sl_Bar_init⟩)
    (k_Bar_init : PySem.W.codeIn K cd_Bar_init "Bar.__init__" = true)
    (p_Bar_init : PySem.W.keepIn K (.ref f_Bar_init) = true)
    (a_Wish_told : PySem.W.findIn K (.ref c_Wish) "told" = some (some (.ref f_Wish_told)))
    (l_Wish_told : K.lookup f_Wish_told = some ⟨oc_Wish_told, od_Wish_told, .func (PySem.W.fnOf "told" "Wish.told" (defArgs s_Wish_told) (defBody s_Wish_told) (defScope s_Wish_told) .none kv_Wish_told dc_Wish_told pm_Wish_told an_Wish_told cd_Wish_told ct_Wish_told), sl_Wish_told⟩)
    (k_Wish_told : PySem.W.codeIn K cd_Wish_told "Wish.told" = true)
    (p_Wish_told : PySem.W.keepIn K (.ref f_Wish_told) = true)
    (a_Bar_wants : PySem.W.findIn K (.ref c_Bar) "wants" = some (some (.ref f_Bar_wants)))
    (l_Bar_wants : K.lookup f_Bar_wants = some ⟨oc_Bar_wants, od_Bar_wants, .func (PySem.W.fnOf "wants" "Bar.wants" (defArgs s_Bar_wants) (defBody s_Bar_wants) (defScope s_Bar_wants) .none kv_Bar_wants dc_Bar_wants pm_Bar_wants an_Bar_wants cd_Bar_wants ct_Bar_wants), sl_Bar_wants⟩)
    (k_Bar_wants : PySem.W.codeIn K cd_Bar_wants "Bar.wants" = true)
    (p_Bar_wants : PySem.W.keepIn K (.ref f_Bar_wants) = true)
    (a_Shut_init : PySem.W.findIn K (.ref c_Shut) "__init__" = some (some (.ref f_Shut_init)))
    (l_Shut_init : K.lookup f_Shut_init = some ⟨oc_Shut_init, od_Shut_init, .func (PySem.W.fnOf "__init__" "Shut.__init__" (defArgs s_Shut_init) (defBody s_Shut_init) (defScope s_Shut_init) .none kv_Shut_init dc_Shut_init pm_Shut_init an_Shut_init cd_Shut_init ct_Shut_init), sl_Shut_init⟩)
    (k_Shut_init : PySem.W.codeIn K cd_Shut_init "Shut.__init__" = true)
    (p_Shut_init : PySem.W.keepIn K (.ref f_Shut_init) = true)
    (a_Shut_wants : PySem.W.findIn K (.ref c_Shut) "wants" = some (some (.ref f_Shut_wants)))
    (l_Shut_wants : K.lookup f_Shut_wants = some ⟨oc_Shut_wants, od_Shut_wants, .func (PySem.W.fnOf "wants" "Shut.wants" (defArgs s_Shut_wants) (defBody s_Shut_wants) (defScope s_Shut_wants) .none kv_Shut_wants dc_Shut_wants pm_Shut_wants an_Shut_wants cd_Shut_wants ct_Shut_wants), sl_Shut_wants⟩)
    (k_Shut_wants : PySem.W.codeIn K cd_Shut_wants "Shut.wants" = true)
    (p_Shut_wants : PySem.W.keepIn K (.ref f_Shut_wants) = true)
    (a_Forward_init : PySem.W.findIn K (.ref c_Forward) "__init__" = some (some (.ref f_Forward_init)))
    (l_Forward_init : K.lookup f_Forward_init = some ⟨oc_Forward_init, od_Forward_init, .func (PySem.W.fnOf "__init__" "Forward.__init__" (defArgs s_Forward_init) (defBody s_Forward_init) (defScope s_Forward_init) .none kv_Forward_init dc_Forward_init pm_Forward_init an_Forward_init cd_Forward_init ct_Forward_init), sl_Forward_init⟩)
    (k_Forward_init : PySem.W.codeIn K cd_Forward_init "Forward.__init__" = true)
    (p_Forward_init : PySem.W.keepIn K (.ref f_Forward_init) = true)
    (a_Forward_wants : PySem.W.findIn K (.ref c_Forward) "wants" = some (some (.ref f_Forward_wants)))
    (l_Forward_wants : K.lookup f_Forward_wants = some ⟨oc_Forward_wants, od_Forward_wants, .func (PySem.W.fnOf "wants" "Forward.wants" (defArgs s_Forward_wants) (defBody s_Forward_wants) (defScope s_Forward_wants) .none kv_Forward_wants dc_Forward_wants pm_Forward_wants an_Forward_wants cd_Forward_wants ct_Forward_wants), sl_Forward_wants⟩)
    (k_Forward_wants : PySem.W.codeIn K cd_Forward_wants "Forward.wants" = true)
    (p_Forward_wants : PySem.W.keepIn K (.ref f_Forward_wants) = true)
    (a_Night_init : PySem.W.findIn K (.ref c_Night) "__init__" = some (some (.ref f_Night_init)))
    (l_Night_init : K.lookup f_Night_init = some ⟨oc_Night_init, od_Night_init, .func (PySem.W.fnOf "__init__" "Night.__init__" (defArgs s_Night_init) (defBody s_Night_init) (defScope s_Night_init) .none kv_Night_init dc_Night_init pm_Night_init an_Night_init cd_Night_init ct_Night_init), sl_Night_init⟩)
    (k_Night_init : PySem.W.codeIn K cd_Night_init "Night.__init__" = true)
    (p_Night_init : PySem.W.keepIn K (.ref f_Night_init) = true)
    (a_Silent_init : PySem.W.findIn K (.ref c_Silent) "__init__" = some (some (.ref f_Silent_init)))
    (l_Silent_init : K.lookup f_Silent_init = some ⟨oc_Silent_init, od_Silent_init, .func (PySem.W.fnOf "__init__" "Silent.__init__" (defArgs s_Silent_init) (defBody s_Silent_init) (defScope s_Silent_init) .none kv_Silent_init dc_Silent_init pm_Silent_init an_Silent_init cd_Silent_init ct_Silent_init), sl_Silent_init⟩)
    (k_Silent_init : PySem.W.codeIn K cd_Silent_init "Silent.__init__" = true)
    (p_Silent_init : PySem.W.keepIn K (.ref f_Silent_init) = true)
    (a_Wait_init : PySem.W.findIn K (.ref c_Wait) "__init__" = some (some (.ref f_Wait_init)))
    (l_Wait_init : K.lookup f_Wait_init = some ⟨oc_Wait_init, od_Wait_init, .func (PySem.W.fnOf "__init__" "Wait.__init__" (defArgs s_Wait_init) (defBody s_Wait_init) (defScope s_Wait_init) .none kv_Wait_init dc_Wait_init pm_Wait_init an_Wait_init cd_Wait_init ct_Wait_init), sl_Wait_init⟩)
    (k_Wait_init : PySem.W.codeIn K cd_Wait_init "Wait.__init__" = true)
    (p_Wait_init : PySem.W.keepIn K (.ref f_Wait_init) = true)
    (a_Wait_wants : PySem.W.findIn K (.ref c_Wait) "wants" = some (some (.ref f_Wait_wants)))
    (l_Wait_wants : K.lookup f_Wait_wants = some ⟨oc_Wait_wants, od_Wait_wants, .func (PySem.W.fnOf "wants" "Wait.wants" (defArgs s_Wait_wants) (defBody s_Wait_wants) (defScope s_Wait_wants) .none kv_Wait_wants dc_Wait_wants pm_Wait_wants an_Wait_wants cd_Wait_wants ct_Wait_wants), sl_Wait_wants⟩)
    (k_Wait_wants : PySem.W.codeIn K cd_Wait_wants "Wait.wants" = true)
    (p_Wait_wants : PySem.W.keepIn K (.ref f_Wait_wants) = true)
    (a_Breaks_init : PySem.W.findIn K (.ref c_Breaks) "__init__" = some (some (.ref f_Breaks_init)))
    (l_Breaks_init : K.lookup f_Breaks_init = some ⟨oc_Breaks_init, od_Breaks_init, .func (PySem.W.fnOf "__init__" "Breaks.__init__" (defArgs s_Breaks_init) (defBody s_Breaks_init) (defScope s_Breaks_init) .none kv_Breaks_init dc_Breaks_init pm_Breaks_init an_Breaks_init cd_Breaks_init ct_Breaks_init), sl_Breaks_init⟩)
    (k_Breaks_init : PySem.W.codeIn K cd_Breaks_init "Breaks.__init__" = true)
    (p_Breaks_init : PySem.W.keepIn K (.ref f_Breaks_init) = true)
    (a_Breaks_wants : PySem.W.findIn K (.ref c_Breaks) "wants" = some (some (.ref f_Breaks_wants)))
    (l_Breaks_wants : K.lookup f_Breaks_wants = some ⟨oc_Breaks_wants, od_Breaks_wants, .func (PySem.W.fnOf "wants" "Breaks.wants" (defArgs s_Breaks_wants) (defBody s_Breaks_wants) (defScope s_Breaks_wants) .none kv_Breaks_wants dc_Breaks_wants pm_Breaks_wants an_Breaks_wants cd_Breaks_wants ct_Breaks_wants), sl_Breaks_wants⟩)
    (k_Breaks_wants : PySem.W.codeIn K cd_Breaks_wants "Breaks.wants" = true)
    (p_Breaks_wants : PySem.W.keepIn K (.ref f_Breaks_wants) = true)
    (a_Wish_init : PySem.W.findIn K (.ref c_Wish) "__init__" = some (some (.ref f_Wish_init)))
    (l_Wish_init : K.lookup f_Wish_init = some ⟨oc_Wish_init, od_Wish_init, .func (PySem.W.fnOf "__init__" "Wish.__init__" (defArgs s_Wish_init) (defBody s_Wish_init) (defScope s_Wish_init) .none kv_Wish_init dc_Wish_init pm_Wish_init an_Wish_init cd_Wish_init ct_Wish_init), sl_Wish_init⟩)
    (k_Wish_init : PySem.W.codeIn K cd_Wish_init "Wish.__init__" = true)
    (p_Wish_init : PySem.W.keepIn K (.ref f_Wish_init) = true)
    (g_Wish : PySem.W.plainGet K c_Wish Str.empty = true)
    (h_Wish : PySem.W.hasDictIn K c_Wish = true)
    (o_Wish : PySem.W.plainOver K c_Wish = true)
    (s_a_Wish : PySem.W.findIn K (.ref c_Wish) "__setattr__" = some (some (.builtin "object.__setattr__")))
    (g_Bar : PySem.W.plainGet K c_Bar Str.empty = true)
    (h_Bar : PySem.W.hasDictIn K c_Bar = true)
    (o_Bar : PySem.W.plainOver K c_Bar = true)
    (s_a_Bar : PySem.W.findIn K (.ref c_Bar) "__setattr__" = some (some (.builtin "object.__setattr__")))
    (g_Shut : PySem.W.plainGet K c_Shut Str.empty = true)
    (h_Shut : PySem.W.hasDictIn K c_Shut = true)
    (o_Shut : PySem.W.plainOver K c_Shut = true)
    (s_a_Shut : PySem.W.findIn K (.ref c_Shut) "__setattr__" = some (some (.builtin "object.__setattr__")))
    (g_Forward : PySem.W.plainGet K c_Forward Str.empty = true)
    (h_Forward : PySem.W.hasDictIn K c_Forward = true)
    (o_Forward : PySem.W.plainOver K c_Forward = true)
    (s_a_Forward : PySem.W.findIn K (.ref c_Forward) "__setattr__" = some (some (.builtin "object.__setattr__")))
    (g_Always : PySem.W.plainGet K c_Always Str.empty = true)
    (h_Always : PySem.W.hasDictIn K c_Always = true)
    (o_Always : PySem.W.plainOver K c_Always = true)
    (s_a_Always : PySem.W.findIn K (.ref c_Always) "__setattr__" = some (some (.builtin "object.__setattr__")))
    (g_Night : PySem.W.plainGet K c_Night Str.empty = true)
    (h_Night : PySem.W.hasDictIn K c_Night = true)
    (o_Night : PySem.W.plainOver K c_Night = true)
    (s_a_Night : PySem.W.findIn K (.ref c_Night) "__setattr__" = some (some (.builtin "object.__setattr__")))
    (g_Busy : PySem.W.plainGet K c_Busy Str.empty = true)
    (h_Busy : PySem.W.hasDictIn K c_Busy = true)
    (o_Busy : PySem.W.plainOver K c_Busy = true)
    (s_a_Busy : PySem.W.findIn K (.ref c_Busy) "__setattr__" = some (some (.builtin "object.__setattr__")))
    (g_Silent : PySem.W.plainGet K c_Silent Str.empty = true)
    (h_Silent : PySem.W.hasDictIn K c_Silent = true)
    (o_Silent : PySem.W.plainOver K c_Silent = true)
    (s_a_Silent : PySem.W.findIn K (.ref c_Silent) "__setattr__" = some (some (.builtin "object.__setattr__")))
    (g_Wait : PySem.W.plainGet K c_Wait Str.empty = true)
    (h_Wait : PySem.W.hasDictIn K c_Wait = true)
    (o_Wait : PySem.W.plainOver K c_Wait = true)
    (s_a_Wait : PySem.W.findIn K (.ref c_Wait) "__setattr__" = some (some (.builtin "object.__setattr__")))
    (g_Breaks : PySem.W.plainGet K c_Breaks Str.empty = true)
    (h_Breaks : PySem.W.hasDictIn K c_Breaks = true)
    (o_Breaks : PySem.W.plainOver K c_Breaks = true)
    (s_a_Breaks : PySem.W.findIn K (.ref c_Breaks) "__setattr__" = some (some (.builtin "object.__setattr__")))
    (i1_Bar : PySem.W.findIn K (.ref c_Bar) "__class__" = some (some (.builtin "object.__class__")))
    (i4_Bar : PySem.W.mroIn K c_Bar (.type "object") = some true)
    (i1_Shut : PySem.W.findIn K (.ref c_Shut) "__class__" = some (some (.builtin "object.__class__")))
    (i4_Shut : PySem.W.mroIn K c_Shut (.type "object") = some true)
    (i1_Always : PySem.W.findIn K (.ref c_Always) "__class__" = some (some (.builtin "object.__class__")))
    (i4_Always : PySem.W.mroIn K c_Always (.type "object") = some true)
    (i1_Night : PySem.W.findIn K (.ref c_Night) "__class__" = some (some (.builtin "object.__class__")))
    (i4_Night : PySem.W.mroIn K c_Night (.type "object") = some true)
    (i1_Busy : PySem.W.findIn K (.ref c_Busy) "__class__" = some (some (.builtin "object.__class__")))
    (i4_Busy : PySem.W.mroIn K c_Busy (.type "object") = some true)
    (i1_Silent : PySem.W.findIn K (.ref c_Silent) "__class__" = some (some (.builtin "object.__class__")))
    (i4_Silent : PySem.W.mroIn K c_Silent (.type "object") = some true)
    (i1_Wait : PySem.W.findIn K (.ref c_Wait) "__class__" = some (some (.builtin "object.__class__")))
    (i4_Wait : PySem.W.mroIn K c_Wait (.type "object") = some true)
    (i1_Breaks : PySem.W.findIn K (.ref c_Breaks) "__class__" = some (some (.builtin "object.__class__")))
    (i4_Breaks : PySem.W.mroIn K c_Breaks (.type "object") = some true)
    (i2 : PySem.W.specialIn K (.builtin "object.__class__") "__get__" = some (some (.builtin "getset_descriptor.__get__")))
    (i3 : PySem.W.takesIn K (.builtin "object.__class__") = some true)
    (m_Bar : PySem.W.makesIn K c_Bar = true)
    (mi_Bar : PySem.W.findIn K (.ref c_Bar) "__init__" = some (some (.ref f_Bar_init)))
    (mf_Bar : PySem.W.isFn K (.ref f_Bar_init) = true)
    (mp_Bar : PySem.W.keepIn K (.ref c_Bar) = true)
    (m_Shut : PySem.W.makesIn K c_Shut = true)
    (mi_Shut : PySem.W.findIn K (.ref c_Shut) "__init__" = some (some (.ref f_Shut_init)))
    (mf_Shut : PySem.W.isFn K (.ref f_Shut_init) = true)
    (mp_Shut : PySem.W.keepIn K (.ref c_Shut) = true)
    (m_Always : PySem.W.makesIn K c_Always = true)
    (mi_Always : PySem.W.findIn K (.ref c_Always) "__init__" = some (some (.ref f_Forward_init)))
    (mf_Always : PySem.W.isFn K (.ref f_Forward_init) = true)
    (mp_Always : PySem.W.keepIn K (.ref c_Always) = true)
    (m_Night : PySem.W.makesIn K c_Night = true)
    (mi_Night : PySem.W.findIn K (.ref c_Night) "__init__" = some (some (.ref f_Night_init)))
    (mf_Night : PySem.W.isFn K (.ref f_Night_init) = true)
    (mp_Night : PySem.W.keepIn K (.ref c_Night) = true)
    (m_Busy : PySem.W.makesIn K c_Busy = true)
    (mi_Busy : PySem.W.findIn K (.ref c_Busy) "__init__" = some (some (.ref f_Forward_init)))
    (mf_Busy : PySem.W.isFn K (.ref f_Forward_init) = true)
    (mp_Busy : PySem.W.keepIn K (.ref c_Busy) = true)
    (m_Silent : PySem.W.makesIn K c_Silent = true)
    (mi_Silent : PySem.W.findIn K (.ref c_Silent) "__init__" = some (some (.ref f_Silent_init)))
    (mf_Silent : PySem.W.isFn K (.ref f_Silent_init) = true)
    (mp_Silent : PySem.W.keepIn K (.ref c_Silent) = true)
    (m_Wait : PySem.W.makesIn K c_Wait = true)
    (mi_Wait : PySem.W.findIn K (.ref c_Wait) "__init__" = some (some (.ref f_Wait_init)))
    (mf_Wait : PySem.W.isFn K (.ref f_Wait_init) = true)
    (mp_Wait : PySem.W.keepIn K (.ref c_Wait) = true)
    (m_Breaks : PySem.W.makesIn K c_Breaks = true)
    (mi_Breaks : PySem.W.findIn K (.ref c_Breaks) "__init__" = some (some (.ref f_Breaks_init)))
    (mf_Breaks : PySem.W.isFn K (.ref f_Breaks_init) = true)
    (mp_Breaks : PySem.W.keepIn K (.ref c_Breaks) = true)
    (t_Bar_told : PySem.W.findIn K (.ref c_Bar) "told" = some (some (.ref f_Wish_told)))
    (u_Bar_told : PySem.W.isFn K (.ref f_Wish_told) = true)
    (t_Shut_told : PySem.W.findIn K (.ref c_Shut) "told" = some (some (.ref f_Wish_told)))
    (u_Shut_told : PySem.W.isFn K (.ref f_Wish_told) = true)
    (t_Always_told : PySem.W.findIn K (.ref c_Always) "told" = some (some (.ref f_Wish_told)))
    (u_Always_told : PySem.W.isFn K (.ref f_Wish_told) = true)
    (t_Night_told : PySem.W.findIn K (.ref c_Night) "told" = some (some (.ref f_Wish_told)))
    (u_Night_told : PySem.W.isFn K (.ref f_Wish_told) = true)
    (t_Busy_told : PySem.W.findIn K (.ref c_Busy) "told" = some (some (.ref f_Wish_told)))
    (u_Busy_told : PySem.W.isFn K (.ref f_Wish_told) = true)
    (t_Silent_told : PySem.W.findIn K (.ref c_Silent) "told" = some (some (.ref f_Wish_told)))
    (u_Silent_told : PySem.W.isFn K (.ref f_Wish_told) = true)
    (t_Wait_told : PySem.W.findIn K (.ref c_Wait) "told" = some (some (.ref f_Wish_told)))
    (u_Wait_told : PySem.W.isFn K (.ref f_Wish_told) = true)
    (t_Breaks_told : PySem.W.findIn K (.ref c_Breaks) "told" = some (some (.ref f_Wish_told)))
    (u_Breaks_told : PySem.W.isFn K (.ref f_Wish_told) = true)
    (t_Bar_wants : PySem.W.findIn K (.ref c_Bar) "wants" = some (some (.ref f_Bar_wants)))
    (u_Bar_wants : PySem.W.isFn K (.ref f_Bar_wants) = true)
    (t_Shut_wants : PySem.W.findIn K (.ref c_Shut) "wants" = some (some (.ref f_Shut_wants)))
    (u_Shut_wants : PySem.W.isFn K (.ref f_Shut_wants) = true)
    (t_Always_wants : PySem.W.findIn K (.ref c_Always) "wants" = some (some (.ref f_Forward_wants)))
    (u_Always_wants : PySem.W.isFn K (.ref f_Forward_wants) = true)
    (t_Night_wants : PySem.W.findIn K (.ref c_Night) "wants" = some (some (.ref f_Forward_wants)))
    (u_Night_wants : PySem.W.isFn K (.ref f_Forward_wants) = true)
    (t_Busy_wants : PySem.W.findIn K (.ref c_Busy) "wants" = some (some (.ref f_Forward_wants)))
    (u_Busy_wants : PySem.W.isFn K (.ref f_Forward_wants) = true)
    (t_Silent_wants : PySem.W.findIn K (.ref c_Silent) "wants" = some (some (.ref f_Forward_wants)))
    (u_Silent_wants : PySem.W.isFn K (.ref f_Forward_wants) = true)
    (t_Wait_wants : PySem.W.findIn K (.ref c_Wait) "wants" = some (some (.ref f_Wait_wants)))
    (u_Wait_wants : PySem.W.isFn K (.ref f_Wait_wants) = true)
    (t_Breaks_wants : PySem.W.findIn K (.ref c_Breaks) "wants" = some (some (.ref f_Breaks_wants)))
    (u_Breaks_wants : PySem.W.isFn K (.ref f_Breaks_wants) = true)
    (x1_Wish_init : PySem.W.specialIn K (.ref c_Wish) "__getattribute__" = some (some (.builtin "type.__getattribute__")))
    (x2_Wish_init : PySem.W.readsIn K c_Wish (.type "type") = true)
    (x3_Wish_init : PySem.W.findCls K (.ref c_Wish) (.type "type") "__init__" = some (.val (.ref f_Wish_init)))
    (x1_Forward_init : PySem.W.specialIn K (.ref c_Forward) "__getattribute__" = some (some (.builtin "type.__getattribute__")))
    (x2_Forward_init : PySem.W.readsIn K c_Forward (.type "type") = true)
    (x3_Forward_init : PySem.W.findCls K (.ref c_Forward) (.type "type") "__init__" = some (.val (.ref f_Forward_init)))
    (n_Bar_form : PySem.W.findIn K (.ref c_Bar) "form" = some none)
    (n_Bar_phone : PySem.W.findIn K (.ref c_Bar) "phone" = some none)
    (n_Bar_targets : PySem.W.findIn K (.ref c_Bar) "targets" = some none)
    (n_Shut_form : PySem.W.findIn K (.ref c_Shut) "form" = some none)
    (n_Shut_target : PySem.W.findIn K (.ref c_Shut) "target" = some none)
    (n_Shut_callers : PySem.W.findIn K (.ref c_Shut) "callers" = some none)
    (n_Always_form : PySem.W.findIn K (.ref c_Always) "form" = some none)
    (n_Always_target : PySem.W.findIn K (.ref c_Always) "target" = some none)
    (n_Always_goal : PySem.W.findIn K (.ref c_Always) "goal" = some none)
    (n_Night_form : PySem.W.findIn K (.ref c_Night) "form" = some none)
    (n_Night_target : PySem.W.findIn K (.ref c_Night) "target" = some none)
    (n_Night_goal : PySem.W.findIn K (.ref c_Night) "goal" = some none)
    (n_Night_first : PySem.W.findIn K (.ref c_Night) "first" = some none)
    (n_Night_last : PySem.W.findIn K (.ref c_Night) "last" = some none)
    (n_Busy_form : PySem.W.findIn K (.ref c_Busy) "form" = some none)
    (n_Busy_target : PySem.W.findIn K (.ref c_Busy) "target" = some none)
    (n_Busy_goal : PySem.W.findIn K (.ref c_Busy) "goal" = some none)
    (n_Silent_form : PySem.W.findIn K (.ref c_Silent) "form" = some none)
    (n_Silent_target : PySem.W.findIn K (.ref c_Silent) "target" = some none)
    (n_Silent_goal : PySem.W.findIn K (.ref c_Silent) "goal" = some none)
    (n_Silent_turns : PySem.W.findIn K (.ref c_Silent) "turns" = some none)
    (n_Wait_form : PySem.W.findIn K (.ref c_Wait) "form" = some none)
    (n_Wait_phone : PySem.W.findIn K (.ref c_Wait) "phone" = some none)
    (n_Breaks_form : PySem.W.findIn K (.ref c_Breaks) "form" = some none)
    (n_Breaks_phone : PySem.W.findIn K (.ref c_Breaks) "phone" = some none)
    (q1_Always : PySem.W.clsIn K c_Always = some cd_Always)
    (q2_Always : PySem.W.typeIn K (.ref c_Always) = some (.type "type"))
    (q1_Bar : PySem.W.clsIn K c_Bar = some cd_Bar)
    (q2_Bar : PySem.W.typeIn K (.ref c_Bar) = some (.type "type"))
    (q1_Breaks : PySem.W.clsIn K c_Breaks = some cd_Breaks)
    (q2_Breaks : PySem.W.typeIn K (.ref c_Breaks) = some (.type "type"))
    (q1_Busy : PySem.W.clsIn K c_Busy = some cd_Busy)
    (q2_Busy : PySem.W.typeIn K (.ref c_Busy) = some (.type "type"))
    (q1_Night : PySem.W.clsIn K c_Night = some cd_Night)
    (q2_Night : PySem.W.typeIn K (.ref c_Night) = some (.type "type"))
    (q1_Shut : PySem.W.clsIn K c_Shut = some cd_Shut)
    (q2_Shut : PySem.W.typeIn K (.ref c_Shut) = some (.type "type"))
    (q1_Silent : PySem.W.clsIn K c_Silent = some cd_Silent)
    (q2_Silent : PySem.W.typeIn K (.ref c_Silent) = some (.type "type"))
    (q1_Wait : PySem.W.clsIn K c_Wait = some cd_Wait)
    (q2_Wait : PySem.W.typeIn K (.ref c_Wait) = some (.type "type"))
    (q1_Wish : PySem.W.clsIn K c_Wish = some cd_Wish)
    (q2_Wish : PySem.W.typeIn K (.ref c_Wish) = some (.type "type"))
    (y_str_tuple : PySem.W.subIn K (.type "str") (.type "tuple") = some false)
    (y_int_tuple : PySem.W.subIn K (.type "int") (.type "tuple") = some false)
    (y_int_str : PySem.W.subIn K (.type "int") (.type "str") = some false)
    (y_int_bool : PySem.W.subIn K (.type "int") (.type "bool") = some false)
    (y_Bar_Shut : PySem.W.subIn K (.ref c_Bar) (.ref c_Shut) = some false)
    (e_Bar_Shut : (Value.ref c_Bar == Value.ref c_Shut) = false)
    (y_Bar_Always : PySem.W.subIn K (.ref c_Bar) (.ref c_Always) = some false)
    (e_Bar_Always : (Value.ref c_Bar == Value.ref c_Always) = false)
    (y_Bar_Night : PySem.W.subIn K (.ref c_Bar) (.ref c_Night) = some false)
    (e_Bar_Night : (Value.ref c_Bar == Value.ref c_Night) = false)
    (y_Bar_Busy : PySem.W.subIn K (.ref c_Bar) (.ref c_Busy) = some false)
    (e_Bar_Busy : (Value.ref c_Bar == Value.ref c_Busy) = false)
    (y_Bar_Silent : PySem.W.subIn K (.ref c_Bar) (.ref c_Silent) = some false)
    (e_Bar_Silent : (Value.ref c_Bar == Value.ref c_Silent) = false)
    (y_Bar_Wait : PySem.W.subIn K (.ref c_Bar) (.ref c_Wait) = some false)
    (e_Bar_Wait : (Value.ref c_Bar == Value.ref c_Wait) = false)
    (y_Bar_Breaks : PySem.W.subIn K (.ref c_Bar) (.ref c_Breaks) = some false)
    (e_Bar_Breaks : (Value.ref c_Bar == Value.ref c_Breaks) = false)
    (y_Shut_Bar : PySem.W.subIn K (.ref c_Shut) (.ref c_Bar) = some false)
    (e_Shut_Bar : (Value.ref c_Shut == Value.ref c_Bar) = false)
    (y_Shut_Always : PySem.W.subIn K (.ref c_Shut) (.ref c_Always) = some false)
    (e_Shut_Always : (Value.ref c_Shut == Value.ref c_Always) = false)
    (y_Shut_Night : PySem.W.subIn K (.ref c_Shut) (.ref c_Night) = some false)
    (e_Shut_Night : (Value.ref c_Shut == Value.ref c_Night) = false)
    (y_Shut_Busy : PySem.W.subIn K (.ref c_Shut) (.ref c_Busy) = some false)
    (e_Shut_Busy : (Value.ref c_Shut == Value.ref c_Busy) = false)
    (y_Shut_Silent : PySem.W.subIn K (.ref c_Shut) (.ref c_Silent) = some false)
    (e_Shut_Silent : (Value.ref c_Shut == Value.ref c_Silent) = false)
    (y_Shut_Wait : PySem.W.subIn K (.ref c_Shut) (.ref c_Wait) = some false)
    (e_Shut_Wait : (Value.ref c_Shut == Value.ref c_Wait) = false)
    (y_Shut_Breaks : PySem.W.subIn K (.ref c_Shut) (.ref c_Breaks) = some false)
    (e_Shut_Breaks : (Value.ref c_Shut == Value.ref c_Breaks) = false)
    (y_Always_Bar : PySem.W.subIn K (.ref c_Always) (.ref c_Bar) = some false)
    (e_Always_Bar : (Value.ref c_Always == Value.ref c_Bar) = false)
    (y_Always_Shut : PySem.W.subIn K (.ref c_Always) (.ref c_Shut) = some false)
    (e_Always_Shut : (Value.ref c_Always == Value.ref c_Shut) = false)
    (y_Always_Night : PySem.W.subIn K (.ref c_Always) (.ref c_Night) = some false)
    (e_Always_Night : (Value.ref c_Always == Value.ref c_Night) = false)
    (y_Always_Busy : PySem.W.subIn K (.ref c_Always) (.ref c_Busy) = some false)
    (e_Always_Busy : (Value.ref c_Always == Value.ref c_Busy) = false)
    (y_Always_Silent : PySem.W.subIn K (.ref c_Always) (.ref c_Silent) = some false)
    (e_Always_Silent : (Value.ref c_Always == Value.ref c_Silent) = false)
    (y_Always_Wait : PySem.W.subIn K (.ref c_Always) (.ref c_Wait) = some false)
    (e_Always_Wait : (Value.ref c_Always == Value.ref c_Wait) = false)
    (y_Always_Breaks : PySem.W.subIn K (.ref c_Always) (.ref c_Breaks) = some false)
    (e_Always_Breaks : (Value.ref c_Always == Value.ref c_Breaks) = false)
    (y_Night_Bar : PySem.W.subIn K (.ref c_Night) (.ref c_Bar) = some false)
    (e_Night_Bar : (Value.ref c_Night == Value.ref c_Bar) = false)
    (y_Night_Shut : PySem.W.subIn K (.ref c_Night) (.ref c_Shut) = some false)
    (e_Night_Shut : (Value.ref c_Night == Value.ref c_Shut) = false)
    (y_Night_Always : PySem.W.subIn K (.ref c_Night) (.ref c_Always) = some false)
    (e_Night_Always : (Value.ref c_Night == Value.ref c_Always) = false)
    (y_Night_Busy : PySem.W.subIn K (.ref c_Night) (.ref c_Busy) = some false)
    (e_Night_Busy : (Value.ref c_Night == Value.ref c_Busy) = false)
    (y_Night_Silent : PySem.W.subIn K (.ref c_Night) (.ref c_Silent) = some false)
    (e_Night_Silent : (Value.ref c_Night == Value.ref c_Silent) = false)
    (y_Night_Wait : PySem.W.subIn K (.ref c_Night) (.ref c_Wait) = some false)
    (e_Night_Wait : (Value.ref c_Night == Value.ref c_Wait) = false)
    (y_Night_Breaks : PySem.W.subIn K (.ref c_Night) (.ref c_Breaks) = some false)
    (e_Night_Breaks : (Value.ref c_Night == Value.ref c_Breaks) = false)
    (y_Busy_Bar : PySem.W.subIn K (.ref c_Busy) (.ref c_Bar) = some false)
    (e_Busy_Bar : (Value.ref c_Busy == Value.ref c_Bar) = false)
    (y_Busy_Shut : PySem.W.subIn K (.ref c_Busy) (.ref c_Shut) = some false)
    (e_Busy_Shut : (Value.ref c_Busy == Value.ref c_Shut) = false)
    (y_Busy_Always : PySem.W.subIn K (.ref c_Busy) (.ref c_Always) = some false)
    (e_Busy_Always : (Value.ref c_Busy == Value.ref c_Always) = false)
    (y_Busy_Night : PySem.W.subIn K (.ref c_Busy) (.ref c_Night) = some false)
    (e_Busy_Night : (Value.ref c_Busy == Value.ref c_Night) = false)
    (y_Busy_Silent : PySem.W.subIn K (.ref c_Busy) (.ref c_Silent) = some false)
    (e_Busy_Silent : (Value.ref c_Busy == Value.ref c_Silent) = false)
    (y_Busy_Wait : PySem.W.subIn K (.ref c_Busy) (.ref c_Wait) = some false)
    (e_Busy_Wait : (Value.ref c_Busy == Value.ref c_Wait) = false)
    (y_Busy_Breaks : PySem.W.subIn K (.ref c_Busy) (.ref c_Breaks) = some false)
    (e_Busy_Breaks : (Value.ref c_Busy == Value.ref c_Breaks) = false)
    (y_Silent_Bar : PySem.W.subIn K (.ref c_Silent) (.ref c_Bar) = some false)
    (e_Silent_Bar : (Value.ref c_Silent == Value.ref c_Bar) = false)
    (y_Silent_Shut : PySem.W.subIn K (.ref c_Silent) (.ref c_Shut) = some false)
    (e_Silent_Shut : (Value.ref c_Silent == Value.ref c_Shut) = false)
    (y_Silent_Always : PySem.W.subIn K (.ref c_Silent) (.ref c_Always) = some false)
    (e_Silent_Always : (Value.ref c_Silent == Value.ref c_Always) = false)
    (y_Silent_Night : PySem.W.subIn K (.ref c_Silent) (.ref c_Night) = some false)
    (e_Silent_Night : (Value.ref c_Silent == Value.ref c_Night) = false)
    (y_Silent_Busy : PySem.W.subIn K (.ref c_Silent) (.ref c_Busy) = some false)
    (e_Silent_Busy : (Value.ref c_Silent == Value.ref c_Busy) = false)
    (y_Silent_Wait : PySem.W.subIn K (.ref c_Silent) (.ref c_Wait) = some false)
    (e_Silent_Wait : (Value.ref c_Silent == Value.ref c_Wait) = false)
    (y_Silent_Breaks : PySem.W.subIn K (.ref c_Silent) (.ref c_Breaks) = some false)
    (e_Silent_Breaks : (Value.ref c_Silent == Value.ref c_Breaks) = false)
    (y_Wait_Bar : PySem.W.subIn K (.ref c_Wait) (.ref c_Bar) = some false)
    (e_Wait_Bar : (Value.ref c_Wait == Value.ref c_Bar) = false)
    (y_Wait_Shut : PySem.W.subIn K (.ref c_Wait) (.ref c_Shut) = some false)
    (e_Wait_Shut : (Value.ref c_Wait == Value.ref c_Shut) = false)
    (y_Wait_Always : PySem.W.subIn K (.ref c_Wait) (.ref c_Always) = some false)
    (e_Wait_Always : (Value.ref c_Wait == Value.ref c_Always) = false)
    (y_Wait_Night : PySem.W.subIn K (.ref c_Wait) (.ref c_Night) = some false)
    (e_Wait_Night : (Value.ref c_Wait == Value.ref c_Night) = false)
    (y_Wait_Busy : PySem.W.subIn K (.ref c_Wait) (.ref c_Busy) = some false)
    (e_Wait_Busy : (Value.ref c_Wait == Value.ref c_Busy) = false)
    (y_Wait_Silent : PySem.W.subIn K (.ref c_Wait) (.ref c_Silent) = some false)
    (e_Wait_Silent : (Value.ref c_Wait == Value.ref c_Silent) = false)
    (y_Wait_Breaks : PySem.W.subIn K (.ref c_Wait) (.ref c_Breaks) = some false)
    (e_Wait_Breaks : (Value.ref c_Wait == Value.ref c_Breaks) = false)
    (y_Breaks_Bar : PySem.W.subIn K (.ref c_Breaks) (.ref c_Bar) = some false)
    (e_Breaks_Bar : (Value.ref c_Breaks == Value.ref c_Bar) = false)
    (y_Breaks_Shut : PySem.W.subIn K (.ref c_Breaks) (.ref c_Shut) = some false)
    (e_Breaks_Shut : (Value.ref c_Breaks == Value.ref c_Shut) = false)
    (y_Breaks_Always : PySem.W.subIn K (.ref c_Breaks) (.ref c_Always) = some false)
    (e_Breaks_Always : (Value.ref c_Breaks == Value.ref c_Always) = false)
    (y_Breaks_Night : PySem.W.subIn K (.ref c_Breaks) (.ref c_Night) = some false)
    (e_Breaks_Night : (Value.ref c_Breaks == Value.ref c_Night) = false)
    (y_Breaks_Busy : PySem.W.subIn K (.ref c_Breaks) (.ref c_Busy) = some false)
    (e_Breaks_Busy : (Value.ref c_Breaks == Value.ref c_Busy) = false)
    (y_Breaks_Silent : PySem.W.subIn K (.ref c_Breaks) (.ref c_Silent) = some false)
    (e_Breaks_Silent : (Value.ref c_Breaks == Value.ref c_Silent) = false)
    (y_Breaks_Wait : PySem.W.subIn K (.ref c_Breaks) (.ref c_Wait) = some false)
    (e_Breaks_Wait : (Value.ref c_Breaks == Value.ref c_Wait) = false)
    (y_Bar_Wish : PySem.W.subIn K (.ref c_Bar) (.ref c_Wish) = some true)
    (y_Shut_Wish : PySem.W.subIn K (.ref c_Shut) (.ref c_Wish) = some true)
    (y_Always_Wish : PySem.W.subIn K (.ref c_Always) (.ref c_Wish) = some true)
    (y_Night_Wish : PySem.W.subIn K (.ref c_Night) (.ref c_Wish) = some true)
    (y_Busy_Wish : PySem.W.subIn K (.ref c_Busy) (.ref c_Wish) = some true)
    (y_Silent_Wish : PySem.W.subIn K (.ref c_Silent) (.ref c_Wish) = some true)
    (y_Wait_Wish : PySem.W.subIn K (.ref c_Wait) (.ref c_Wish) = some true)
    (y_Breaks_Wish : PySem.W.subIn K (.ref c_Breaks) (.ref c_Wish) = some true)
    (z_range : PySem.W.nsIn K mainGlobals "range" = some none)
    (z_enumerate : PySem.W.nsIn K mainGlobals "enumerate" = some none)
    (z_len : PySem.W.nsIn K mainGlobals "len" = some none)
    (z_min : PySem.W.nsIn K mainGlobals "min" = some none)
    (z_tuple : PySem.W.nsIn K mainGlobals "tuple" = some none)
    (z_isinstance : PySem.W.nsIn K mainGlobals "isinstance" = some none)
    (z_all : PySem.W.nsIn K mainGlobals "all" = some none)
    (z_zip : PySem.W.nsIn K mainGlobals "zip" = some none)
    (z_str : PySem.W.nsIn K mainGlobals "str" = some none)
    (z_int : PySem.W.nsIn K mainGlobals "int" = some none)
    (z_bool : PySem.W.nsIn K mainGlobals "bool" = some none) :
    ∃ a : Ad, Gl K mg a ∧ ∀ (s : Shared) (u : Value), BindsTo s a.fd_law ⟨[u], []⟩ [("_law_script", u)] := by
  refine ⟨⟨f_wish_of, (PySem.W.fnOf "wish_of" "wish_of" (defArgs s_wish_of) (defBody s_wish_of) (defScope s_wish_of) .none kv_wish_of dc_wish_of pm_wish_of an_wish_of cd_wish_of ct_wish_of), f_law_at, (PySem.W.fnOf "_law_at" "_law_at" (defArgs s_law_at) (defBody s_law_at) (defScope s_law_at) .none kv_law_at dc_law_at pm_law_at an_law_at cd_law_at ct_law_at), f_law_draw, (PySem.W.fnOf "_law_draw" "_law_draw" (defArgs s_law_draw) (defBody s_law_draw) (defScope s_law_draw) .none kv_law_draw dc_law_draw pm_law_draw an_law_draw cd_law_draw ct_law_draw), f_law_word, (PySem.W.fnOf "_law_word" "_law_word" (defArgs s_law_word) (defBody s_law_word) (defScope s_law_word) .none kv_law_word dc_law_word pm_law_word an_law_word cd_law_word ct_law_word), f_law_some, (PySem.W.fnOf "_law_some" "_law_some" (defArgs s_law_some) (defBody s_law_some) (defScope s_law_some) .none kv_law_some dc_law_some pm_law_some an_law_some cd_law_some ct_law_some), f_law_wish, (PySem.W.fnOf "_law_wish" "_law_wish" (defArgs s_law_wish) (defBody s_law_wish) (defScope s_law_wish) .none kv_law_wish dc_law_wish pm_law_wish an_law_wish cd_law_wish ct_law_wish), f_law_wants, (PySem.W.fnOf "_law_wants" "_law_wants" (defArgs s_law_wants) (defBody s_law_wants) (defScope s_law_wants) .none kv_law_wants dc_law_wants pm_law_wants an_law_wants cd_law_wants ct_law_wants), f_law_of_class, (PySem.W.fnOf "_law_of_class" "_law_of_class" (defArgs s_law_of_class) (defBody s_law_of_class) (defScope s_law_of_class) .none kv_law_of_class dc_law_of_class pm_law_of_class an_law_of_class cd_law_of_class ct_law_of_class), f_law_alike, (PySem.W.fnOf "_law_alike" "_law_alike" (defArgs s_law_alike) (defBody s_law_alike) (defScope s_law_alike) .none kv_law_alike dc_law_alike pm_law_alike an_law_alike cd_law_alike ct_law_alike), f_law, (PySem.W.fnOf "law" "law" (defArgs s_law) (defBody s_law) (defScope s_law) .none kv_law dc_law pm_law an_law cd_law ct_law), f_Bar_init, (PySem.W.fnOf "__init__" "Bar.__init__" (defArgs s_Bar_init) (defBody s_Bar_init) (defScope s_Bar_init) .none kv_Bar_init dc_Bar_init pm_Bar_init an_Bar_init cd_Bar_init ct_Bar_init), f_Wish_told, (PySem.W.fnOf "told" "Wish.told" (defArgs s_Wish_told) (defBody s_Wish_told) (defScope s_Wish_told) .none kv_Wish_told dc_Wish_told pm_Wish_told an_Wish_told cd_Wish_told ct_Wish_told), f_Bar_wants, (PySem.W.fnOf "wants" "Bar.wants" (defArgs s_Bar_wants) (defBody s_Bar_wants) (defScope s_Bar_wants) .none kv_Bar_wants dc_Bar_wants pm_Bar_wants an_Bar_wants cd_Bar_wants ct_Bar_wants), f_Shut_init, (PySem.W.fnOf "__init__" "Shut.__init__" (defArgs s_Shut_init) (defBody s_Shut_init) (defScope s_Shut_init) .none kv_Shut_init dc_Shut_init pm_Shut_init an_Shut_init cd_Shut_init ct_Shut_init), f_Shut_wants, (PySem.W.fnOf "wants" "Shut.wants" (defArgs s_Shut_wants) (defBody s_Shut_wants) (defScope s_Shut_wants) .none kv_Shut_wants dc_Shut_wants pm_Shut_wants an_Shut_wants cd_Shut_wants ct_Shut_wants), f_Forward_init, (PySem.W.fnOf "__init__" "Forward.__init__" (defArgs s_Forward_init) (defBody s_Forward_init) (defScope s_Forward_init) .none kv_Forward_init dc_Forward_init pm_Forward_init an_Forward_init cd_Forward_init ct_Forward_init), f_Forward_wants, (PySem.W.fnOf "wants" "Forward.wants" (defArgs s_Forward_wants) (defBody s_Forward_wants) (defScope s_Forward_wants) .none kv_Forward_wants dc_Forward_wants pm_Forward_wants an_Forward_wants cd_Forward_wants ct_Forward_wants), f_Night_init, (PySem.W.fnOf "__init__" "Night.__init__" (defArgs s_Night_init) (defBody s_Night_init) (defScope s_Night_init) .none kv_Night_init dc_Night_init pm_Night_init an_Night_init cd_Night_init ct_Night_init), f_Silent_init, (PySem.W.fnOf "__init__" "Silent.__init__" (defArgs s_Silent_init) (defBody s_Silent_init) (defScope s_Silent_init) .none kv_Silent_init dc_Silent_init pm_Silent_init an_Silent_init cd_Silent_init ct_Silent_init), f_Wait_init, (PySem.W.fnOf "__init__" "Wait.__init__" (defArgs s_Wait_init) (defBody s_Wait_init) (defScope s_Wait_init) .none kv_Wait_init dc_Wait_init pm_Wait_init an_Wait_init cd_Wait_init ct_Wait_init), f_Wait_wants, (PySem.W.fnOf "wants" "Wait.wants" (defArgs s_Wait_wants) (defBody s_Wait_wants) (defScope s_Wait_wants) .none kv_Wait_wants dc_Wait_wants pm_Wait_wants an_Wait_wants cd_Wait_wants ct_Wait_wants), f_Breaks_init, (PySem.W.fnOf "__init__" "Breaks.__init__" (defArgs s_Breaks_init) (defBody s_Breaks_init) (defScope s_Breaks_init) .none kv_Breaks_init dc_Breaks_init pm_Breaks_init an_Breaks_init cd_Breaks_init ct_Breaks_init), f_Breaks_wants, (PySem.W.fnOf "wants" "Breaks.wants" (defArgs s_Breaks_wants) (defBody s_Breaks_wants) (defScope s_Breaks_wants) .none kv_Breaks_wants dc_Breaks_wants pm_Breaks_wants an_Breaks_wants cd_Breaks_wants ct_Breaks_wants), f_Wish_init, (PySem.W.fnOf "__init__" "Wish.__init__" (defArgs s_Wish_init) (defBody s_Wish_init) (defScope s_Wish_init) .none kv_Wish_init dc_Wish_init pm_Wish_init an_Wish_init cd_Wish_init ct_Wish_init), c_Wish, c_Bar, c_Shut, c_Forward, c_Always, c_Night, c_Busy, c_Silent, c_Wait, c_Breaks⟩, ?_, fun s u => .of_eq rfl⟩
  exact ⟨PySem.W.mg_of X G a_wish_of,
    p_wish_of,
    fun_mk (st := s_wish_of) l_wish_of k_wish_of p_wish_of,
    (fun_mk (st := s_wish_of) l_wish_of k_wish_of p_wish_of).binds (ps := ["told"]) fun _ _ _ _ _ _ us hl => match us, hl with | [_], _ => rfl,
    PySem.W.mg_of X G a_law_at,
    p_law_at,
    fun_mk (st := s_law_at) l_law_at k_law_at p_law_at,
    (fun_mk (st := s_law_at) l_law_at k_law_at p_law_at).binds (ps := ["_law_script", "_law_k"]) fun _ _ _ _ _ _ us hl => match us, hl with | [_, _], _ => rfl,
    PySem.W.mg_of X G a_law_draw,
    p_law_draw,
    fun_mk (st := s_law_draw) l_law_draw k_law_draw p_law_draw,
    (fun_mk (st := s_law_draw) l_law_draw k_law_draw p_law_draw).binds (ps := ["_law_cell", "_law_factor", "_law_many"]) fun _ _ _ _ _ _ us hl => match us, hl with | [_, _, _], _ => rfl,
    PySem.W.mg_of X G a_law_word,
    p_law_word,
    fun_mk (st := s_law_word) l_law_word k_law_word p_law_word,
    (fun_mk (st := s_law_word) l_law_word k_law_word p_law_word).binds (ps := ["_law_seed", "_law_which"]) fun _ _ _ _ _ _ us hl => match us, hl with | [_, _], _ => rfl,
    PySem.W.mg_of X G a_law_some,
    p_law_some,
    fun_mk (st := s_law_some) l_law_some k_law_some p_law_some,
    (fun_mk (st := s_law_some) l_law_some k_law_some p_law_some).binds (ps := ["_law_row", "_law_cell", "_law_most"]) fun _ _ _ _ _ _ us hl => match us, hl with | [_, _, _], _ => rfl,
    PySem.W.mg_of X G a_law_wish,
    p_law_wish,
    fun_mk (st := s_law_wish) l_law_wish k_law_wish p_law_wish,
    (fun_mk (st := s_law_wish) l_law_wish k_law_wish p_law_wish).binds (ps := ["_law_cell", "_law_own", "_law_names"]) fun _ _ _ _ _ _ us hl => match us, hl with | [_, _, _], _ => rfl,
    PySem.W.mg_of X G a_law_wants,
    p_law_wants,
    fun_mk (st := s_law_wants) l_law_wants k_law_wants p_law_wants,
    (fun_mk (st := s_law_wants) l_law_wants k_law_wants p_law_wants).binds (ps := ["_law_told"]) fun _ _ _ _ _ _ us hl => match us, hl with | [_], _ => rfl,
    PySem.W.mg_of X G a_law_of_class,
    p_law_of_class,
    fun_mk (st := s_law_of_class) l_law_of_class k_law_of_class p_law_of_class,
    (fun_mk (st := s_law_of_class) l_law_of_class k_law_of_class p_law_of_class).binds (ps := ["_law_wish_here", "_law_word_here"]) fun _ _ _ _ _ _ us hl => match us, hl with | [_, _], _ => rfl,
    PySem.W.mg_of X G a_law_alike,
    p_law_alike,
    fun_mk (st := s_law_alike) l_law_alike k_law_alike p_law_alike,
    (fun_mk (st := s_law_alike) l_law_alike k_law_alike p_law_alike).binds (ps := ["_law_found", "_law_due"]) fun _ _ _ _ _ _ us hl => match us, hl with | [_, _], _ => rfl,
    PySem.W.mg_of X G a_law,
    p_law,
    fun_mk (st := s_law) l_law k_law p_law,
    (fun_mk (st := s_law) l_law k_law p_law).binds (ps := ["_law_script"]) fun _ _ _ _ _ _ us hl => match us, hl with | [_], _ => rfl,
    p_Bar_init,
    fun_mk (st := s_Bar_init) l_Bar_init k_Bar_init p_Bar_init,
    (fun_mk (st := s_Bar_init) l_Bar_init k_Bar_init p_Bar_init).binds (ps := ["self", "told"]) fun _ _ _ _ _ _ us hl => match us, hl with | [_, _], _ => rfl,
    p_Wish_told,
    fun_mk (st := s_Wish_told) l_Wish_told k_Wish_told p_Wish_told,
    (fun_mk (st := s_Wish_told) l_Wish_told k_Wish_told p_Wish_told).binds (ps := ["self"]) fun _ _ _ _ _ _ us hl => match us, hl with | [_], _ => rfl,
    p_Bar_wants,
    fun_mk (st := s_Bar_wants) l_Bar_wants k_Bar_wants p_Bar_wants,
    (fun_mk (st := s_Bar_wants) l_Bar_wants k_Bar_wants p_Bar_wants).binds (ps := ["self"]) fun _ _ _ _ _ _ us hl => match us, hl with | [_], _ => rfl,
    p_Shut_init,
    fun_mk (st := s_Shut_init) l_Shut_init k_Shut_init p_Shut_init,
    (fun_mk (st := s_Shut_init) l_Shut_init k_Shut_init p_Shut_init).binds (ps := ["self", "told"]) fun _ _ _ _ _ _ us hl => match us, hl with | [_, _], _ => rfl,
    p_Shut_wants,
    fun_mk (st := s_Shut_wants) l_Shut_wants k_Shut_wants p_Shut_wants,
    (fun_mk (st := s_Shut_wants) l_Shut_wants k_Shut_wants p_Shut_wants).binds (ps := ["self"]) fun _ _ _ _ _ _ us hl => match us, hl with | [_], _ => rfl,
    p_Forward_init,
    fun_mk (st := s_Forward_init) l_Forward_init k_Forward_init p_Forward_init,
    (fun_mk (st := s_Forward_init) l_Forward_init k_Forward_init p_Forward_init).binds (ps := ["self", "told"]) fun _ _ _ _ _ _ us hl => match us, hl with | [_, _], _ => rfl,
    p_Forward_wants,
    fun_mk (st := s_Forward_wants) l_Forward_wants k_Forward_wants p_Forward_wants,
    (fun_mk (st := s_Forward_wants) l_Forward_wants k_Forward_wants p_Forward_wants).binds (ps := ["self"]) fun _ _ _ _ _ _ us hl => match us, hl with | [_], _ => rfl,
    p_Night_init,
    fun_mk (st := s_Night_init) l_Night_init k_Night_init p_Night_init,
    (fun_mk (st := s_Night_init) l_Night_init k_Night_init p_Night_init).binds (ps := ["self", "told"]) fun _ _ _ _ _ _ us hl => match us, hl with | [_, _], _ => rfl,
    p_Silent_init,
    fun_mk (st := s_Silent_init) l_Silent_init k_Silent_init p_Silent_init,
    (fun_mk (st := s_Silent_init) l_Silent_init k_Silent_init p_Silent_init).binds (ps := ["self", "told"]) fun _ _ _ _ _ _ us hl => match us, hl with | [_, _], _ => rfl,
    p_Wait_init,
    fun_mk (st := s_Wait_init) l_Wait_init k_Wait_init p_Wait_init,
    (fun_mk (st := s_Wait_init) l_Wait_init k_Wait_init p_Wait_init).binds (ps := ["self", "told"]) fun _ _ _ _ _ _ us hl => match us, hl with | [_, _], _ => rfl,
    p_Wait_wants,
    fun_mk (st := s_Wait_wants) l_Wait_wants k_Wait_wants p_Wait_wants,
    (fun_mk (st := s_Wait_wants) l_Wait_wants k_Wait_wants p_Wait_wants).binds (ps := ["self"]) fun _ _ _ _ _ _ us hl => match us, hl with | [_], _ => rfl,
    p_Breaks_init,
    fun_mk (st := s_Breaks_init) l_Breaks_init k_Breaks_init p_Breaks_init,
    (fun_mk (st := s_Breaks_init) l_Breaks_init k_Breaks_init p_Breaks_init).binds (ps := ["self", "told"]) fun _ _ _ _ _ _ us hl => match us, hl with | [_, _], _ => rfl,
    p_Breaks_wants,
    fun_mk (st := s_Breaks_wants) l_Breaks_wants k_Breaks_wants p_Breaks_wants,
    (fun_mk (st := s_Breaks_wants) l_Breaks_wants k_Breaks_wants p_Breaks_wants).binds (ps := ["self"]) fun _ _ _ _ _ _ us hl => match us, hl with | [_], _ => rfl,
    p_Wish_init,
    fun_mk (st := s_Wish_init) l_Wish_init k_Wish_init p_Wish_init,
    (fun_mk (st := s_Wish_init) l_Wish_init k_Wish_init p_Wish_init).binds (ps := ["self", "told"]) fun _ _ _ _ _ _ us hl => match us, hl with | [_, _], _ => rfl,
    PySem.W.mg_of X G a_Wish,
    ⟨g_Wish, h_Wish, o_Wish, s_a_Wish⟩,
    PySem.W.mg_of X G a_Bar,
    ⟨g_Bar, h_Bar, o_Bar, s_a_Bar⟩,
    PySem.W.mg_of X G a_Shut,
    ⟨g_Shut, h_Shut, o_Shut, s_a_Shut⟩,
    PySem.W.mg_of X G a_Forward,
    ⟨g_Forward, h_Forward, o_Forward, s_a_Forward⟩,
    PySem.W.mg_of X G a_Always,
    ⟨g_Always, h_Always, o_Always, s_a_Always⟩,
    PySem.W.mg_of X G a_Night,
    ⟨g_Night, h_Night, o_Night, s_a_Night⟩,
    PySem.W.mg_of X G a_Busy,
    ⟨g_Busy, h_Busy, o_Busy, s_a_Busy⟩,
    PySem.W.mg_of X G a_Silent,
    ⟨g_Silent, h_Silent, o_Silent, s_a_Silent⟩,
    PySem.W.mg_of X G a_Wait,
    ⟨g_Wait, h_Wait, o_Wait, s_a_Wait⟩,
    PySem.W.mg_of X G a_Breaks,
    ⟨g_Breaks, h_Breaks, o_Breaks, s_a_Breaks⟩,
    ⟨i1_Bar, i2, i3, i4_Bar⟩,
    ⟨i1_Shut, i2, i3, i4_Shut⟩,
    ⟨i1_Always, i2, i3, i4_Always⟩,
    ⟨i1_Night, i2, i3, i4_Night⟩,
    ⟨i1_Busy, i2, i3, i4_Busy⟩,
    ⟨i1_Silent, i2, i3, i4_Silent⟩,
    ⟨i1_Wait, i2, i3, i4_Wait⟩,
    ⟨i1_Breaks, i2, i3, i4_Breaks⟩,
    ⟨m_Bar, mi_Bar, mf_Bar, mp_Bar⟩,
    ⟨m_Shut, mi_Shut, mf_Shut, mp_Shut⟩,
    ⟨m_Always, mi_Always, mf_Always, mp_Always⟩,
    ⟨m_Night, mi_Night, mf_Night, mp_Night⟩,
    ⟨m_Busy, mi_Busy, mf_Busy, mp_Busy⟩,
    ⟨m_Silent, mi_Silent, mf_Silent, mp_Silent⟩,
    ⟨m_Wait, mi_Wait, mf_Wait, mp_Wait⟩,
    ⟨m_Breaks, mi_Breaks, mf_Breaks, mp_Breaks⟩,
    ⟨t_Bar_told, u_Bar_told, p_Wish_told⟩,
    ⟨t_Shut_told, u_Shut_told, p_Wish_told⟩,
    ⟨t_Always_told, u_Always_told, p_Wish_told⟩,
    ⟨t_Night_told, u_Night_told, p_Wish_told⟩,
    ⟨t_Busy_told, u_Busy_told, p_Wish_told⟩,
    ⟨t_Silent_told, u_Silent_told, p_Wish_told⟩,
    ⟨t_Wait_told, u_Wait_told, p_Wish_told⟩,
    ⟨t_Breaks_told, u_Breaks_told, p_Wish_told⟩,
    ⟨t_Bar_wants, u_Bar_wants, p_Bar_wants⟩,
    ⟨t_Shut_wants, u_Shut_wants, p_Shut_wants⟩,
    ⟨t_Always_wants, u_Always_wants, p_Forward_wants⟩,
    ⟨t_Night_wants, u_Night_wants, p_Forward_wants⟩,
    ⟨t_Busy_wants, u_Busy_wants, p_Forward_wants⟩,
    ⟨t_Silent_wants, u_Silent_wants, p_Forward_wants⟩,
    ⟨t_Wait_wants, u_Wait_wants, p_Wait_wants⟩,
    ⟨t_Breaks_wants, u_Breaks_wants, p_Breaks_wants⟩,
    ⟨x1_Wish_init, x2_Wish_init, x3_Wish_init⟩,
    ⟨x1_Forward_init, x2_Forward_init, x3_Forward_init⟩,
    n_Bar_form,
    n_Bar_phone,
    n_Bar_targets,
    n_Shut_form,
    n_Shut_target,
    n_Shut_callers,
    n_Always_form,
    n_Always_target,
    n_Always_goal,
    n_Night_form,
    n_Night_target,
    n_Night_goal,
    n_Night_first,
    n_Night_last,
    n_Busy_form,
    n_Busy_target,
    n_Busy_goal,
    n_Silent_form,
    n_Silent_target,
    n_Silent_goal,
    n_Silent_turns,
    n_Wait_form,
    n_Wait_phone,
    n_Breaks_form,
    n_Breaks_phone,
    kit_self,
    kit_ty km_tuple y_str_tuple (fun _ => rfl),
    kit_self,
    kit_ty km_tuple y_int_tuple (fun _ => rfl),
    kit_ty km_str y_int_str (fun _ => rfl),
    kit_self,
    kit_ty km_bool y_int_bool (fun _ => rfl),
    kit_self,
    kit_ref q1_Shut q2_Shut y_Bar_Shut (fun _ => e_Bar_Shut),
    kit_ref q1_Always q2_Always y_Bar_Always (fun _ => e_Bar_Always),
    kit_ref q1_Night q2_Night y_Bar_Night (fun _ => e_Bar_Night),
    kit_ref q1_Busy q2_Busy y_Bar_Busy (fun _ => e_Bar_Busy),
    kit_ref q1_Silent q2_Silent y_Bar_Silent (fun _ => e_Bar_Silent),
    kit_ref q1_Wait q2_Wait y_Bar_Wait (fun _ => e_Bar_Wait),
    kit_ref q1_Breaks q2_Breaks y_Bar_Breaks (fun _ => e_Bar_Breaks),
    kit_ref q1_Bar q2_Bar y_Shut_Bar (fun _ => e_Shut_Bar),
    kit_self,
    kit_ref q1_Always q2_Always y_Shut_Always (fun _ => e_Shut_Always),
    kit_ref q1_Night q2_Night y_Shut_Night (fun _ => e_Shut_Night),
    kit_ref q1_Busy q2_Busy y_Shut_Busy (fun _ => e_Shut_Busy),
    kit_ref q1_Silent q2_Silent y_Shut_Silent (fun _ => e_Shut_Silent),
    kit_ref q1_Wait q2_Wait y_Shut_Wait (fun _ => e_Shut_Wait),
    kit_ref q1_Breaks q2_Breaks y_Shut_Breaks (fun _ => e_Shut_Breaks),
    kit_ref q1_Bar q2_Bar y_Always_Bar (fun _ => e_Always_Bar),
    kit_ref q1_Shut q2_Shut y_Always_Shut (fun _ => e_Always_Shut),
    kit_self,
    kit_ref q1_Night q2_Night y_Always_Night (fun _ => e_Always_Night),
    kit_ref q1_Busy q2_Busy y_Always_Busy (fun _ => e_Always_Busy),
    kit_ref q1_Silent q2_Silent y_Always_Silent (fun _ => e_Always_Silent),
    kit_ref q1_Wait q2_Wait y_Always_Wait (fun _ => e_Always_Wait),
    kit_ref q1_Breaks q2_Breaks y_Always_Breaks (fun _ => e_Always_Breaks),
    kit_ref q1_Bar q2_Bar y_Night_Bar (fun _ => e_Night_Bar),
    kit_ref q1_Shut q2_Shut y_Night_Shut (fun _ => e_Night_Shut),
    kit_ref q1_Always q2_Always y_Night_Always (fun _ => e_Night_Always),
    kit_self,
    kit_ref q1_Busy q2_Busy y_Night_Busy (fun _ => e_Night_Busy),
    kit_ref q1_Silent q2_Silent y_Night_Silent (fun _ => e_Night_Silent),
    kit_ref q1_Wait q2_Wait y_Night_Wait (fun _ => e_Night_Wait),
    kit_ref q1_Breaks q2_Breaks y_Night_Breaks (fun _ => e_Night_Breaks),
    kit_ref q1_Bar q2_Bar y_Busy_Bar (fun _ => e_Busy_Bar),
    kit_ref q1_Shut q2_Shut y_Busy_Shut (fun _ => e_Busy_Shut),
    kit_ref q1_Always q2_Always y_Busy_Always (fun _ => e_Busy_Always),
    kit_ref q1_Night q2_Night y_Busy_Night (fun _ => e_Busy_Night),
    kit_self,
    kit_ref q1_Silent q2_Silent y_Busy_Silent (fun _ => e_Busy_Silent),
    kit_ref q1_Wait q2_Wait y_Busy_Wait (fun _ => e_Busy_Wait),
    kit_ref q1_Breaks q2_Breaks y_Busy_Breaks (fun _ => e_Busy_Breaks),
    kit_ref q1_Bar q2_Bar y_Silent_Bar (fun _ => e_Silent_Bar),
    kit_ref q1_Shut q2_Shut y_Silent_Shut (fun _ => e_Silent_Shut),
    kit_ref q1_Always q2_Always y_Silent_Always (fun _ => e_Silent_Always),
    kit_ref q1_Night q2_Night y_Silent_Night (fun _ => e_Silent_Night),
    kit_ref q1_Busy q2_Busy y_Silent_Busy (fun _ => e_Silent_Busy),
    kit_self,
    kit_ref q1_Wait q2_Wait y_Silent_Wait (fun _ => e_Silent_Wait),
    kit_ref q1_Breaks q2_Breaks y_Silent_Breaks (fun _ => e_Silent_Breaks),
    kit_ref q1_Bar q2_Bar y_Wait_Bar (fun _ => e_Wait_Bar),
    kit_ref q1_Shut q2_Shut y_Wait_Shut (fun _ => e_Wait_Shut),
    kit_ref q1_Always q2_Always y_Wait_Always (fun _ => e_Wait_Always),
    kit_ref q1_Night q2_Night y_Wait_Night (fun _ => e_Wait_Night),
    kit_ref q1_Busy q2_Busy y_Wait_Busy (fun _ => e_Wait_Busy),
    kit_ref q1_Silent q2_Silent y_Wait_Silent (fun _ => e_Wait_Silent),
    kit_self,
    kit_ref q1_Breaks q2_Breaks y_Wait_Breaks (fun _ => e_Wait_Breaks),
    kit_ref q1_Bar q2_Bar y_Breaks_Bar (fun _ => e_Breaks_Bar),
    kit_ref q1_Shut q2_Shut y_Breaks_Shut (fun _ => e_Breaks_Shut),
    kit_ref q1_Always q2_Always y_Breaks_Always (fun _ => e_Breaks_Always),
    kit_ref q1_Night q2_Night y_Breaks_Night (fun _ => e_Breaks_Night),
    kit_ref q1_Busy q2_Busy y_Breaks_Busy (fun _ => e_Breaks_Busy),
    kit_ref q1_Silent q2_Silent y_Breaks_Silent (fun _ => e_Breaks_Silent),
    kit_ref q1_Wait q2_Wait y_Breaks_Wait (fun _ => e_Breaks_Wait),
    kit_self,
    kit_ref q1_Wish q2_Wish y_Bar_Wish (fun z => nomatch z),
    kit_ref q1_Wish q2_Wish y_Shut_Wish (fun z => nomatch z),
    kit_ref q1_Wish q2_Wish y_Always_Wish (fun z => nomatch z),
    kit_ref q1_Wish q2_Wish y_Night_Wish (fun z => nomatch z),
    kit_ref q1_Wish q2_Wish y_Busy_Wish (fun z => nomatch z),
    kit_ref q1_Wish q2_Wish y_Silent_Wish (fun z => nomatch z),
    kit_ref q1_Wish q2_Wish y_Wait_Wish (fun z => nomatch z),
    kit_ref q1_Wish q2_Wish y_Breaks_Wish (fun z => nomatch z),
    PySem.W.mg_none_of X G z_range,
    PySem.W.mg_none_of X G z_enumerate,
    PySem.W.mg_none_of X G z_len,
    PySem.W.mg_none_of X G z_min,
    PySem.W.mg_none_of X G z_tuple,
    PySem.W.mg_none_of X G z_isinstance,
    PySem.W.mg_none_of X G z_all,
    PySem.W.mg_none_of X G z_zip,
    PySem.W.mg_none_of X G z_str,
    PySem.W.mg_none_of X G z_int,
    PySem.W.mg_none_of X G z_bool⟩
end K11
def PySem.W.Fast.tw5026349835222663725 : Nat := 0
def PySem.W.Fast.tw11011803740892686090 : Nat := 0
def PySem.W.Fast.tw7463022748950268335 : Nat := 0
def PySem.W.Fast.tw7240889922860128900 : Nat := 0
def PySem.W.Fast.tw10144609825844772866 : Nat := 0
def PySem.W.Fast.tw3617903650702373108 : Nat := 0
def PySem.W.Fast.tw6931755278268573769 : Nat := 0
def PySem.W.Fast.tw15078879646238128431 : Nat := 0
def PySem.W.Fast.tw16106333341306258081 : Nat := 0
def PySem.W.Fast.tw10226189130038726187 : Nat := 0
def PySem.W.Fast.tw5883782305933567759 : Nat := 0
def PySem.W.Fast.tw2694382788096597050 : Nat := 0
def PySem.W.Fast.tw11130345527926438319 : Nat := 0
def PySem.W.Fast.tw15403511952506372480 : Nat := 0
def PySem.W.Fast.tw7477063441238246128 : Nat := 0
def PySem.W.Fast.tw3823566371428256174 : Nat := 0
def PySem.W.Fast.tw9698685839718861573 : Nat := 0
def PySem.W.Fast.tw13660397568677227958 : Nat := 0
def PySem.W.Fast.tw16465702149701251543 : Nat := 0
def PySem.W.Fast.tw1495369178449811638 : Nat := 0
def PySem.W.Fast.tw11487332025861198439 : Nat := 0
def PySem.W.Fast.tw6174917623351292309 : Nat := 0
def PySem.W.Fast.tw9101600313077826115 : Nat := 0
def PySem.W.Fast.tw6533085775223288440 : Nat := 0
def PySem.W.Fast.tw448184697612695093 : Nat := 0
def PySem.W.Fast.tw18063004135905424255 : Nat := 0
def PySem.W.Fast.tw7811179726810794045 : Nat := 0
def PySem.W.Fast.tw14350884032618283599 : Nat := 0
open PySem PySem.W PyProof.Rows
set_option maxRecDepth 100000 in
set_option maxHeartbeats 0 in
theorem PySem.Challenge.cw_callboard_k11_wishes_made_holds : PySem.Challenge.rw_callboard_k11_wishes_made.Holds := by
  w_on; o_law; k_head; (case hw => w_witness2)
  k_fill
  refine L3.law_walk (l := PySem.Challenge.rw_callboard_k11_wishes_made) (sp := K11.sp_law) (k := 9) (x := "_law_script") rfl rfl ⟨rfl, by decide, by decide⟩ (fun w h Y => PySem.W.kIn_of Y) (fun ns hl => ⟨ns, rfl, hl, rfl⟩) ?F
  case F =>
    intro w mg fa h KX G hmg
    suffices h : ∃ a : K11.Ad, K11.Gl _ mg a ∧ ∀ (s : Shared) (u : Value), BindsTo s a.fd_law ⟨[u], []⟩ [("_law_script", u)] by
      obtain ⟨a, g, hb⟩ := h
      have e := hmg.symm.trans g.mg_law
      cases e
      exact ⟨a.fd_law, hb, fun base _ _ => K11.ok_law g⟩
    refine' K11.all_mk KX G ?a_Wish ?a_Bar ?a_Shut ?a_Forward ?a_Always ?a_Night ?a_Busy ?a_Silent ?a_Wait ?a_Breaks ?a_wish_of ?l_wish_of ?k_wish_of ?p_wish_of ?a_law_at ?l_law_at ?k_law_at ?p_law_at ?a_law_draw ?l_law_draw ?k_law_draw ?p_law_draw ?a_law_word ?l_law_word ?k_law_word ?p_law_word ?a_law_some ?l_law_some ?k_law_some ?p_law_some ?a_law_wish ?l_law_wish ?k_law_wish ?p_law_wish ?a_law_wants ?l_law_wants ?k_law_wants ?p_law_wants ?a_law_of_class ?l_law_of_class ?k_law_of_class ?p_law_of_class ?a_law_alike ?l_law_alike ?k_law_alike ?p_law_alike ?a_law ?l_law ?k_law ?p_law ?a_Bar_init ?l_Bar_init ?k_Bar_init ?p_Bar_init ?a_Wish_told ?l_Wish_told ?k_Wish_told ?p_Wish_told ?a_Bar_wants ?l_Bar_wants ?k_Bar_wants ?p_Bar_wants ?a_Shut_init ?l_Shut_init ?k_Shut_init ?p_Shut_init ?a_Shut_wants ?l_Shut_wants ?k_Shut_wants ?p_Shut_wants ?a_Forward_init ?l_Forward_init ?k_Forward_init ?p_Forward_init ?a_Forward_wants ?l_Forward_wants ?k_Forward_wants ?p_Forward_wants ?a_Night_init ?l_Night_init ?k_Night_init ?p_Night_init ?a_Silent_init ?l_Silent_init ?k_Silent_init ?p_Silent_init ?a_Wait_init ?l_Wait_init ?k_Wait_init ?p_Wait_init ?a_Wait_wants ?l_Wait_wants ?k_Wait_wants ?p_Wait_wants ?a_Breaks_init ?l_Breaks_init ?k_Breaks_init ?p_Breaks_init ?a_Breaks_wants ?l_Breaks_wants ?k_Breaks_wants ?p_Breaks_wants ?a_Wish_init ?l_Wish_init ?k_Wish_init ?p_Wish_init ?g_Wish ?h_Wish ?o_Wish ?s_a_Wish ?g_Bar ?h_Bar ?o_Bar ?s_a_Bar ?g_Shut ?h_Shut ?o_Shut ?s_a_Shut ?g_Forward ?h_Forward ?o_Forward ?s_a_Forward ?g_Always ?h_Always ?o_Always ?s_a_Always ?g_Night ?h_Night ?o_Night ?s_a_Night ?g_Busy ?h_Busy ?o_Busy ?s_a_Busy ?g_Silent ?h_Silent ?o_Silent ?s_a_Silent ?g_Wait ?h_Wait ?o_Wait ?s_a_Wait ?g_Breaks ?h_Breaks ?o_Breaks ?s_a_Breaks ?i1_Bar ?i4_Bar ?i1_Shut ?i4_Shut ?i1_Always ?i4_Always ?i1_Night ?i4_Night ?i1_Busy ?i4_Busy ?i1_Silent ?i4_Silent ?i1_Wait ?i4_Wait ?i1_Breaks ?i4_Breaks ?i2 ?i3 ?m_Bar ?mi_Bar ?mf_Bar ?mp_Bar ?m_Shut ?mi_Shut ?mf_Shut ?mp_Shut ?m_Always ?mi_Always ?mf_Always ?mp_Always ?m_Night ?mi_Night ?mf_Night ?mp_Night ?m_Busy ?mi_Busy ?mf_Busy ?mp_Busy ?m_Silent ?mi_Silent ?mf_Silent ?mp_Silent ?m_Wait ?mi_Wait ?mf_Wait ?mp_Wait ?m_Breaks ?mi_Breaks ?mf_Breaks ?mp_Breaks ?t_Bar_told ?u_Bar_told ?t_Shut_told ?u_Shut_told ?t_Always_told ?u_Always_told ?t_Night_told ?u_Night_told ?t_Busy_told ?u_Busy_told ?t_Silent_told ?u_Silent_told ?t_Wait_told ?u_Wait_told ?t_Breaks_told ?u_Breaks_told ?t_Bar_wants ?u_Bar_wants ?t_Shut_wants ?u_Shut_wants ?t_Always_wants ?u_Always_wants ?t_Night_wants ?u_Night_wants ?t_Busy_wants ?u_Busy_wants ?t_Silent_wants ?u_Silent_wants ?t_Wait_wants ?u_Wait_wants ?t_Breaks_wants ?u_Breaks_wants ?x1_Wish_init ?x2_Wish_init ?x3_Wish_init ?x1_Forward_init ?x2_Forward_init ?x3_Forward_init ?n_Bar_form ?n_Bar_phone ?n_Bar_targets ?n_Shut_form ?n_Shut_target ?n_Shut_callers ?n_Always_form ?n_Always_target ?n_Always_goal ?n_Night_form ?n_Night_target ?n_Night_goal ?n_Night_first ?n_Night_last ?n_Busy_form ?n_Busy_target ?n_Busy_goal ?n_Silent_form ?n_Silent_target ?n_Silent_goal ?n_Silent_turns ?n_Wait_form ?n_Wait_phone ?n_Breaks_form ?n_Breaks_phone ?q1_Always ?q2_Always ?q1_Bar ?q2_Bar ?q1_Breaks ?q2_Breaks ?q1_Busy ?q2_Busy ?q1_Night ?q2_Night ?q1_Shut ?q2_Shut ?q1_Silent ?q2_Silent ?q1_Wait ?q2_Wait ?q1_Wish ?q2_Wish ?y_str_tuple ?y_int_tuple ?y_int_str ?y_int_bool ?y_Bar_Shut ?e_Bar_Shut ?y_Bar_Always ?e_Bar_Always ?y_Bar_Night ?e_Bar_Night ?y_Bar_Busy ?e_Bar_Busy ?y_Bar_Silent ?e_Bar_Silent ?y_Bar_Wait ?e_Bar_Wait ?y_Bar_Breaks ?e_Bar_Breaks ?y_Shut_Bar ?e_Shut_Bar ?y_Shut_Always ?e_Shut_Always ?y_Shut_Night ?e_Shut_Night ?y_Shut_Busy ?e_Shut_Busy ?y_Shut_Silent ?e_Shut_Silent ?y_Shut_Wait ?e_Shut_Wait ?y_Shut_Breaks ?e_Shut_Breaks ?y_Always_Bar ?e_Always_Bar ?y_Always_Shut ?e_Always_Shut ?y_Always_Night ?e_Always_Night ?y_Always_Busy ?e_Always_Busy ?y_Always_Silent ?e_Always_Silent ?y_Always_Wait ?e_Always_Wait ?y_Always_Breaks ?e_Always_Breaks ?y_Night_Bar ?e_Night_Bar ?y_Night_Shut ?e_Night_Shut ?y_Night_Always ?e_Night_Always ?y_Night_Busy ?e_Night_Busy ?y_Night_Silent ?e_Night_Silent ?y_Night_Wait ?e_Night_Wait ?y_Night_Breaks ?e_Night_Breaks ?y_Busy_Bar ?e_Busy_Bar ?y_Busy_Shut ?e_Busy_Shut ?y_Busy_Always ?e_Busy_Always ?y_Busy_Night ?e_Busy_Night ?y_Busy_Silent ?e_Busy_Silent ?y_Busy_Wait ?e_Busy_Wait ?y_Busy_Breaks ?e_Busy_Breaks ?y_Silent_Bar ?e_Silent_Bar ?y_Silent_Shut ?e_Silent_Shut ?y_Silent_Always ?e_Silent_Always ?y_Silent_Night ?e_Silent_Night ?y_Silent_Busy ?e_Silent_Busy ?y_Silent_Wait ?e_Silent_Wait ?y_Silent_Breaks ?e_Silent_Breaks ?y_Wait_Bar ?e_Wait_Bar ?y_Wait_Shut ?e_Wait_Shut ?y_Wait_Always ?e_Wait_Always ?y_Wait_Night ?e_Wait_Night ?y_Wait_Busy ?e_Wait_Busy ?y_Wait_Silent ?e_Wait_Silent ?y_Wait_Breaks ?e_Wait_Breaks ?y_Breaks_Bar ?e_Breaks_Bar ?y_Breaks_Shut ?e_Breaks_Shut ?y_Breaks_Always ?e_Breaks_Always ?y_Breaks_Night ?e_Breaks_Night ?y_Breaks_Busy ?e_Breaks_Busy ?y_Breaks_Silent ?e_Breaks_Silent ?y_Breaks_Wait ?e_Breaks_Wait ?y_Bar_Wish ?y_Shut_Wish ?y_Always_Wish ?y_Night_Wish ?y_Busy_Wish ?y_Silent_Wish ?y_Wait_Wish ?y_Breaks_Wish ?z_range ?z_enumerate ?z_len ?z_min ?z_tuple ?z_isinstance ?z_all ?z_zip ?z_str ?z_int ?z_bool
    (case a_Wish => k_is)
    (case a_Bar => k_is)
    (case a_Shut => k_is)
    (case a_Forward => k_is)
    (case a_Always => k_is)
    (case a_Night => k_is)
    (case a_Busy => k_is)
    (case a_Silent => k_is)
    (case a_Wait => k_is)
    (case a_Breaks => k_is)
    (case a_wish_of => k_is)
    (case l_wish_of => k_is)
    (case k_wish_of => k_is)
    (case p_wish_of => k_is)
    (case a_law_at => k_is)
    (case l_law_at => k_is)
    (case k_law_at => k_is)
    (case p_law_at => k_is)
    (case a_law_draw => k_is)
    (case l_law_draw => k_is)
    (case k_law_draw => k_is)
    (case p_law_draw => k_is)
    (case a_law_word => k_is)
    (case l_law_word => k_is)
    (case k_law_word => k_is)
    (case p_law_word => k_is)
    (case a_law_some => k_is)
    (case l_law_some => k_is)
    (case k_law_some => k_is)
    (case p_law_some => k_is)
    (case a_law_wish => k_is)
    (case l_law_wish => k_is)
    (case k_law_wish => k_is)
    (case p_law_wish => k_is)
    (case a_law_wants => k_is)
    (case l_law_wants => k_is)
    (case k_law_wants => k_is)
    (case p_law_wants => k_is)
    (case a_law_of_class => k_is)
    (case l_law_of_class => k_is)
    (case k_law_of_class => k_is)
    (case p_law_of_class => k_is)
    (case a_law_alike => k_is)
    (case l_law_alike => k_is)
    (case k_law_alike => k_is)
    (case p_law_alike => k_is)
    (case a_law => k_is)
    (case l_law => k_is)
    (case k_law => k_is)
    (case p_law => k_is)
    (case a_Bar_init => k_is)
    (case l_Bar_init => k_is)
    (case k_Bar_init => k_is)
    (case p_Bar_init => k_is)
    (case a_Wish_told => k_is)
    (case l_Wish_told => k_is)
    (case k_Wish_told => k_is)
    (case p_Wish_told => k_is)
    (case a_Bar_wants => k_is)
    (case l_Bar_wants => k_is)
    (case k_Bar_wants => k_is)
    (case p_Bar_wants => k_is)
    (case a_Shut_init => k_is)
    (case l_Shut_init => k_is)
    (case k_Shut_init => k_is)
    (case p_Shut_init => k_is)
    (case a_Shut_wants => k_is)
    (case l_Shut_wants => k_is)
    (case k_Shut_wants => k_is)
    (case p_Shut_wants => k_is)
    (case a_Forward_init => k_is)
    (case l_Forward_init => k_is)
    (case k_Forward_init => k_is)
    (case p_Forward_init => k_is)
    (case a_Forward_wants => k_is)
    (case l_Forward_wants => k_is)
    (case k_Forward_wants => k_is)
    (case p_Forward_wants => k_is)
    (case a_Night_init => k_is)
    (case l_Night_init => k_is)
    (case k_Night_init => k_is)
    (case p_Night_init => k_is)
    (case a_Silent_init => k_is)
    (case l_Silent_init => k_is)
    (case k_Silent_init => k_is)
    (case p_Silent_init => k_is)
    (case a_Wait_init => k_is)
    (case l_Wait_init => k_is)
    (case k_Wait_init => k_is)
    (case p_Wait_init => k_is)
    (case a_Wait_wants => k_is)
    (case l_Wait_wants => k_is)
    (case k_Wait_wants => k_is)
    (case p_Wait_wants => k_is)
    (case a_Breaks_init => k_is)
    (case l_Breaks_init => k_is)
    (case k_Breaks_init => k_is)
    (case p_Breaks_init => k_is)
    (case a_Breaks_wants => k_is)
    (case l_Breaks_wants => k_is)
    (case k_Breaks_wants => k_is)
    (case p_Breaks_wants => k_is)
    (case a_Wish_init => k_is)
    (case l_Wish_init => k_is)
    (case k_Wish_init => k_is)
    (case p_Wish_init => k_is)
    (case g_Wish => k_is)
    (case h_Wish => k_is)
    (case o_Wish => k_is)
    (case s_a_Wish => k_is)
    (case g_Bar => k_is)
    (case h_Bar => k_is)
    (case o_Bar => k_is)
    (case s_a_Bar => k_is)
    (case g_Shut => k_is)
    (case h_Shut => k_is)
    (case o_Shut => k_is)
    (case s_a_Shut => k_is)
    (case g_Forward => k_is)
    (case h_Forward => k_is)
    (case o_Forward => k_is)
    (case s_a_Forward => k_is)
    (case g_Always => k_is)
    (case h_Always => k_is)
    (case o_Always => k_is)
    (case s_a_Always => k_is)
    (case g_Night => k_is)
    (case h_Night => k_is)
    (case o_Night => k_is)
    (case s_a_Night => k_is)
    (case g_Busy => k_is)
    (case h_Busy => k_is)
    (case o_Busy => k_is)
    (case s_a_Busy => k_is)
    (case g_Silent => k_is)
    (case h_Silent => k_is)
    (case o_Silent => k_is)
    (case s_a_Silent => k_is)
    (case g_Wait => k_is)
    (case h_Wait => k_is)
    (case o_Wait => k_is)
    (case s_a_Wait => k_is)
    (case g_Breaks => k_is)
    (case h_Breaks => k_is)
    (case o_Breaks => k_is)
    (case s_a_Breaks => k_is)
    (case i1_Bar => k_is)
    (case i4_Bar => k_is)
    (case i1_Shut => k_is)
    (case i4_Shut => k_is)
    (case i1_Always => k_is)
    (case i4_Always => k_is)
    (case i1_Night => k_is)
    (case i4_Night => k_is)
    (case i1_Busy => k_is)
    (case i4_Busy => k_is)
    (case i1_Silent => k_is)
    (case i4_Silent => k_is)
    (case i1_Wait => k_is)
    (case i4_Wait => k_is)
    (case i1_Breaks => k_is)
    (case i4_Breaks => k_is)
    (case i2 => k_is)
    (case i3 => k_is)
    (case m_Bar => k_is)
    (case mi_Bar => k_is)
    (case mf_Bar => k_is)
    (case mp_Bar => k_is)
    (case m_Shut => k_is)
    (case mi_Shut => k_is)
    (case mf_Shut => k_is)
    (case mp_Shut => k_is)
    (case m_Always => k_is)
    (case mi_Always => k_is)
    (case mf_Always => k_is)
    (case mp_Always => k_is)
    (case m_Night => k_is)
    (case mi_Night => k_is)
    (case mf_Night => k_is)
    (case mp_Night => k_is)
    (case m_Busy => k_is)
    (case mi_Busy => k_is)
    (case mf_Busy => k_is)
    (case mp_Busy => k_is)
    (case m_Silent => k_is)
    (case mi_Silent => k_is)
    (case mf_Silent => k_is)
    (case mp_Silent => k_is)
    (case m_Wait => k_is)
    (case mi_Wait => k_is)
    (case mf_Wait => k_is)
    (case mp_Wait => k_is)
    (case m_Breaks => k_is)
    (case mi_Breaks => k_is)
    (case mf_Breaks => k_is)
    (case mp_Breaks => k_is)
    (case t_Bar_told => k_is)
    (case u_Bar_told => k_is)
    (case t_Shut_told => k_is)
    (case u_Shut_told => k_is)
    (case t_Always_told => k_is)
    (case u_Always_told => k_is)
    (case t_Night_told => k_is)
    (case u_Night_told => k_is)
    (case t_Busy_told => k_is)
    (case u_Busy_told => k_is)
    (case t_Silent_told => k_is)
    (case u_Silent_told => k_is)
    (case t_Wait_told => k_is)
    (case u_Wait_told => k_is)
    (case t_Breaks_told => k_is)
    (case u_Breaks_told => k_is)
    (case t_Bar_wants => k_is)
    (case u_Bar_wants => k_is)
    (case t_Shut_wants => k_is)
    (case u_Shut_wants => k_is)
    (case t_Always_wants => k_is)
    (case u_Always_wants => k_is)
    (case t_Night_wants => k_is)
    (case u_Night_wants => k_is)
    (case t_Busy_wants => k_is)
    (case u_Busy_wants => k_is)
    (case t_Silent_wants => k_is)
    (case u_Silent_wants => k_is)
    (case t_Wait_wants => k_is)
    (case u_Wait_wants => k_is)
    (case t_Breaks_wants => k_is)
    (case u_Breaks_wants => k_is)
    (case x1_Wish_init => k_is)
    (case x2_Wish_init => k_is)
    (case x3_Wish_init => k_is)
    (case x1_Forward_init => k_is)
    (case x2_Forward_init => k_is)
    (case x3_Forward_init => k_is)
    (case n_Bar_form => k_is)
    (case n_Bar_phone => k_is)
    (case n_Bar_targets => k_is)
    (case n_Shut_form => k_is)
    (case n_Shut_target => k_is)
    (case n_Shut_callers => k_is)
    (case n_Always_form => k_is)
    (case n_Always_target => k_is)
    (case n_Always_goal => k_is)
    (case n_Night_form => k_is)
    (case n_Night_target => k_is)
    (case n_Night_goal => k_is)
    (case n_Night_first => k_is)
    (case n_Night_last => k_is)
    (case n_Busy_form => k_is)
    (case n_Busy_target => k_is)
    (case n_Busy_goal => k_is)
    (case n_Silent_form => k_is)
    (case n_Silent_target => k_is)
    (case n_Silent_goal => k_is)
    (case n_Silent_turns => k_is)
    (case n_Wait_form => k_is)
    (case n_Wait_phone => k_is)
    (case n_Breaks_form => k_is)
    (case n_Breaks_phone => k_is)
    (case q1_Always => k_is)
    (case q2_Always => k_is)
    (case q1_Bar => k_is)
    (case q2_Bar => k_is)
    (case q1_Breaks => k_is)
    (case q2_Breaks => k_is)
    (case q1_Busy => k_is)
    (case q2_Busy => k_is)
    (case q1_Night => k_is)
    (case q2_Night => k_is)
    (case q1_Shut => k_is)
    (case q2_Shut => k_is)
    (case q1_Silent => k_is)
    (case q2_Silent => k_is)
    (case q1_Wait => k_is)
    (case q2_Wait => k_is)
    (case q1_Wish => k_is)
    (case q2_Wish => k_is)
    (case y_str_tuple => k_is)
    (case y_int_tuple => k_is)
    (case y_int_str => k_is)
    (case y_int_bool => k_is)
    (case y_Bar_Shut => k_is)
    (case e_Bar_Shut => rfl)
    (case y_Bar_Always => k_is)
    (case e_Bar_Always => rfl)
    (case y_Bar_Night => k_is)
    (case e_Bar_Night => rfl)
    (case y_Bar_Busy => k_is)
    (case e_Bar_Busy => rfl)
    (case y_Bar_Silent => k_is)
    (case e_Bar_Silent => rfl)
    (case y_Bar_Wait => k_is)
    (case e_Bar_Wait => rfl)
    (case y_Bar_Breaks => k_is)
    (case e_Bar_Breaks => rfl)
    (case y_Shut_Bar => k_is)
    (case e_Shut_Bar => rfl)
    (case y_Shut_Always => k_is)
    (case e_Shut_Always => rfl)
    (case y_Shut_Night => k_is)
    (case e_Shut_Night => rfl)
    (case y_Shut_Busy => k_is)
    (case e_Shut_Busy => rfl)
    (case y_Shut_Silent => k_is)
    (case e_Shut_Silent => rfl)
    (case y_Shut_Wait => k_is)
    (case e_Shut_Wait => rfl)
    (case y_Shut_Breaks => k_is)
    (case e_Shut_Breaks => rfl)
    (case y_Always_Bar => k_is)
    (case e_Always_Bar => rfl)
    (case y_Always_Shut => k_is)
    (case e_Always_Shut => rfl)
    (case y_Always_Night => k_is)
    (case e_Always_Night => rfl)
    (case y_Always_Busy => k_is)
    (case e_Always_Busy => rfl)
    (case y_Always_Silent => k_is)
    (case e_Always_Silent => rfl)
    (case y_Always_Wait => k_is)
    (case e_Always_Wait => rfl)
    (case y_Always_Breaks => k_is)
    (case e_Always_Breaks => rfl)
    (case y_Night_Bar => k_is)
    (case e_Night_Bar => rfl)
    (case y_Night_Shut => k_is)
    (case e_Night_Shut => rfl)
    (case y_Night_Always => k_is)
    (case e_Night_Always => rfl)
    (case y_Night_Busy => k_is)
    (case e_Night_Busy => rfl)
    (case y_Night_Silent => k_is)
    (case e_Night_Silent => rfl)
    (case y_Night_Wait => k_is)
    (case e_Night_Wait => rfl)
    (case y_Night_Breaks => k_is)
    (case e_Night_Breaks => rfl)
    (case y_Busy_Bar => k_is)
    (case e_Busy_Bar => rfl)
    (case y_Busy_Shut => k_is)
    (case e_Busy_Shut => rfl)
    (case y_Busy_Always => k_is)
    (case e_Busy_Always => rfl)
    (case y_Busy_Night => k_is)
    (case e_Busy_Night => rfl)
    (case y_Busy_Silent => k_is)
    (case e_Busy_Silent => rfl)
    (case y_Busy_Wait => k_is)
    (case e_Busy_Wait => rfl)
    (case y_Busy_Breaks => k_is)
    (case e_Busy_Breaks => rfl)
    (case y_Silent_Bar => k_is)
    (case e_Silent_Bar => rfl)
    (case y_Silent_Shut => k_is)
    (case e_Silent_Shut => rfl)
    (case y_Silent_Always => k_is)
    (case e_Silent_Always => rfl)
    (case y_Silent_Night => k_is)
    (case e_Silent_Night => rfl)
    (case y_Silent_Busy => k_is)
    (case e_Silent_Busy => rfl)
    (case y_Silent_Wait => k_is)
    (case e_Silent_Wait => rfl)
    (case y_Silent_Breaks => k_is)
    (case e_Silent_Breaks => rfl)
    (case y_Wait_Bar => k_is)
    (case e_Wait_Bar => rfl)
    (case y_Wait_Shut => k_is)
    (case e_Wait_Shut => rfl)
    (case y_Wait_Always => k_is)
    (case e_Wait_Always => rfl)
    (case y_Wait_Night => k_is)
    (case e_Wait_Night => rfl)
    (case y_Wait_Busy => k_is)
    (case e_Wait_Busy => rfl)
    (case y_Wait_Silent => k_is)
    (case e_Wait_Silent => rfl)
    (case y_Wait_Breaks => k_is)
    (case e_Wait_Breaks => rfl)
    (case y_Breaks_Bar => k_is)
    (case e_Breaks_Bar => rfl)
    (case y_Breaks_Shut => k_is)
    (case e_Breaks_Shut => rfl)
    (case y_Breaks_Always => k_is)
    (case e_Breaks_Always => rfl)
    (case y_Breaks_Night => k_is)
    (case e_Breaks_Night => rfl)
    (case y_Breaks_Busy => k_is)
    (case e_Breaks_Busy => rfl)
    (case y_Breaks_Silent => k_is)
    (case e_Breaks_Silent => rfl)
    (case y_Breaks_Wait => k_is)
    (case e_Breaks_Wait => rfl)
    (case y_Bar_Wish => k_is)
    (case y_Shut_Wish => k_is)
    (case y_Always_Wish => k_is)
    (case y_Night_Wish => k_is)
    (case y_Busy_Wish => k_is)
    (case y_Silent_Wish => k_is)
    (case y_Wait_Wish => k_is)
    (case y_Breaks_Wish => k_is)
    (case z_range => k_is)
    (case z_enumerate => k_is)
    (case z_len => k_is)
    (case z_min => k_is)
    (case z_tuple => k_is)
    (case z_isinstance => k_is)
    (case z_all => k_is)
    (case z_zip => k_is)
    (case z_str => k_is)
    (case z_int => k_is)
    (case z_bool => k_is)
