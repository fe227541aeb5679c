import PyProof.Rows.All
import Wide.All
import OpenK.AllK
import Wide.FinOn
import PyProof.EqAt
import PyProof.EqKinds
import PyProof.TupleCall
import PyProof.AttrMiss
import PyProof.IsiH_list
import PyProof.Rows.SetFrom
import KE.KDictOf
import KE.KTab
import PyProof.AutoListH
import KE.KSortTup
import KE.KItemsList
import KE.KEqDict
import KE.KIntText
import Lean
import PyProof.RulesRaise
import PyProof.RulesTry
import KE.KTryDeep
import KE.KTryMore
import KE.KTryOn
import KE.TryInHelper
import KE.TryLedger
import PyProof.ExcArgsOwn
import PyProof.ExcAttrAll.ValueError
import KE.KIsAll
import PyProof.ExcBaseAll.ValueError
import PyProof.InstStoreFacts
import PyProof.ExcInit
import PyProof.SeqI3
import PyProof.ConsumeWalk
import PyProof.IsRules
import PyProof.SliceStr2
import PyProof.StrBlockI
import PyProof.StrLaws
import PyProof.ToksMono
import PyProof.StrCalls6
import PyProof.StrLawsReplace
import PySem.Challenge.RW_callboard_k06_plan_texts_spoiled
set_option genInjectivity false
set_option genSizeOfSpec false
set_option genSizeOf false
set_option Elab.async false
set_option linter.all false
set_option maxRecDepth 100000
set_option maxHeartbeats 4000000
noncomputable section
open List renaming length_map->bP,length_append->bS,mem_cons->bT,getElem?_eq_some_iff->bW,not_mem_nil->bY,getElem?_eq_getElem->bZ,size_toArray->b7,length_cons->b8,mem_cons_of_mem->ci,mem_map->cj,mem_cons_self->ck,map_append->cy,length_nil->cA,map_map->cB,length_singleton->cC,getElem?_map->cD,nil_append->cG,append_nil->cJ,all_eq_true->cL,length_take->cQ,length_drop->cU,mem_append_right->cV,map_cons->cY,mem_append->c7,mem_singleton->c8,cons_ne_nil->c9,append_assoc->df,lookup_cons->dg,take_of_length_le->dh,replicate_succ->dm,mem_of_getElem?->dt,length_range->du,take_length->dC,length_pos_iff->dE,count_append->dG,getElem?_append_left->dM,mapM_cons->dP,foldl_cons->dQ,mem_of_mem_take->dU,getElem?_append_right->dW,getElem?_set_self->dX,nodup_append->dZ,map_congr_left->d3,mem_range->eA,mem_of_mem_drop->eC,flatten_cons->eF,any_cons->eI,drop_eq_getElem_cons->eN,mem_filter->eO,getElem?_set_ne->eQ,nodup_cons->eV,any_eq_true->e7,filter_append->fi,take_add_one->fz,append_eq_append_iff->fD,getElem_mem->fF,length_tail->fH,all_cons->fL,of_mem_zip->fN,find?_cons->fO,drop_eq_nil_of_le->fR,getElem?_eq_none->fT,take_append_drop->fW,mem_append_left->fX,mem_of_mem_tail->gh,map_drop->gj,map_take->gk,filterMap_cons->gq,getElem_of_mem->gu,drop_zero->gD,nodup_nil->gE,length_eq_zero_iff->gF,filter_cons->gL,length_replicate->gN,getElem?_toArray->gQ,length_filter_le->gR,map_nil->gW,length_zip->hG,getElem?_range->hV,flatMap_append->hZ,drop_drop->ib,getD_eq_getElem?_getD->ip,getElem?_zip_eq_some->iA,pairwise_iff_getElem->iB,getElem_inj->iC,eq_of_mem_replicate->iR,getElem?_replicate->iS,forIn_cons->iW,find?_cons_of_neg->jb,forIn_nil->jd,mem_of_mem_head?->jk,count_cons_self->jz,mapM_nil->jD,filter_eq_self->jI,map_eq_nil_iff->jJ,mem_filterMap->jP,contains_cons->jV,length_mapIdx->jX,getElem_range->jY,getElem?_drop->j4,count_eq_zero->j5,any_eq_false->j6,drop_length->ko,zipIdx_cons->kq,getElem_map->ku,zipIdx_nil->kD,head?_drop->kG,drop_left->kH,all_map->kK,any_map->kM,any_nil->kO,map_id->kT
open PySem renaming wpAny_bind->bQ,wpAny_pure->cf,sizeLine_eq->cP,size_cat->cR,wpAny_mono->de,wpAny_field->dq,wpAny_holding->dA,wpAny_truthy_bool->dB,wpAny_callSpecial?_slot->dS,wpAny_call_entry->eh,wpAny_newObj_type->eE,wpAny_Call_Name_kw->eK,wpAny_seqItems->eZ,wpAny_setField_rec->fh,wpAny_passesOwn->fj,wpAny_pyIter_list->fu,call_meets->fC,wpAny_pyIter_zip->fG,mem_of_lookup->fJ,wpAny_execs_nil->fM,wpAny_pyIter_tuple->fP,wpAny_Call_method_late->fQ,codeAny_mono->fS,wpAny_setField->fU,wpAny_execs_cons->fY,typeIs_str->gc,codeAny_builtin->gw,wpAny_letOwnedTupleGo_zip->gx,wpAny_comprehension_free->gz,wpAny_Assign_Name->gG,wpAny_onRaise->gK,wpAny_call->gT,wpAny_updateSeq_pair->gY,isSubtype_type->h9,tupleKind_room_in1->ic,slot_dict_contains->ie,wpAny_standAt->io,wpAny_attempt->iq,wpAny_assign_Name->ir,wpAny_sequenceKey->iu,wpAny_typeOf->iH,wpAny_specialOf->iY,exec_Assign_Name_used->je,builtinLookup_eq_fast->jf,getitemInPython_of_ne->jg,wpAny_rule->jq,codeAny_call_builtin->js,wpAny_letTemporaryGo->ju,plainId_quiet->jC,concat_meets->jQ,seqIndex_neg->jS,slot_list_getitem->j7,slot_dict_getitem->j8,wpAny_pyIter_enum->ka,seqIndex_of->kg,wpAny_letGo->kh,wpAny_pyHash_str->ki,noFill_tuple_add->kl,wpAny_Name->ky,typeIs_int->kz
open Bool renaming and_eq_true->bR,false_ne_true->cg,eq_false_iff->cE,true_and->cW,false_and->cX,and_false->cZ,and_self->fm,and_eq_true_iff->gg,eq_iff_iff->gX,or_eq_true->iZ,or_false->jB
def bU:=@of_decide_eq_true
def bV:=@if_neg
def b9:=@if_pos
def cu:=@decide_eq_true
def cM:=@or_false
def cS:=@decide_eq_false
def dj:=@not_or
def dr:=@beq_iff_eq
def dJ:=@congrArg
def dN:=@beq_eq_false_iff_ne
def eM:=@of_decide_eq_false
def fA:=@decide_eq_true_eq
def fK:=@ne_true_of_eq_false
def gO:=@if_true
open PySem.Heap renaming get?_push_of_some->bX,lt_size->cp,get?_push_size->cz,size_push->dz,get?_update_self->d6,get?_update_other->eG,get?_none_of_le->gS
open Option.some renaming inj->ce
open Nat renaming le_refl->cq,lt_of_lt_of_le->cF,ne_of_lt->cI,le_trans->di,lt_irrefl->dv,le_add_right->dD,zero_le->dY,ne_of_gt->eU,min_eq_left->eX,lt_succ_self->fZ,le_succ->gp,mul_le_mul->gC,min_eq_right->gM,lt_succ_of_lt->iw,le_of_eq->iD,min_le_right->iG,succ_mul->iI,lt_trans->iJ,sub_zero->iL,le_of_lt->jO,lt_of_le_of_lt->jZ,log2_le_self->kx,zero_add->kL
open Ne renaming symm->cH
open Int renaming eq_ofNat_of_zero_le->cK,emod_lt_of_pos->cO,emod_nonneg->cT,toNat_natCast->eY,mul_le_mul_of_nonneg_left->hJ,emod_add_mul_ediv->jj,ediv_one->kI
open List.cons renaming inj->dw
open PyProof.Rows renaming callWith_type1->dF,slot_tuple_getitem->dH,callWith_builtin1->gU,SetOf_congr->iK,subscriptTail_builtinR->i9,entry_tuple_getitem->jE,args_tuple_getitem->jR
open PySem.PassesOwn renaming never->dI,leaving->gH
open Option renaming isSome_iff_exists->dO,bind_eq_some_iff->iV,map_some->iX,getD_none->km
open PySem.StrLaws renaming join_split->dR,split_free->ij,replace_one->jK
open PySem.Calls renaming spliced_cons->d9,callWith_builtin->e8,spliced_nil->ft,evalArgs_plain->fB,Constant_str->gy,Name_function_global->im
open PySem.W renaming kia_one->eJ,callWith_K->iE,looks_findIn->jc,plainGet_of->jA,kitx_list->ke,cellsFrom_some->kj,methodCall_KW->kC
open PySem.F renaming plainAttrs_str->e9,slot_tuple_iterator_next->fk,called_set->fE,slot_list_getattribute->gA,slot_str_split->gI,type_str_split->gJ,slot_dict_get->gP,slot_zip_next->gZ,args_tuple_iterator_next_1->ia,entry_tuple_iterator_next->ig,args_str_split_2->ii,entry_str_split->iy,slot_dict_getitem->iz,args_tuple_add_2->iF,slot_list_extend->iM,type_list_extend->iN,slot_str_split->iO,entry_tuple_add->iT,args_dict_get_3->iU,slot_tuple_add->i0,entry_dict_get->ja,attrBase_ValueError->jh,args_list_extend_2->jp,args_object_init_3->jv,excBase_ValueError->jx,entry_list_extend->jF,slot_list_extend->jT,args_zip_next_1->kc,typeCall_zip_2->kr,entry_zip_next->kt,slot_int_rmul->kA,newCall_zip_2->kE,entry_zip_new->kF
open PyProof.Rows.F renaming plain_set_update_loop->fg,entry_set_update_loop->gB
open Eq renaming symm->fV
open PySem.Around renaming under_plainId->gf
open Array renaming getElem?_setIfInBounds_self_of_lt->gi,toList_append->gv,length_toList->hU,toList_inj->iP,size_setIfInBounds->iQ,mem_toList_iff->jo,append_assoc->jN,size_append->j9
open PySem.Draws renaming list->g9
open PySem.Paired renaming length->ik,snoc->kQ
open PySem.AutoListH renaming list_insert_list_int_val_1->ji
open PySem.Walks renaming list->jr
open PySem.Heap.SameBut renaming update->jG
open PySem.SeqAt.EqAt renaming int_str->jL,str_int->jM
open PySem.Obj renaming data_mapFields->jU
open List.Nodup renaming sublist->jW
open PySem.Heap.DictOf renaming new->kB
open Nat.succ renaming inj->kN
open PySem.Heap.FunFrames renaming of_keeps->kP
open PySem.Moved renaming trans->kS
open PySem.Heap.IsSliceOf renaming new->kU
abbrev nz:=PySem.W.Frag
local macro_rules | `(tactic| walk_at "l") => `(tactic| (intro _ _ _ h; repeat (first | (obtain ⟨e, _⟩ := h; subst e; rfl; done) | (cases h; rename_i h))))
local macro_rules | `(tactic| walk_at "m") => `(tactic| (intro _ _ _ _ h; repeat (first | (obtain ⟨e, _⟩ := h; subst e; rfl; done) | (cases h; rename_i h))))
abbrev Vl:=PySem.Value
abbrev Sd:=PySem.Shared
abbrev Pg:=PySem.Program
abbrev Ar:=PySem.Around
abbrev Wo:=PySem.World
abbrev V0(α:Type _):=List α
abbrev QQQ:=List PySem.Str
abbrev QQX:=PySem.Value->PySem.Shared->Prop
abbrev QQY:=List (PySem.Addr×PySem.Obj)
abbrev QQZ:=PySem.Str->Option PySem.Value
abbrev QXQ:=List PySem.Addr
section
open PySem PySem.Spec PyProof.Rows
namespace L2
def x5{α:Sort u}{β:Sort v}{p q r:α->β->Prop}{C:Prop}(h:∃a b,p a b/\q a b/\r a b)(f:∀a b,p a b->q a b->r a b->C):C:=by obtain⟨a,b,h1,h2,h3⟩:=h;exact f a b h1 h2 h3
abbrev oK:=Sum Int Str
noncomputable def Am:oK->Vl->Bool
 | .inl k,v=>Value.isInt k v
 | .inr x,v=>Value.isStrOf x v
noncomputable def Qj(w:Wo):oK->Int
 | .inl k=>hashInt k
 | .inr x=>hashStr w x
def pB:∀{k:oK} {v:Vl},Am k v=true->(∃i t,k=Sum.inl i/\v=Value.int i t)\/(∃x t,k=Sum.inr x/\v=Value.str x t)
 | .inl i,v,h=>by obtain⟨t,e⟩:=Value.isInt_shape (k:=i) (v:=v) h;exact .inl ⟨i,t,rfl,e⟩
 | .inr x,v,h=>by obtain⟨t,e⟩:=Value.isStrOf_shape (x:=x) (v:=v) h;exact .inr ⟨x,t,rfl,e⟩
def F0(i:Int)(t:Tok):Am (.inl i) (.int i t)=true:=by simp[Am,Value.isInt]
def FT(x:Str)(t:Tok):Am (.inr x) (.str x t)=true:=by simp[Am,Value.isStrOf]
def Mg(a b:Int):decide ((Sum.inl a:oK)=Sum.inl b)=(a==b):=by
 by_cases e:a=b
 .subst e;simp
 .have h:¬(Sum.inl a:oK)=Sum.inl b:=λq=>e (Sum.inl.inj q);rw[cS h];exact(dN.mpr e).symm
def Nz(a b:Str):decide ((Sum.inr a:oK)=Sum.inr b)=decide (a=b):=by
 by_cases e:a=b
 .subst e;simp
 .have h:¬(Sum.inr a:oK)=Sum.inr b:=λq=>e (Sum.inr.inj q);rw[cS h,cS e]
def Oi(a:Int)(b:Str):decide ((Sum.inl a:oK)=Sum.inr b)=false:=cS (λq=>nomatch q)
def MQ(a:Str)(b:Int):decide ((Sum.inr a:oK)=Sum.inl b)=false:=cS (λq=>nomatch q)
noncomputable def oG(prog:Pg)(w:Wo):PySem.KeyKind prog w oK where
 is:=Am
 hash:=Qj w
 inj:=λv a b ha hb=>by
  rcases pB ha with⟨i,t,rfl,rfl⟩|⟨x,t,rfl,rfl⟩
  .rcases pB hb with⟨j,u,rfl,e⟩|⟨y,u,rfl,e⟩
   .injection e with e1 _;rw[e1]
   .exact nomatch e
  .rcases pB hb with⟨j,u,rfl,e⟩|⟨y,u,rfl,e⟩
   .exact nomatch e
   .injection e with e1 _;rw[e1]
 byValue:=λk v h=>by rcases pB h with⟨i,t,rfl,rfl⟩|⟨x,t,rfl,rfl⟩<;>rfl
 pyHash:=λhv h=>by
  rcases pB hv with⟨i,t,rfl,rfl⟩|⟨x,t,rfl,rfl⟩
  .exact wpAny_pyHash_int h
  .exact ki h
 eqBool:=λhu hv h=>by
  rcases pB hu with⟨i,t,rfl,rfl⟩|⟨x,t,rfl,rfl⟩
  .rcases pB hv with⟨j,u,rfl,rfl⟩|⟨y,u,rfl,rfl⟩
   .rw[Mg]at h;exact wpAny_eqBool_int h
   .rw[Oi]at h;exact jL i t y u _ _ _ _ h
  .rcases pB hv with⟨j,u,rfl,rfl⟩|⟨y,u,rfl,rfl⟩
   .rw[MQ]at h;exact jM x t j u _ _ _ _ h
   .rw[Nz]at h;exact wpAny_eqBool_str h
 «strs»:=λk x t v h=>by
  rcases pB h with⟨i,u,rfl,e⟩|⟨y,u,rfl,e⟩
  .exact nomatch e
  .injection e with e1 _
   subst e1;cases v<;>rfl
def Ck(prog:Pg)(w:Wo)(i:Int)(t:Tok):(oG prog w).is (.inl i) (.int i t)=true:=F0 i t
def xM(prog:Pg)(w:Wo)(x:Str)(t:Tok):(oG prog w).is (.inr x) (.str x t)=true:=FT x t
inductive V where
 | k9|bl (b:Bool)|int (i:Int)|str (x:Str)|byt (b:Array UInt8)|flt (b:UInt64)|ref (a:Addr)|ty (n:String)
 deriving DecidableEq
def nW:V->Vl->Prop
 | .k9,u=>u=Value.none
 | .bl b,u=>u=Value.bool b
 | .int i,u=>∃t,u=Value.int i t
 | .str x,u=>∃t,u=Value.str x t
 | .byt b,u=>∃t,u=Value.bytes b t
 | .flt b,u=>∃t,u=Value.float b t
 | .ref a,u=>u=Value.ref a
 | .ty n,u=>u=Value.type n
abbrev nI:V0 V->V0 Vl->Prop:=Paired nW
def nI.length{xs:V0 V}{us:V0 Vl}(r:nI xs us):xs.length=us.length:=ik r
theorem nI.get:∀{xs:V0 V} {us:V0 Vl} {i:Nat} {x:V},nI xs us->xs[i]?=some x->∃u,us[i]?=some u/\nW x u
 | _,_,_,_,.nil,e=>by simp at e
 | _,_,0,_,.cons r _,e=>by simp at e;subst e;exact⟨_,rfl,r⟩
 | _,_,i+1,x,.cons _ t,e=>by obtain⟨u,h1,h2⟩:=nI.get (i:=i) (x:=x) t (by simpa using e);exact⟨u,by simpa using h1,h2⟩
theorem nI.set{x:V}{u:Vl}(r:nW x u):∀{xs:V0 V} {us:V0 Vl} (i:Nat),nI xs us->nI (xs.set i x) (us.set i u)
 | _,_,_,.nil=>.nil
 | _,_,0,.cons _ t=>.cons r t
 | _,_,i+1,.cons q t=>.cons q (nI.set r i t)
theorem nI.append:∀{xs ys:V0 V} {us ws:V0 Vl},nI xs us->nI ys ws->nI (xs++ys) (us++ws)
 | _,_,_,_,.nil,s=>s
 | _,_,_,_,.cons r t,s=>.cons r (nI.append t s)
theorem nI.take:∀{xs:V0 V} {us:V0 Vl} (n:Nat),nI xs us->nI (xs.take n) (us.take n)
 | _,_,0,_=>.nil
 | _,_,_+1,.nil=>.nil
 | _,_,n+1,.cons r t=>.cons r (nI.take n t)
theorem nI.drop:∀{xs:V0 V} {us:V0 Vl} (n:Nat),nI xs us->nI (xs.drop n) (us.drop n)
 | _,_,0,r=>r
 | _,_,_+1,.nil=>.nil
 | _,_,n+1,.cons _ t=>nI.drop n t
def uj:Option V->Option Vl->Prop
 | some v,some u=>nW v u
 | none,none=>True
 | _,_=>False
def KV{κ:Type}:V0 (κ×V)->V0 (κ×Vl)->Prop:=Paired λ(p:κ×V) (q:κ×Vl)=>p.1=q.1/\nW p.2 q.2
noncomputable def kV:oK->V
 | .inl i=>.int i
 | .inr x=>.str x
inductive HO where
 | lst (xs:List V)
 | tup (xs:List V)
 | dK (kvs:List (oK×V))|dT (kvs:List (List oK×V))
 | set (S:Int->Bool) (n:Nat)
 | ins (C dx:Addr) (fs:List (Str×V))
 | own (x:Addr)
 | xd (fs:List (Str×V))
 | met (f x:Addr)
 | rng (lo hi:Int)
 | frz (o:Obj) (u:HO)
 | tbl (ps:Array Vl)
 | ext (φ:Heap->Prop)
abbrev Hp:=Addr->Option HO
noncomputable def upd(H:Hp)(a:Addr)(o:HO):Hp:=λb=>if b=a then some o else H b
def m9{H:Hp}{a:Addr}{o:HO}:upd H a o a=some o:=by unfold upd;rw[b9 rfl]
def ni{H:Hp}{a b:Addr}{o:HO}(h:b≠a):upd H a o b=H b:=by unfold upd;rw[bV h]
def Px{H:Hp}{a b:Addr}{o u:HO}(h:H a=some o)(h':H b=some u)(d:o≠u):a≠b:=by intro e;subst e;rw[h]at h';exact d (ce h')
def n9{H:Hp}{a b:Addr}{o:HO}(h:H a=some o)(h':H b=none):a≠b:=by intro e;subst e;rw[h]at h';cases h'
section
variable (P:Pg)(w:Wo)
def BF(h:Heap)(a:Addr)(its:Array Vl):Prop:=∃o,h.get? a=some o/\o.cls=.type "tuple"/\(∃n,o.data=.seq its n)/\o.dict=none
def pj(H:Hp)(h:Heap)(a:Addr):HO->Prop
 | .lst xs=>xs.length<=sizeLine/\∃(its:V0 Vl) (n:Nat),nI xs its/\h.get? a=some {cls:=.type "list",data:=.seq its.toArray n}
 | .tup xs=>xs.length<=sizeLine/\∃its:V0 Vl,nI xs its/\BF h a its.toArray
 | .dK kvs=>kvs.length<=sizeLine/\(a==sysModules)=false/\∃vs,KV kvs vs/\h.DictOf (oG P w) a vs
 | .dT kvs=>kvs.length<=sizeLine/\(a==sysModules)=false/\∃xs:V0 (List oK×Addr×Vl),Paired (λ(p:List oK×V) (q:List oK×Addr×Vl)=>p.1=q.1/\H q.2.1=some (.tup (p.1.map kV))/\nW p.2 q.2.2) kvs xs/\
   ∃o es ep,h.get? a=some o/\o.ExactDict/\o.data=.dict es ep/\es.toList=xs.map (entryOfKey (tupleKind (oG P w)))/\(xs.map (·.1)).Nodup
 | .set S n=>h.SetOf (intKind P w) a S n
 | .ins C dx fs=>H dx=some (.own a)/\fs.length<=1000/\dx≠a/\h.get? a=some (W.instObj C dx)/\
   ∃mA,h.Ns1 dx mA/\(∀f,uj (fs.lookup f) (mA f))/\PySem.Within mA (fs.map (·.1))
 | .own _=>∃o,h.get? a=some o
 | .xd fs=>∃mA,h.Ns1 a mA/\∀f,uj (fs.lookup f) (mA f)
 | .rng lo hi=>∃t u v,h.get? a=some {cls:=.type "range",data:=.fields #[.int lo t,.int hi u,.int 1 v]}
 | .frz o u=>h.get? a=some o/\pj H h a u
 | .tbl ps=>h.get? a=some {cls:=.none,data:=.fields ps}
 | .met f x=>h.get? a=some (W.methodObj (.ref f) (.ref x))
 | .ext φ=>φ h/\(∃o,h.get? a=some o)/\∀h1 h2:Heap,φ h1->(∀o,h1.get? a=some o->h2.get? a=some o)->φ h2
def uz(H:Hp)(h:Heap):Prop:=∀a o,H a=some o->pj P w H h a o
end
variable {H H':Hp}{h h':Heap}
section
variable {P:Pg}{w:Wo}{a:Addr}{o:HO}
def BF.is{its:Array Vl}(x:BF h a its):IsTup h a its:=let⟨o,e,c,d,_⟩:=x;⟨o,e,c,d⟩
def BF.new(h:Heap)(RQ:Array Vl):BF (h.push {cls:=.type "tuple",data:=.seq RQ}) h.objs.size RQ:=⟨_,cz _ rfl,rfl,⟨_,rfl⟩,rfl⟩
def pj.lt(x:pj P w H h a o):a<h.objs.size:=by
 cases o with
 | lst xs=>obtain⟨_,_,_,_,e⟩:=x;exact cp e
 | tup xs=>obtain⟨_,_,_,_,e,_⟩:=x;exact cp e
 | dK kvs=>obtain⟨_,_,_,_,o,_,_,e,_⟩:=x;exact cp e
 | dT kvs=>obtain⟨_,_,_,_,o,_,_,e,_⟩:=x;exact cp e
 | set S n=>obtain⟨o,_,_,_,e,_⟩:=x;exact cp e
 | ins C dx fs=>obtain⟨_,_,_,e,_⟩:=x;exact cp e
 | own y=>obtain⟨_,e⟩:=x;exact cp e
 | xd fs=>obtain⟨_,⟨_,_,_,e,_⟩,_⟩:=x;exact cp e
 | rng lo hi=>obtain⟨_,_,_,e⟩:=x;exact cp e
 | frz ob u=>obtain⟨e,_⟩:=x;exact cp e
 | tbl ps=>exact cp (show h.get? a=some _ from x)
 | met f y=>exact cp (show h.get? a=some _ from x)
 | ext φ=>obtain⟨_,⟨_,e⟩,_⟩:=x;exact cp e
theorem Paired.mf{α β:Type}{F G:α->β->Prop}:∀{l₁:List α} {l₂:List β},Paired F l₁ l₂->(∀a b,F a b->G a b)->Paired G l₁ l₂
 | _,_,.nil,_=>.nil
 | _,_,.cons r t,f=>.cons (f _ _ r) (Paired.mf t f)
def pj.ly(x:pj P w H h a o)(k:∀b u,(b=a\/H b=some (.own a))->h.get? b=some u->h'.get? b=some u) (ho:∀b,H b=some (.own a)->H' b=some (.own a)) (ht:∀b xs,H b=some (.tup xs)->H' b=some (.tup xs)):pj P w H' h' a o:=by
 induction o with
 | lst xs=>obtain⟨z,its,n,r,e⟩:=x;exact⟨z,its,n,r,k _ _ (.inl rfl) e⟩
 | tup xs=>obtain⟨z,its,r,ob,e,c⟩:=x;exact⟨z,its,r,ob,k _ _ (.inl rfl) e,c⟩
 | dK kvs=>obtain⟨z,y,vs,r,ob,es,ep,e,c⟩:=x;exact⟨z,y,vs,r,ob,es,ep,k _ _ (.inl rfl) e,c⟩
 | dT kvs=>obtain⟨z,y,xs,r,ob,es,ep,e,c⟩:=x;exact⟨z,y,xs,Paired.mf r λp q z=>⟨z.1,ht _ _ z.2.1,z.2.2⟩,ob,es,ep,k _ _ (.inl rfl) e,c⟩
 | set S n=>obtain⟨ob,es,ep,t,e,c⟩:=x;exact⟨ob,es,ep,t,k _ _ (.inl rfl) e,c⟩
 | ins C dx fs=>obtain⟨d,z,ne,e,mA,⟨od,es,ep,e2,c⟩,r⟩:=x;exact⟨ho _ d,z,ne,k _ _ (.inl rfl) e,mA,⟨od,es,ep,k _ _ (.inr d) e2,c⟩,r⟩
 | own y=>obtain⟨ob,e⟩:=x;exact⟨ob,k _ _ (.inl rfl) e⟩
 | xd fs=>obtain⟨mA,⟨od,es,ep,e,c⟩,r⟩:=x;exact⟨mA,⟨od,es,ep,k _ _ (.inl rfl) e,c⟩,r⟩
 | rng lo hi=>obtain⟨t,u,v,e⟩:=x;exact⟨t,u,v,k _ _ (.inl rfl) e⟩
 | frz ob u ih=>obtain⟨e,q⟩:=x;exact⟨k _ _ (.inl rfl) e,ih q⟩
 | tbl ps=>have e:h.get? a=some {cls:=.none,data:=.fields ps}:=x;show h'.get? a=some {cls:=.none,data:=.fields ps};exact k a _ (.inl rfl) e
 | met f y=>have e:h.get? a=some (W.methodObj (.ref f) (.ref y)):=x;show h'.get? a=some (W.methodObj (.ref f) (.ref y));exact k a _ (.inl rfl) e
 | ext φ=>obtain⟨p,⟨o,e⟩,st⟩:=x;exact⟨st _ _ p λo q=>k _ _ (.inl rfl) q,⟨o,k _ _ (.inl rfl) e⟩,st⟩
def uz.lt(x:uz P w H h)(e:H a=some o):a<h.objs.size:=(x a o e).lt
def uz.fresh(x:uz P w H h)(e:h.objs.size<=a):H a=none:=by
 cases q:H a with
 | none=>rfl
 | some u=>exact absurd (cF (x.lt q) e) (dv _)
def uz.kept(x:uz P w H h)(k:∀b u,h.get? b=some u->h'.get? b=some u):uz P w H h':=λa o e=>(x a o e).ly (λb u _ q=>k b u q) (λ_ q=>q) λ_ _ q=>q
def uz.laid(x:uz P w H h)(k:∀b u,h.get? b=some u->h'.get? b=some u)(hp:h.objs.size<=a)(new:pj P w (upd H a o) h' a o):uz P w (upd H a o) h':=λb u e=>by
 have hn:=x.fresh hp;by_cases hb:b=a
 .subst hb;rw[m9]at e;cases e;exact new
 .rw[ni hb]at e;exact(x b u e).ly (λc v _ q=>k c v q) (λc q=>by rw[ni (n9 q hn)];exact q) λc xs q=>by rw[ni (n9 q hn)];exact q
end
def Rd(H:Hp)(a:Addr)(u:HO):Prop:=H a=some u\/∃o,H a=some (.frz o u)
def Rd.ok{P:Pg}{w:Wo}{H:Hp}{h:Heap}{a:Addr}{u:HO}(r:Rd H a u)(x:uz P w H h):pj P w H h a u:=by
 rcases r with r|⟨o,r⟩
 .exact x a u r
 .obtain⟨_,q⟩:=x a _ r;exact q
def O4:Option HO->Prop
 | some (.lst _)=>True
 | some (.dK _)=>True
 | some (.dT _)=>True
 | some (.set _ _)=>True
 | some (.ins _ _ _)=>True
 | some (.ext _)=>True
 | _=>False
variable {o':HO}
section
variable {P:Pg}{w:Wo}{x e:Addr}
def uz.write(ok:uz P w H h)(mu:O4 (H x))(he:e=x\/H e=some (.own x))(k:∀b u,b≠e->h.get? b=some u->h'.get? b=some u)(heo:∃u,h'.get? e=some u) (new:pj P w (upd H x o') h' x o'):uz P w (upd H x o') h':=λb u q=>by
 have nown:∀c y,H c=some (.own y)->c≠x:=λc y r z=>by subst z;rw[r]at mu;exact mu
 have ntup:∀c xs,H c=some (.tup xs)->c≠x:=λc xs r z=>by subst z;rw[r]at mu;exact mu
 by_cases hb:b=x
 .subst hb;rw[m9]at q;cases q;exact new
 .rw[ni hb]at q;by_cases hbe:b=e
  .have q':H b=some (.own x):=by
    rcases he with z|z
    .exact absurd (hbe.trans z) hb
    .rw[hbe];exact z
   rw[q]at q';cases q';obtain⟨v,hv⟩:=heo;exact⟨v,by rw[hbe];exact hv⟩
  .refine(ok b u q).ly (λc v hc r=>k c v ?_ r) (λc r=>by rw[ni (nown c b r)];exact r) λc xs r=>by rw[ni (ntup c xs r)];exact r
   rcases hc with rfl|hc
   .exact hbe
   .rintro rfl
    rcases he with z|z
    .exact nown c b hc z
    .rw[hc]at z;cases z;exact hb rfl
end
structure Un(fs ex:QXQ)(H H':Hp)(h h':Heap):Prop where
 keep:∀b o,h.get? b=some o->H b=none->b∉fs->b∉ex->h'.get? b=some o
 slot:∀b o,h.get? b=some o->H b=none->b∈fs->b∉ex->∃sl,h'.get? b=some {o with slots:=sl}
 free:∀b o,h.get? b=some o->H b=none->b∉ex->H' b=none
 there:∀b o,h.get? b=some o->b∉ex->∃o',h'.get? b=some o'
 lD:∀b xs,H b=some (.tup xs)->H' b=some (.tup xs)
 lA:∀b o u,H b=some (.frz o u)->H' b=some (.frz o u)
 lE:∀b ps,H b=some (.tbl ps)->∃more,H' b=some (.tbl (ps++more))
variable {ex ex':QXQ}{H1 H2:Hp}{h1 h2:Heap}
section
variable {fs fs':QXQ}{a x e:Addr}{o:HO}
def Un.any(u:Un fs ex H H1 h h1){b:Addr}{ob:Obj}(q:h.get? b=some ob)(n:H b=none)(hx:b∉ex):∃sl,h1.get? b=some {ob with slots:=sl}:=by
 by_cases hb:b∈fs
 .exact u.slot b ob q n hb hx
 .exact⟨ob.slots,u.keep b ob q n hb hx⟩
def Un.trans(a:Un fs ex H H1 h h1)(b:Un fs ex H1 H2 h1 h2):Un fs ex H H2 h h2 where
 keep:=λc ob q n hc hx=>b.keep c ob (a.keep c ob q n hc hx) (a.free c ob q n hx) hc hx
 slot:=λc ob q n hc hx=>by obtain⟨sl,e1⟩:=a.slot c ob q n hc hx;obtain⟨Ui,e2⟩:=b.slot c _ e1 (a.free c ob q n hx) hc hx;exact⟨Ui,e2⟩
 free:=λc ob q n hx=>by obtain⟨o',e1⟩:=a.there c ob q hx;exact b.free c o' e1 (a.free c ob q n hx) hx
 there:=λc ob q hx=>by obtain⟨o',e1⟩:=a.there c ob q hx;exact b.there c o' e1 hx
 lD:=λc xs q=>b.lD c xs (a.lD c xs q)
 lA:=λc ob xs q=>b.lA c ob xs (a.lA c ob xs q)
 lE:=λc ps q=>by obtain⟨m1,e1⟩:=a.lE c ps q;obtain⟨m2,e2⟩:=b.lE c _ e1;exact⟨m1++m2,by rw[e2,jN]⟩
def Un.kept(k:∀b u,h.get? b=some u->h'.get? b=some u):Un fs ex H H h h':=
 ⟨λb ob q _ _ _=>k b ob q,λb ob q _ _ _=>⟨ob.slots,k b ob q⟩,λ_ _ _ n _=>n,λb ob q _=>⟨ob,k b ob q⟩,λ_ _ q=>q,λ_ _ _ q=>q,λ_ ps q=>⟨#[],by rw[q];simp⟩⟩
def Un.refl:Un fs ex H H h h:=Un.kept λ_ _ q=>q
def Un.laid(k:∀b u,h.get? b=some u->h'.get? b=some u)(hp:h.objs.size<=a)(hn:H a=none):Un fs ex H (upd H a o) h h' where
 keep:=λb u q _ _ _=>k b u q
 slot:=λb u q _ _ _=>⟨u.slots,k b u q⟩
 free:=λb u q n _=>by rw[ni (cI (cF (cp q) hp))];exact n
 there:=λb u q _=>⟨u,k b u q⟩
 lD:=λb xs q=>by rw[ni (n9 q hn)];exact q
 lA:=λb u xs q=>by rw[ni (n9 q hn)];exact q
 lE:=λb ps q=>⟨#[],by rw[ni (n9 q hn),q];simp⟩
def Un.write(mu:O4 (H x))(he:e=x\/H e=some (.own x))(k:∀b u,b≠e->h.get? b=some u->h'.get? b=some u)(heo:∃u,h'.get? e=some u):Un fs ex H (upd H x o) h h':=by
 have hx:∀b,H b=none->b≠x:=λb n z=>by subst z;rw[n]at mu;exact mu
 have hb:∀b,H b=none->b≠e:=λb n z=>by
  subst z;rcases he with r|r
  .exact hx b n r
  .rw[n]at r;cases r
 have hm:∀b u,H b=some u->¬O4 (some u)->b≠x:=λb u q nm z=>by subst z;rw[q]at mu;exact nm mu
 refine⟨λb u q n _ _=>k b u (hb b n) q,λb u q n _ _=>⟨u.slots,k b u (hb b n) q⟩,λb u q n _=>by rw[ni (hx b n)];exact n,λb u q _=>?_,λb xs q=>by rw[ni (hm b _ q λz=>z)];exact q,λb u xs q=>by rw[ni (hm b _ q λz=>z)];exact q,λb ps q=>⟨#[],by rw[ni (hm b _ q λz=>z),q];simp⟩⟩
 by_cases hbe:b=e
 .subst hbe;exact heo
 .exact⟨u,k b u hbe q⟩
end
noncomputable def Qh(h:Heap)(H:Hp):QXQ:=(List.range h.objs.size).filter λa=>(H a).isSome
noncomputable def BO(h:Heap)(H:Hp):Heap:=W.hideAll h (Qh h H)
def FD(h:Heap)(H:Hp):(BO h H).objs.size=h.objs.size:=W.hideAll_size _ _
def Hk{h:Heap}{H:Hp}{b:Addr}{o:Obj}(e:h.get? b=some o)(n:H b=none):(BO h H).get? b=some o:=
 W.hideAll_get _ e λhm=>by have q:(H b).isSome=true:=(eO.mp hm).2;rw[n]at q;simp at q
def KJ{h:Heap}{H:Hp}{b:Addr}{o:Obj}(e:(BO h H).get? b=some o):h.get? b=some o/\H b=none:=by
 have e':h.get? b=some o:=W.of_hideAll (Qh h H) e;refine⟨e',?_⟩;cases q:H b with
 | none=>rfl
 | some x=>have hm:b∈Qh h H:=eO.mpr ⟨eA.mpr (cp e'),by simp[q]⟩;have z:(BO h H).get? b=none:=W.hideAll_none (Qh h H) hm;rw[z]at e;cases e
structure Mod(K:nz)(mg:QQZ)(base:Heap):Prop where
 mi:K.In base
 glob:base.Ns mainGlobals mg
 blt:∃mb,base.Ns builtinsNs mb/\∀x:Str,x≠"__name__"->mb x=bootBuiltins x
 nolimit:base.NoLimit
structure Cx where
 prog:Pg
 w:Wo
 K:nz
 mg:QQZ
 base:Heap
 A:Ar
 N:QQQ
 s₀:Sd
 H₀:Hp
 env:Env
 outer:List Env
 stack:List Env
 ex:QXQ
 fn:Str->Bool
 calm:Bool
 pn:QQY
 xe:QQX
abbrev wj(X:Cx)(e:Expr)(es:V0 Expr):Prop:=starEach (e::es) X.env=(false,eval e X.env)::starEach es X.env
abbrev wX(X:Cx)(p:Pos)(es:V0 Expr):Prop:=(backTo p (starEach es X.env)).any (·.1)=false
abbrev vq(x:Str):Prop:=(x==("__debug__":Str))=false
abbrev BP(X:Cx)(x:Str):Prop:=X.fn x=true\/X.env.scope.names.lookup x=some .local
noncomputable def rg(l:V0 Env):QXQ:=l.filterMap (·.frame)
abbrev Cx.fs(X:Cx):QXQ:=rg X.outer
def L4(sc:Scope)(x:Str):Prop:=sc.names.lookup x=some .local\/sc.names.lookup x=some .cell\/sc.names.lookup x=some .free
def Bo(sc:Scope)(x:Str):Prop:=sc.names.lookup x=some .local\/sc.names.lookup x=some .cell
def Pv(env:Env)(h:Heap)(m:QQZ)(x:Str)(u:Vl):Prop:=
 (env.kindOf x=some .local/\m x=some u)\/((env.kindOf x=some .cell\/env.kindOf x=some .free)/\∃c,env.cells.lookup x=some c/\h.IsCell c (some u))
structure Cx.Ok(X:Cx):Prop where
 mod:Mod X.K X.mg X.base
 kind:X.env.scope.kind=.function
 glob:X.env.globals=mainGlobals
 blt:X.env.builtins=builtinsNs
 above:X.s₀.heap.objs.size<=X.env.locals
 inj:∀x y c,X.env.cells.lookup x=some c->X.env.cells.lookup y=some c->x=y
 has:∀x,(X.env.kindOf x=some .cell\/X.env.kindOf x=some .free)->∃c,X.env.cells.lookup x=some c
 l8:∀x c,X.fn x=true->X.env.cells.lookup x=some c->X.s₀.heap.objs.size<=c
 hd:X.calm=true->X.A.handled=none
 frames:X.A.frames=some X.stack
 mo:X.stack=X.outer\/(X.stack=X.env::X.outer/\X.env.frame=some X.env.locals)
 mz:∀b∈X.ex,b≠X.env.locals/\∀x c,X.env.cells.lookup x=some c->c≠b
 bs:∀b o,X.base.get? b=some o->X.s₀.heap.get? b=some o/\X.H₀ b=none
 lV:X.base.objs.size<=X.s₀.heap.objs.size
 lM:∀b o,X.base.get? b=some o->b∉X.ex
 lT:∀b∈X.ex,b∉X.fs
 lC:X.s₀.heap.FunFrames X.base X.outer
 lZ:∀b∈X.fs,X.H₀ b=none
structure Inv(X:Cx)(RP:QQY)(Y:List (Option V))(H:Hp)(s:Sd):Prop where
 ok:X.Ok
 os:s.os=X.s₀.os
 bare:AllBare s.gens
 base:Un X.fs X.ex X.H₀ H X.s₀.heap s.heap
 loc:∃m,s.heap.Ns X.env.locals m/\∀(i:Nat) (x:Str) (v:V),X.N[i]?=some x->Y[i]?=some (some v)->L4 X.env.scope x->∃u,nW v u/\Pv X.env s.heap m x u
 cell:∀x c,X.env.cells.lookup x=some c->∃v,s.heap.IsCell c v
 free:H X.env.locals=none
 lh:∀x c,X.env.cells.lookup x=some c->H c=none
 pin:∀p∈X.pn++RP,s.heap.get? p.1=some p.2/\H p.1=none/\p.1≠X.env.locals/\p.1∉X.fs/\∀v,p.2.data≠.cell v
 lb:uz X.prog X.w H s.heap
 len:Y.length=X.N.length
variable {X:Cx}{RP:V0 (Addr × Obj)}{s:Sd}
section
variable {Y:V0 (Option V)}
def Cx.Ok.nofr(ok:X.Ok){b:Addr}{o:Obj}(e:X.base.get? b=some o):b∉X.fs:=λhb=>by have:=(ok.lC.mem hb).1;rw[e]at this;cases this
def Inv.bs(I:Inv X RP Y H s):∀b o,X.base.get? b=some o->s.heap.get? b=some o/\H b=none:=λb o e=>⟨I.base.keep b o (I.ok.bs b o e).1 (I.ok.bs b o e).2 (I.ok.nofr e) (I.ok.lM b o e),I.base.free b o (I.ok.bs b o e).1 (I.ok.bs b o e).2 (I.ok.lM b o e)⟩
def Inv.bk(I:Inv X RP Y H s):∀b o,X.base.get? b=some o->s.heap.get? b=some o:=λb o e=>(I.bs b o e).1
def Inv.mod(I:Inv X RP Y H s):Mod X.K X.mg X.base:=I.ok.mod
def Inv.ls(I:Inv X RP Y H s):X.K.In s.heap:=I.ok.mod.mi.keeps I.bk
def Inv.lt(I:Inv X RP Y H s):X.env.locals<s.heap.objs.size:=let⟨_,hn,_⟩:=I.loc;hn.lt
def Inv.sz(I:Inv X RP Y H s):X.s₀.heap.objs.size<=s.heap.objs.size:=di I.ok.above (jO I.lt)
def Inv.mq(I:Inv X RP Y H s){a:Addr}(h:s.heap.objs.size<=a):a∉X.fs:=λhb=>by obtain⟨_,o,ho,_⟩:=I.ok.lC.mem hb;exact absurd (cF (cp ho) (di I.sz h)) (dv _)
def Inv.my(I:Inv X RP Y H s):∀x c,X.env.cells.lookup x=some c->c≠X.env.locals:=λx c e z=>by obtain⟨v,o,ho,hd⟩:=I.cell x c e;obtain⟨m,⟨o',es,ep,Si,UQ,_⟩,_⟩:=I.loc;rw[z,Si]at ho;cases ho;rw[UQ]at hd;cases hd
def Inv.lC(I:Inv X RP Y H s):s.heap.FunFrames X.base X.outer:=by
 have all:∀(l:V0 Env),(∀b∈rg l,b∈X.fs)->X.s₀.heap.FunFrames X.base l->s.heap.FunFrames X.base l:=by
  intro l;induction l with
  | nil=>intro _ _;trivial
  | cons env r ih=>intro hs hl;obtain⟨hk,⟨L,o,hf,hn,ho,hd⟩,hr⟩:=hl;have hL:L∈X.fs:=hs L (by unfold rg;rw[gq,hf];exact ck);obtain⟨sl,e⟩:=I.base.slot L o ho (I.ok.lZ L hL) hL λz=>I.ok.lT L z hL;exact⟨hk,⟨L,_,hf,hn,e,hd⟩,ih (λb hb=>hs b (by unfold rg;rw[gq,hf];exact ci _ hb)) hr⟩
 exact all X.outer (λ_ hb=>hb) I.ok.lC
def Inv.stack(I:Inv X RP Y H s):s.heap.FunFrames X.base X.stack:=by
 rcases I.ok.mo with e|⟨e,hf⟩
 .rw[e];exact I.lC
 .rw[e];obtain⟨m,hn,_⟩:=I.loc;refine .cons (by rw[I.ok.kind];decide) hf hn ?_ I.lC;exact gS (di I.ok.lV I.ok.above)
def Inv.lB(I:Inv X RP Y H s):∀b∈rg X.stack,b∈X.env.locals::X.fs:=λb hb=>by
 rcases I.ok.mo with e|⟨e,hf⟩
 .rw[e]at hb;exact ci _ hb
 .rw[e]at hb;unfold rg at hb;rw[gq,hf]at hb;exact hb
def Inv.lz(I:Inv X RP Y H s):∀b∈rg X.stack,H b=none:=λb hb=>by
 rcases bT.mp (I.lB b hb)with e|hb
 .rw[e];exact I.free
 .obtain⟨_,o,ho,_⟩:=I.ok.lC.mem hb;exact I.base.free b o ho (I.ok.lZ b hb) λz=>I.ok.lT b z hb
def Inv.step{g':Array GenState}{t':Nat}{d':Drawn}{ch:QXQ}(I:Inv X RP Y H s) (SZ:∀b∈ch,(b∈X.ex\/X.s₀.heap.objs.size<=b)/\b≠X.env.locals/\(∀x c,X.env.cells.lookup x=some c->c≠b)/\∀p∈X.pn++RP,p.1≠b) (keep:∀b o,b≠X.env.locals->b∉X.fs->b∉ch->s.heap.get? b=some o->H b=none->h'.get? b=some o) (slot:∀b o,b≠X.env.locals->b∈X.fs->b∉ch->s.heap.get? b=some o->H b=none->∃sl,h'.get? b=some {o with slots:=sl}) (free:∀b o,b∉ch->s.heap.get? b=some o->H b=none->H' b=none)
  (there:∀b o,b∉ch->s.heap.get? b=some o->∃o',h'.get? b=some o')
  (lD:∀b xs,H b=some (.tup xs)->H' b=some (.tup xs)) (lA:∀b o u,H b=some (.frz o u)->H' b=some (.frz o u)) (lE:∀b ps,H b=some (.tbl ps)->∃more,H' b=some (.tbl (ps++more)))
  (ns:∀m,s.heap.Ns X.env.locals m->h'.Ns X.env.locals m) (lb:uz X.prog X.w H' h') (hg:AllBare g'):
  Inv X RP Y H' {s with heap:=h',gens:=g',drawn:=d',toks:=t'}:=by
 have neL:∀b o,X.s₀.heap.get? b=some o->b≠X.env.locals:=λb o e=>cI (cF (cp e) I.ok.above);have neC:∀b o,X.s₀.heap.get? b=some o->b∉X.ex->b∉ch:=λb o e hx hb=>by
  rcases(SZ b hb).1 with z|z
  .exact hx z
  .exact absurd (cF (cp e) z) (dv _)
 have UA:∀x c,X.env.cells.lookup x=some c->∀v,s.heap.IsCell c v->h'.IsCell c v:=λx c e v ⟨o,ho,hd⟩=>by
  have nch:c∉ch:=λz=>(SZ c z).2.2.1 x c e rfl;by_cases hc:c∈X.fs
  .obtain⟨sl,q⟩:=slot c o (I.my x c e) hc nch ho (I.lh x c e);exact⟨_,q,hd⟩
  .exact⟨o,keep c o (I.my x c e) hc nch ho (I.lh x c e),hd⟩
 refine⟨I.ok,I.os,hg,⟨λb o e n hb hx=>?_,λb o e n hb hx=>?_,λb o e n hx=>?_,λb o e hx=>?_,λb xs e=>lD b xs (I.base.lD b xs e),λb o xs e=>lA b o xs (I.base.lA b o xs e),λb ps e=>?_⟩,?_,λx c e=>?_,?_,λx c e=>?_,λp hp=>?_,lb,I.len⟩
 .exact keep b o (neL b o e) hb (neC b o e hx) (I.base.keep b o e n hb hx) (I.base.free b o e n hx)
 .obtain⟨sl,e1⟩:=I.base.slot b o e n hb hx;obtain⟨Ui,e2⟩:=slot b _ (neL b o e) hb (neC b o e hx) e1 (I.base.free b o e n hx);exact⟨Ui,e2⟩
 .obtain⟨o',e1⟩:=I.base.there b o e hx;exact free b o' (neC b o e hx) e1 (I.base.free b o e n hx)
 .obtain⟨o',e1⟩:=I.base.there b o e hx;exact there b o' (neC b o e hx) e1
 .obtain⟨m1,e1⟩:=I.base.lE b ps e;obtain⟨m2,e2⟩:=lE b _ e1;exact⟨m1++m2,by rw[e2,jN]⟩
 .obtain⟨m,hn,hl⟩:=I.loc;refine⟨m,ns m hn,λi x v e1 e2 e3=>?_⟩;obtain⟨u,r,l⟩:=hl i x v e1 e2 e3;refine⟨u,r,?_⟩;rcases l with l|⟨k,c,e,z⟩
  .exact .inl l
  .exact .inr ⟨k,c,e,UA x c e _ z⟩
 .obtain⟨v,z⟩:=I.cell x c e;exact⟨v,UA x c e v z⟩
 .obtain⟨m,⟨o,_,_,ho,_⟩,_⟩:=I.loc;exact free _ o (λz=>(SZ _ z).2.1 rfl) ho I.free
 .obtain⟨v,o,ho,hd⟩:=I.cell x c e;exact free c o (λz=>(SZ c z).2.2.1 x c e rfl) ho (I.lh x c e)
 .obtain⟨e,n,ne,nf,d⟩:=I.pin p hp;have nch:p.1∉ch:=λz=>(SZ p.1 z).2.2.2 p hp rfl;exact⟨keep p.1 p.2 ne nf nch e n,free p.1 p.2 nch e n,ne,nf,d⟩
def Inv.un{t':Nat}(I:Inv X RP Y H s)(u:Un X.fs [] H H' s.heap h')(lb:uz X.prog X.w H' h'):Inv X RP Y H' {s with heap:=h',toks:=t'}:=by
 obtain⟨m,⟨o,es,ep,ho,r⟩,_⟩:=id I.loc;obtain⟨sl,hL⟩:=u.any ho I.free (by simp);exact I.step (g':=s.gens) (d':=s.drawn) (ch:=[]) (λ_ z=>nomatch z) (λb o _ hb _ e n=>u.keep b o e n hb (by simp)) (λb o _ hb _ e n=>u.slot b o e n hb (by simp)) (λb o _ e n=>u.free b o e n (by simp)) (λb o _ e=>u.there b o e (by simp)) u.lD u.lA u.lE (λm' hm=>by
  obtain⟨o',es',ep',Si,r'⟩:=hm;rw[ho]at Si;cases Si;exact⟨_,es',ep',hL,r'⟩) lb I.bare
def Inv.call{g':Array GenState}{t':Nat}{d':Drawn}{ch:QXQ}(I:Inv X RP Y H s)(u:Un (rg X.stack) ch H H' s.heap h')(lb:uz X.prog X.w H' h')(hg:AllBare g') (SZ:∀b∈ch,(b∈X.ex\/X.s₀.heap.objs.size<=b)/\b≠X.env.locals/\(∀x c,X.env.cells.lookup x=some c->c≠b)/\∀p∈X.pn++RP,p.1≠b):
  Inv X RP Y H' {s with heap:=h',gens:=g',drawn:=d',toks:=t'}:=by
 obtain⟨m,⟨o,es,ep,ho,r⟩,_⟩:=id I.loc;obtain⟨sl,hL⟩:=u.any ho I.free λz=>(SZ _ z).2.1 rfl;exact I.step (ch:=ch) SZ (λb o hL hb hc e n=>u.keep b o e n (λz=>(bT.mp (I.lB b z)).elim hL hb) hc) (λb o _ _ hc e n=>u.any e n hc) (λb o hc e n=>u.free b o e n hc) (λb o hc e=>u.there b o e hc) u.lD u.lA u.lE (λm' hm=>by
  obtain⟨o',es',ep',Si,r'⟩:=hm;rw[ho]at Si;cases Si;exact⟨_,es',ep',hL,r'⟩) lb hg
def Inv.turned{t':Nat}{it:Addr}(I:Inv X RP Y H s)(k:∀b o,b≠it->s.heap.get? b=some o->h'.get? b=some o)(hn:H it=none)(hL:it≠X.env.locals) (h1:it∈X.ex\/X.s₀.heap.objs.size<=it) (h2:∀x c,X.env.cells.lookup x=some c->c≠it) (h3:∀p∈X.pn++RP,p.1≠it):Inv X RP Y H {s with heap:=h',toks:=t'}:=by
 have nit:∀b u,H b=some u->b≠it:=λb u e z=>by rw[z,hn]at e;cases e
 refine I.step (g':=s.gens) (d':=s.drawn) (ch:=[it]) (λb hb=>?_) (λb o _ _ hc e _=>k b o (λz=>hc (by simp[z])) e) (λb o _ _ hc e _=>⟨o.slots,k b o (λz=>hc (by simp[z])) e⟩) (λ_ _ _ _ n=>n)
  (λb o hc e=>⟨o,k b o (λz=>hc (by simp[z])) e⟩) (λ_ _ e=>e) (λ_ _ _ e=>e) (λb ps e=>⟨#[],by rw[e];simp⟩) (λm hm=>?_) (λb u e=>?_) I.bare
 .have e:b=it:=by simpa using hb
  subst e;exact⟨h1,hL,h2,h3⟩
 .obtain⟨o,es,ep,ho,r⟩:=hm;exact⟨o,es,ep,k _ o (cH hL) ho,r⟩
 .refine(I.lb b u e).ly (λc v hc q=>k c v ?_ q) (λ_ q=>q) λ_ _ q=>q;rcases hc with z|z
  .rw[z];exact nit b u e
  .exact nit c _ z
def Inv.tok(I:Inv X RP Y H s)(t:Nat):Inv X RP Y H {s with toks:=t}:=I.un (h':=s.heap) (t':=t) Un.refl I.lb
def Inv.kept{t':Nat}(I:Inv X RP Y H s)(k:∀b u,s.heap.get? b=some u->h'.get? b=some u):Inv X RP Y H {s with heap:=h',toks:=t'}:=I.un (Un.kept k) (I.lb.kept k)
def Inv.laid{a:Addr}{o:HO}{t':Nat}(I:Inv X RP Y H s)(k:∀b u,s.heap.get? b=some u->h'.get? b=some u)(hp:s.heap.objs.size<=a)(new:pj X.prog X.w (upd H a o) h' a o):
  Inv X RP Y (upd H a o) {s with heap:=h',toks:=t'}:=I.un (Un.laid k hp (I.lb.fresh hp)) (I.lb.laid k hp new)
def Inv.write{x e:Addr}{o:HO}{t':Nat}(I:Inv X RP Y H s)(mu:O4 (H x))(he:e=x\/H e=some (.own x))(k:∀b u,b≠e->s.heap.get? b=some u->h'.get? b=some u)(heo:∃u,h'.get? e=some u) (new:pj X.prog X.w (upd H x o) h' x o):Inv X RP Y (upd H x o) {s with heap:=h',toks:=t'}:=I.un (Un.write mu he k heo) (I.lb.write mu he k heo new)
def Inv.lJ{Sn:QQY}(I:Inv X RP Y H s)(h:∀p∈Sn,s.heap.get? p.1=some p.2/\H p.1=none/\p.1≠X.env.locals/\p.1∉X.fs/\∀v,p.2.data≠.cell v):Inv X Sn Y H s:=
 ⟨I.ok,I.os,I.bare,I.base,I.loc,I.cell,I.free,I.lh,λp hp=>(c7.mp hp).elim (λz=>I.pin p (fX _ z)) (h p),I.lb,I.len⟩
def zb{N:QQQ}(hN:N.Nodup){i j:Nat}{x:Str}(a:N[i]?=some x)(b:N[j]?=some x):i=j:=by obtain⟨h1,e1⟩:=bW.mp a;obtain⟨h2,e2⟩:=bW.mp b;exact(iC hN).mp (e1.trans e2.symm)
def xh{M:Model}{A:Ar}{E:QQX}{i:Nat}{x:Str}{v:V}{u:Vl}{Q:Unit->Sd->Prop}(I:Inv X RP Y H s)(hN:X.N.Nodup)(hi:X.N[i]?=some x)(hx:Bo X.env.scope x)(r:nW v u) (h:∀s',Inv X RP (Y.set i (some v)) H s'->(∃a,Heap.SameBut a s.heap s'.heap/\(a=X.env.locals\/X.env.cells.lookup x=some a))->Q () s') (hf:BP X x:=by first|exact .inl rfl|exact .inr rfl|assumption):wpAny M A (storeName X.env x u) Q E s:=by
 obtain⟨m,hn,hl⟩:=id I.loc;have UR:(X.env.scope.kind==.class||(X.env.scope.kind==.module&&X.env.locals != X.env.globals))=false:=by rw[I.ok.kind];rfl
 have hiσ:i<Y.length:=by rw[I.len];exact(bW.mp hi).1
 have my:=I.my;have R5:∀{a:Addr} {h':Heap},(∃o,s.heap.get? a=some o/\H a=none)->Heap.SameBut a s.heap h'->uz X.prog X.w H h':=λ{a h'} ha hs b ob e=>by
  obtain⟨_,_,Su⟩:=ha;refine(I.lb b ob e).ly (λc w' hc q=>(hs.2 c ?_).trans q) (λ_ q=>q) λ_ _ q=>q
  rintro rfl
  rcases hc with rfl|hc
  .rw[Su]at e;cases e
  .rw[Su]at hc;cases hc
 rcases hx with hk|hk
 .refine wpAny_storeName_local hk hn (λh' Ts hs=>?_) UR;obtain⟨oL,_,_,hoL,_⟩:=id hn;refine h _ ⟨I.ok,I.os,I.bare,⟨λb o e n hb hx=>?_,λb o e n hb hx=>?_,I.base.free,λb o e hx=>?_,I.base.lD,I.base.lA,I.base.lE⟩,⟨_,Ts,λj y v' e1 e2 e3=>?_⟩,λy c e=>?_,I.free,I.lh,λp hp=>?_,R5 ⟨oL,hoL,I.free⟩ hs,by simpa using I.len⟩ ⟨_,hs,.inl rfl⟩
  .exact(hs.2 b (cI (cF (cp e) I.ok.above))).trans (I.base.keep b o e n hb hx)
  .obtain⟨sl,e1⟩:=I.base.slot b o e n hb hx;exact⟨sl,(hs.2 b (cI (cF (cp e) I.ok.above))).trans e1⟩
  .obtain⟨o',e1⟩:=I.base.there b o e hx;exact⟨o',(hs.2 b (cI (cF (cp e) I.ok.above))).trans e1⟩
  .by_cases hj:j=i
   .subst hj;rw[hi]at e1;cases e1;rw[dX hiσ]at e2;cases e2;exact⟨u,r,.inl ⟨hk,by simp⟩⟩
   .rw[eQ (cH hj)]at e2;obtain⟨u',r',q⟩:=hl j y v' e1 e2 e3;refine⟨u',r',?_⟩;rcases q with⟨k,e⟩|⟨k,c,e,z⟩
    .refine .inl ⟨k,?_⟩;have:y≠x:=λe=>hj (zb hN e1 (e ▸ hi));simp[this,e]
    .exact .inr ⟨k,c,e,z.sameBut hs (my y c e)⟩
  .obtain⟨w',z⟩:=I.cell y c e;exact⟨w',z.sameBut hs (my y c e)⟩
  .obtain⟨e,n,ne,nf,d⟩:=I.pin p hp;exact⟨(hs.2 p.1 ne).trans e,n,ne,nf,d⟩
 .have hfn:X.fn x=true:=by
   rcases hf with z|z
   .exact z
   .rw[z]at hk;cases hk
  obtain⟨c,hc⟩:=I.ok.has x (.inl hk);obtain⟨w',z⟩:=I.cell x c hc;refine wpAny_storeName_cell I.ok.kind hk hc z (λh' hc' hs=>?_);obtain⟨oc,hoc,hocd⟩:=id z;refine h {s with heap:=h'} ⟨I.ok,I.os,I.bare,⟨λb o e n hb hx=>?_,λb o e n hb hx=>?_,I.base.free,λb o e hx=>?_,I.base.lD,I.base.lA,I.base.lE⟩,⟨m,hn.sameBut hs (cH (my x c hc)),λj y v' e1 e2 e3=>?_⟩,λy c' e=>?_,I.free,I.lh,λp hp=>?_,R5 ⟨oc,hoc,I.lh x c hc⟩ hs,by simpa using I.len⟩ ⟨c,hs,.inr hc⟩
  .exact(hs.2 b (cI (cF (cp e) (I.ok.l8 x c hfn hc)))).trans (I.base.keep b o e n hb hx)
  .obtain⟨sl,e1⟩:=I.base.slot b o e n hb hx;exact⟨sl,(hs.2 b (cI (cF (cp e) (I.ok.l8 x c hfn hc)))).trans e1⟩
  .obtain⟨o',e1⟩:=I.base.there b o e hx;exact⟨o',(hs.2 b (cI (cF (cp e) (I.ok.l8 x c hfn hc)))).trans e1⟩
  .by_cases hj:j=i
   .subst hj;rw[hi]at e1;cases e1;rw[dX hiσ]at e2;cases e2;exact⟨u,r,.inr ⟨.inl hk,c,hc,hc'⟩⟩
   .rw[eQ (cH hj)]at e2;obtain⟨u',r',q⟩:=hl j y v' e1 e2 e3;refine⟨u',r',?_⟩;rcases q with q|⟨k,c',e,z'⟩
    .exact .inl q
    .refine .inr ⟨k,c',e,z'.sameBut hs ?_⟩
     rintro rfl
     exact hj (zb hN e1 (I.ok.inj _ _ _ e hc ▸ hi))
  .by_cases hcc:c'=c
   .subst hcc;exact⟨_,hc'⟩
   .obtain⟨w2,z2⟩:=I.cell y c' e;exact⟨w2,z2.sameBut hs hcc⟩
  .obtain⟨e,n,ne,nf,d⟩:=I.pin p hp;refine⟨(hs.2 p.1 ?_).trans e,n,ne,nf,d⟩;intro q;rw[q,hoc]at e;have q':oc=p.2:=ce e;exact d w' (by rw[<-q'];exact hocd)
def so{M:Model}{A:Ar}{E:QQX}{i:Nat}{x:Str}{v:V}{u:Vl}{Q:Unit->Sd->Prop}(I:Inv X RP Y H s)(hN:X.N.Nodup)(hi:X.N[i]?=some x)(hx:Bo X.env.scope x)(r:nW v u) (h:∀s',Inv X RP (Y.set i (some v)) H s'->Q () s') (hf:BP X x:=by first|exact .inl rfl|exact .inr rfl|assumption):wpAny M A (storeName X.env x u) Q E s:=
 xh I hN hi hx r (λs' I' _=>h s' I') hf
def Inv.lW{s':Sd}{ch:QXQ}(I:Inv X RP Y H s)(ho:s'.os=s.os)(u:Un (rg X.stack) ch H H' s.heap s'.heap)(lb:uz X.prog X.w H' s'.heap)(hg:AllBare s'.gens) (SZ:∀b∈ch,(b∈X.ex\/X.s₀.heap.objs.size<=b)/\b≠X.env.locals/\(∀x c,X.env.cells.lookup x=some c->c≠b)/\∀p∈X.pn++RP,p.1≠b):Inv X RP Y H' s':=by
 obtain⟨h',g',d',t',o'⟩:=s';have e:o'=s.os:=ho;subst e;exact I.call (g':=g') (t':=t') (d':=d') u lb hg SZ
end
abbrev XK:=Vl->Option Addr->Hp->Prop
abbrev St:=V0 (Option V)
abbrev VK:=V->Hp->Prop
abbrev TE:=St->Hp->VK->Prop
abbrev TT:=St->Hp->(Bool->Hp->Prop)->Prop
abbrev TA:=St->Hp->(V0 V->Hp->Prop)->Prop
structure yd where
 nx:St->Hp->Prop
 rt:VK
 bk:St->Hp->Prop:=λ_ _=>False
 ct:St->Hp->Prop:=λ_ _=>False
abbrev TS:=yd->St->Hp->Prop
def EP(X:Cx)(RP:QQY)(Y:St)(Q:VK)(u:Vl)(s':Sd):Prop:=∃v H',Inv X RP Y H' s'/\nW v u/\Q v H'
def TP(X:Cx)(RP:QQY)(Y:St)(Q:Bool->Hp->Prop)(b:Bool)(s':Sd):Prop:=∃H',Inv X RP Y H' s'/\Q b H'
def AP(X:Cx)(RP:QQY)(Y:St)(Q:V0 V->Hp->Prop)(us:V0 Vl)(s':Sd):Prop:=∃vs H',Inv X RP Y H' s'/\nI vs us/\Q vs H'
def SP(X:Cx)(RP:QQY)(D:yd)(f:Flow)(s':Sd):Prop:=
 match f with
 | .next=>∃σ' H',Inv X RP σ' H' s'/\D.nx σ' H'
 | .brk=>∃σ' H',Inv X RP σ' H' s'/\D.bk σ' H'
 | .cont=>∃σ' H',Inv X RP σ' H' s'/\D.ct σ' H'
 | .ret u=>∃v σ' H',Inv X RP σ' H' s'/\nW v u/\D.rt v H'
def PE(X:Cx)(e:Expr)(t:TE):Prop:=
 ∀(RP:QQY) (s:Sd) (Y:St) (H:Hp) (Q:VK),Inv X RP Y H s->t Y H Q->wpAny (model X.prog X.w) X.A (eval e X.env) (EP X RP Y Q) X.xe s
def PT(X:Cx)(e:Expr)(t:TT):Prop:=
 ∀(RP:QQY) (s:Sd) (Y:St) (H:Hp) (Q:Bool->Hp->Prop),Inv X RP Y H s->t Y H Q->wpAny (model X.prog X.w) X.A (isTrue e X.env (eval e X.env)) (TP X RP Y Q) X.xe s
def PW(X:Cx)(e:Expr)(t:TT):Prop:=
 ∀(SB:Sem Vl) (RP:QQY) (s:Sd) (Y:St) (H:Hp) (Q:Bool->Hp->Prop),Inv X RP Y H s->t Y H Q->wpAny (model X.prog X.w) X.A (isTrue e X.env SB) (TP X RP Y Q) X.xe s
def PW.pt{X:Cx}{e:Expr}{t:TT}(h:PW X e t):PT X e t:=h _
def PA(X:Cx)(es:V0 Expr)(t:TA):Prop:=
 ∀(pos:Pos) (RP:QQY) (s:Sd) (Y:St) (H:Hp) (Q:V0 V->Hp->Prop),Inv X RP Y H s->t Y H Q->wpAny (model X.prog X.w) X.A (spliced (backTo pos (starEach es X.env))) (AP X RP Y Q) X.xe s
def PS(X:Cx)(st:Stmt)(t:TS):Prop:=
 ∀(RP:QQY) (s:Sd) (Y:St) (H:Hp) (D:yd),Inv X RP Y H s->t D Y H->wpAny (model X.prog X.w) X.A (exec st X.env) (SP X RP D) X.xe s
def yk(X:Cx)(st:V0 Stmt)(t:TS):Prop:=
 ∀(RP:QQY) (s:Sd) (Y:St) (H:Hp) (D:yd),Inv X RP Y H s->t D Y H->wpAny (model X.prog X.w) X.A (execs st X.env) (SP X RP D) X.xe s
def pC{α:Type}{t:Sem α}{Q Q':α->Sd->Prop}{M:Model}{A:Ar}{E:QQX}{s:Sd}(h:wpAny M A t Q E s)(hQ:∀a s,Q a s->Q' a s):wpAny M A t Q' E s:=de h hQ λ_ _ x=>x
variable {tA tB':TT}{ta tb:TE}{pos:Pos}
section
def MO(i:Nat):TE:=λY H Q=>∃v,Y[i]?=some (some v)/\Q v H
def tC(v:V):TE:=λ_ H Q=>Q v H
def M8{i:Nat}{x:Str}{pos:Pos}(hN:X.N[i]?=some x)(hv:L4 X.env.scope x)(hd:vq x:=by decide)(SD:(x==("__classdict__":Str))=false:=by decide):PE X (.Name x pos) (MO i):=by
 intro RP s Y H Q I h;obtain⟨v,e,h⟩:=h;obtain⟨m,hn,hl⟩:=I.loc;obtain⟨u,r,l⟩:=hl i x v hN e hv;have RV:EP X RP Y Q u s:=⟨v,H,I,r,h⟩;rcases l with⟨hk,hm⟩|⟨hk,c,hc,hcell⟩
 .exact ky (wpAny_loadName_local I.ok.kind hk hn hm RV) hd
 .rcases hk with hk|hk
  .exact ky (wpAny_loadName_cell I.ok.kind hk hc hcell RV) hd
  .exact ky (wpAny_loadName_free I.ok.kind hk hc hcell RV SD) hd
def MV{i j pos}:PE X (.Constant (.int i) j pos) (tC (.int i)):=λ_ _ _ H _ I h=>wpAny_Constant_int ⟨.int i,H,I.tok _,⟨_,rfl⟩,h⟩
def PP{b j pos}:PE X (.Constant (.bool b) j pos) (tC (.bl b)):=λ_ _ _ H _ I h=>Constant_bool ⟨.bl b,H,I,rfl,h⟩
def N9{j pos}:PE X (.Constant .none j pos) (tC .k9):=λ_ _ _ H _ I h=>Constant_none ⟨.k9,H,I,rfl,h⟩
def Ob{x j pos}:PE X (.Constant (.str x) j pos) (tC (.str x)):=λ_ _ _ H _ I h=>gy ⟨.str x,H,I.tok _,⟨_,rfl⟩,h⟩
def Gl(X:Cx)(x:Str):Prop:=X.env.kindOf x=some .globalImplicit
def ud{E:QQX}{RP:QQY}{s:Sd}{Y:St}{H:Hp}{x:Str}{u:Vl}{pos:Pos}{Q:QQX}(I:Inv X RP Y H s)(hg:Gl X x)(hm:X.mg x=some u)(h:Q u s) (hd:vq x:=by decide):wpAny (model X.prog X.w) X.A (eval (.Name x pos) X.env) Q E s:=
 im I.ok.kind hg (Calls.loadGlobal_global (by rw[I.ok.glob];exact I.mod.glob.keeps I.bk) hm h) hd
def tq{E:QQX}{RP:QQY}{s:Sd}{Y:St}{H:Hp}{x:Str}{u:Vl}{pos:Pos}{Q:QQX}(I:Inv X RP Y H s)(hg:Gl X x)(hm:X.mg x=none)(hv:bootBuiltins x=some u)(h:Q u s) (hn:x≠"__name__":=by decide) (hd:vq x:=by decide):wpAny (model X.prog X.w) X.A (eval (.Name x pos) X.env) Q E s:=by
 obtain⟨mb,h1,h2⟩:=I.mod.blt;exact im I.ok.kind hg (Calls.loadGlobal_builtin (by rw[I.ok.glob];exact I.mod.glob.keeps I.bk) hm (by rw[I.ok.blt];exact h1.keeps I.bk) ((h2 x hn).trans hv) h) hd
def yq{x:Str}{v:V}{u:Vl}{pos:Pos}(hg:Gl X x)(hm:X.mg x=some u)(r:nW v u)(hd:vq x:=by decide):PE X (.Name x pos) (tC v):=
 λ_ _ _ H _ I h=>ud I hg hm ⟨v,H,I,r,h⟩ hd
def JX{x:Str}{v:V}{u:Vl}{pos:Pos}(hg:Gl X x)(hm:X.mg x=none)(hv:bootBuiltins x=some u)(r:nW v u)(hn:x≠"__name__":=by decide)(hd:vq x:=by decide):PE X (.Name x pos) (tC v):=
 λ_ _ _ H _ I h=>tq I hg hm hv ⟨v,H,I,r,h⟩ hn hd
variable {a b:Expr}
def tB(t:TE):TT:=λY H Q=>t Y H λx H1=>∃c,x=.bl c/\Q c H1
def MA{e:Expr}{t:TE}(h:PE X e t)(he:∀SB,isTrue e X.env SB=(do let v<-SB;standAt e.pos;holding [v] (truthy v)):=by intro _;rfl):PT X e (tB t):=by intro RP s Y H Q I hw;refine isTrue_plain (pC (h RP s Y H _ I hw) λv s1 zz=>x5 zz λx H1 I1 r1 q1=>?_) (he _);obtain⟨d,rfl,q⟩:=q1;cases r1;exact dB ⟨H1,I1,q⟩
variable {RU:V0 Expr}
def QI(t u:TT):TT:=λY H Q=>t Y H λc H1=>if c=true then u Y H1 Q else Q false H1
def RB(t u:TT):TT:=λY H Q=>t Y H λc H1=>if c=true then Q true H1 else u Y H1 Q
def Qq(t:TT):TT:=λY H Q=>t Y H λc H1=>Q (!c) H1
def JS(ha:PT X a tA):PW X (.BoolOp .And [a] pos) tA:=by
 intro wh RP s Y H Q I h;refine isTrue_and (pC (ha RP s Y H Q I h) λc s1 e=>?_);cases c with
 | true=>exact isTrue_and_nil e
 | false=>exact e
def NG(ha:PT X a tA):PW X (.BoolOp .Or [a] pos) tA:=by
 intro wh RP s Y H Q I h;refine isTrue_or (pC (ha RP s Y H Q I h) λc s1 e=>?_);cases c with
 | false=>exact isTrue_or_nil e
 | true=>exact e
def NM(ha:PT X a tA)(hb:PW X (.BoolOp .And (b::RU) pos) tB'):PW X (.BoolOp .And (a::b::RU) pos) (QI tA tB'):=by
 intro wh RP s Y H Q I h;refine isTrue_and (pC (ha RP s Y H _ I h) λc s1 ⟨H1,I1,q1⟩=>?_);cases c with
 | true=>exact hb wh RP s1 Y H1 Q I1 q1
 | false=>exact⟨H1,I1,q1⟩
def PM(ha:PT X a tA)(hb:PW X (.BoolOp .Or (b::RU) pos) tB'):PW X (.BoolOp .Or (a::b::RU) pos) (RB tA tB'):=by
 intro wh RP s Y H Q I h;refine isTrue_or (pC (ha RP s Y H _ I h) λc s1 ⟨H1,I1,q1⟩=>?_);cases c with
 | true=>exact⟨H1,I1,q1⟩
 | false=>exact hb wh RP s1 Y H1 Q I1 q1
def Mj(ha:PT X a tA):PT X (.UnaryOp .Not a pos) (Qq tA):=by intro RP s Y H Q I h;exact isTrue_not (ha RP s Y H (λc H1=>Q (!c) H1) I h)
def PX(ta tb:TE):TE:=λY H Q=>ta Y H λx H1=>∃c,x=.bl c/\if c=true then tb Y H1 Q else Q (.bl false) H1
def Ra(ta tb:TE):TE:=λY H Q=>ta Y H λx H1=>∃c,x=.bl c/\if c=true then Q (.bl true) H1 else tb Y H1 Q
def PN(ta:TE):TE:=λY H Q=>ta Y H λx H1=>∃c,x=.bl c/\Q (.bl (!c)) H1
def Ml{op}{t:TE}(h:PE X a t):PE X (.BoolOp op [a] pos) t:=λRP s Y H Q I hw=>BoolOp_one (h RP s Y H Q I hw)
def N6(ha:PE X a ta)(hb:PE X (.BoolOp .And (b::RU) pos) tb):PE X (.BoolOp .And (a::b::RU) pos) (PX ta tb):=by
 intro RP s Y H Q I h;refine BoolOp_and (pC (ha RP s Y H _ I h) λv s1 zz=>x5 zz λx H1 I1 r1 q1=>?_);obtain⟨c,rfl,q1⟩:=q1;cases r1;refine dB ?_;cases c with
 | true=>exact hb RP s1 Y H1 Q I1 q1
 | false=>exact⟨.bl false,H1,I1,rfl,q1⟩
def OX(ha:PE X a ta)(hb:PE X (.BoolOp .Or (b::RU) pos) tb):PE X (.BoolOp .Or (a::b::RU) pos) (Ra ta tb):=by
 intro RP s Y H Q I h;refine BoolOp_or (pC (ha RP s Y H _ I h) λv s1 zz=>x5 zz λx H1 I1 r1 q1=>?_);obtain⟨c,rfl,q1⟩:=q1;cases r1;refine dB ?_;cases c with
 | false=>exact hb RP s1 Y H1 Q I1 q1
 | true=>exact⟨.bl true,H1,I1,rfl,q1⟩
def MJ(ha:PE X a ta):PE X (.UnaryOp .Not a pos) (PN ta):=by intro RP s Y H Q I h;refine UnaryOp_ (pC (ha RP s Y H _ I h) λv s1 zz=>x5 zz λx H1 I1 r1 q1=>?_);obtain⟨c,rfl,q1⟩:=q1;cases r1;exact not_of (dB ⟨.bl (!c),H1,I1,rfl,q1⟩)
def RL(t:TT)(ta tb:TE):TE:=λY H Q=>t Y H λc H1=>if c=true then ta Y H1 Q else tb Y H1 Q
def Ie{c:Expr}(hc:PT X c tA)(ha:PE X a ta)(hb:PE X b tb):PE X (.IfExp c a b pos) (RL tA ta tb):=by
 intro RP s Y H Q I h;refine wpAny_IfExp (pC (hc RP s Y H _ I h) λd s1 ⟨H1,I1,q1⟩=>?_);cases d with
 | true=>exact ha RP s1 Y H1 Q I1 q1
 | false=>exact hb RP s1 Y H1 Q I1 q1
end
def sO(K:nz)(H:Hp)(a:Addr)(xs:V0 V):Prop:=
 Rd H a (.lst xs)\/
  ∃(o:Obj) (its:Array Vl) (n:Nat),K.lookup a=some o/\o.cls=.type "list"/\o.dict=none/\o.data=.seq its n/\its.size<=sizeLine/\nI xs its.toList
def rc(K:nz)(H:Hp)(a:Addr)(xs:V0 V):Prop:=
 Rd H a (.tup xs)\/
  ∃(o:Obj) (its:Array Vl) (n:Nat),K.lookup a=some o/\o.cls=.type "tuple"/\o.dict=none/\o.data=.seq its n/\its.size<=sizeLine/\nI xs its.toList
noncomputable def QA:Vl->Option V
 | .none=>some .k9
 | .bool b=>some (.bl b)
 | .int i _=>some (.int i)
 | .str x _=>some (.str x)
 | .bytes b _=>some (.byt b)
 | .float b _=>some (.flt b)
 | .ref a=>some (.ref a)
 | .type n=>some (.ty n)
 | _=>none
def nW.abs{x:V}{u:Vl}(r:nW x u):QA u=some x:=by
 cases x with
 | k9=>cases r;rfl
 | bl _=>cases r;rfl
 | int _=>obtain⟨t,rfl⟩:=r;rfl
 | str _=>obtain⟨t,rfl⟩:=r;rfl
 | byt _=>obtain⟨t,rfl⟩:=r;rfl
 | flt _=>obtain⟨t,rfl⟩:=r;rfl
 | ref _=>cases r;rfl
 | ty _=>cases r;rfl
def nW.inj{x y:V}{u:Vl}(r:nW x u)(q:nW y u):x=y:=ce (r.abs.symm.trans q.abs)
theorem nI.inj:∀{xs ys:V0 V} {us:V0 Vl},nI xs us->nI ys us->xs=ys
 | _,_,_,.nil,.nil=>rfl
 | _,_,_,.cons r t,.cons r' t'=>by rw[r.inj r',nI.inj t t']
variable {xs ys:V0 V}
section
variable {Y:St}{a:Addr}
def rc.of{K:nz}(h:H a=some (.tup xs)):rc K H a xs:=.inl (.inl h)
def Inv.list(I:Inv X RP Y H s)(h:sO X.K H a xs):∃its:V0 Vl,nI xs its/\PlainL s.heap a its.toArray/\xs.length<=sizeLine:=by
 rcases h with h|⟨o,its,n,hk,hc,hd,hs,hz,r⟩
 .obtain⟨z,its,n,r,e⟩:=h.ok I.lb;exact⟨its,r,⟨_,n,e,rfl,rfl,rfl⟩,z⟩
 .refine⟨its.toList,r,⟨o,n,I.ls a o hk,hc,hd,by simpa using hs⟩,?_⟩;have e:=r.length;simp only[hU]at e;lia
def Inv.tuple(I:Inv X RP Y H s)(h:rc X.K H a xs):∃its:V0 Vl,nI xs its/\IsTup s.heap a its.toArray/\xs.length<=sizeLine:=by
 rcases h with h|⟨o,its,n,hk,hc,hd,hs,hz,r⟩
 .obtain⟨z,its,r,p⟩:=h.ok I.lb;exact⟨its,r,p.is,z⟩
 .refine⟨its.toList,r,⟨o,I.ls a o hk,hc,n,by simpa using hs⟩,?_⟩;have e:=r.length;simp only[hU]at e;lia
def Inv.lx(I:Inv X RP Y H s)(h:sO X.K H a xs)(h':sO X.K H a ys):xs=ys:=by
 obtain⟨its,r,⟨o,n,e,_,_,d⟩,_⟩:=I.list h;obtain⟨its',r',⟨o',n',e',_,_,d'⟩,_⟩:=I.list h';rw[e]at e';cases e';rw[d]at d';injection d' with d1 _
 have:its=its':=by simpa using dJ Array.toList d1
 subst this;exact r.inj r'
def Inv.lm(I:Inv X RP Y H s)(h:rc X.K H a xs)(h':rc X.K H a ys):xs=ys:=by
 obtain⟨its,r,⟨o,e,_,n,d⟩,_⟩:=I.tuple h;obtain⟨its',r',⟨o',e',_,n',d'⟩,_⟩:=I.tuple h';rw[e]at e';cases e';rw[d]at d';injection d' with d1 _
 have:its=its':=by simpa using dJ Array.toList d1
 subst this;exact r.inj r'
end
abbrev Cx.lF(X:Cx)(E:QQX):Cx:={X with xe:=E}
abbrev Cx.mj(X:Cx):Cx:=X.lF λ_ _=>False
def Cx.Ok.lF{X:Cx}(ok:X.Ok)(E:QQX):(X.lF E).Ok:=
 ⟨ok.mod,ok.kind,ok.glob,ok.blt,ok.above,ok.inj,ok.has,ok.l8,ok.hd,ok.frames,ok.mo,ok.mz,ok.bs,ok.lV,ok.lM,ok.lT,ok.lC,ok.lZ⟩
def Cx.Ok.lu{X:Cx}{E:QQX}(ok:(X.lF E).Ok):X.Ok:=
 ⟨ok.mod,ok.kind,ok.glob,ok.blt,ok.above,ok.inj,ok.has,ok.l8,ok.hd,ok.frames,ok.mo,ok.mz,ok.bs,ok.lV,ok.lM,ok.lT,ok.lC,ok.lZ⟩
section
variable {Y:St}{E:QQX}
def Inv.lF(I:Inv X RP Y H s)(E:QQX):Inv (X.lF E) RP Y H s:=⟨I.ok.lF E,I.os,I.bare,I.base,I.loc,I.cell,I.free,I.lh,I.pin,I.lb,I.len⟩
def Inv.lu(I:Inv (X.lF E) RP Y H s):Inv X RP Y H s:=⟨I.ok.lu,I.os,I.bare,I.base,I.loc,I.cell,I.free,I.lh,I.pin,I.lb,I.len⟩
def SP.lu{D:yd}{f:Flow}{s':Sd}(h:SP (X.lF E) RP D f s'):SP X RP D f s':=by
 cases f with
 | next=>obtain⟨σ',H',I,q⟩:=h;exact⟨σ',H',I.lu,q⟩
 | brk=>obtain⟨σ',H',I,q⟩:=h;exact⟨σ',H',I.lu,q⟩
 | cont=>obtain⟨σ',H',I,q⟩:=h;exact⟨σ',H',I.lu,q⟩
 | ret u=>obtain⟨v,σ',H',I,r,q⟩:=h;exact⟨v,σ',H',I.lu,r,q⟩
def yk.mj{st:V0 Stmt}{t:TS}(h:yk X.mj st t):yk X st t:=λRP s Y H D I hw=>de (h RP s Y H D (I.lF _) hw) (λ_ _ q=>q.lu) λ_ _ z=>False.elim z
end
variable {st:Stmt}{u:TS}{te:TE}
section
variable {RU:V0 Stmt}{t:TS}{e:Expr}
def O7:TS:=λD Y H=>D.nx Y H
def Lq(t u:TS):TS:=λD Y H=>t {D with nx:=u D} Y H
def Lr:yk X [] O7:=λ_ _ Y H _ I h=>fM ⟨Y,H,I,h⟩
def Iz(h1:PS X st t)(h2:yk X RU u):yk X (st::RU) (Lq t u):=by
 intro RP s Y H D I h;refine fY (pC (h1 RP s Y H {D with nx:=u D} I h) λf s1 q=>?_);cases f with
 | next=>obtain⟨σ',H',I',q⟩:=q;exact h2 RP s1 σ' H' D I' q
 | ret v=>exact q
 | brk=>exact q
 | cont=>exact q
def Kk(h1:PS X st t):yk X [st] t:=by
 intro RP s Y H D I h;refine fY (pC (h1 RP s Y H D I h) λf s1 q=>?_);cases f with
 | next=>exact fM q
 | ret v=>exact q
 | brk=>exact q
 | cont=>exact q
def Inv.quiet{RP:QQY}{Y:St}{H:Hp}{s:Sd}(I:Inv X RP Y H s):interactive X.env=false:=by simp[interactive,I.ok.kind]
def Pi(te:TE):TS:=λD Y H=>te Y H λ_ H1=>D.nx Y H1
def KM(he:PE X e te)(hs:swapsWith e none pos.line X.env=pure false:=by rfl):PS X (.Expr e pos) (Pi te):=by intro RP s Y H D I h;exact wpAny_Expr_any (pC (he RP s Y H _ I h) λv s1 zz=>x5 zz λx H1 I1 r1 q1=>⟨Y,H1,I1,q1⟩) I.quiet hs
def QM(te:TE):TS:=λD Y H=>te Y H D.rt
def Mo(he:PE X e te):PS X (.Return (some e) pos) (QM te):=by intro RP s Y H D I h;exact wpAny_Return_some (pC (he RP s Y H _ I h) λv s1 zz=>x5 zz λx H1 I1 r1 q1=>⟨x,Y,H1,I1,r1,q1⟩)
def QD(c:TT)(t u:TS):TS:=λD Y H=>c Y H λb H1=>if b=true then t D Y H1 else u D Y H1
def O8{c:Expr}{a b:V0 Stmt}{tc:TT}(hc:PT X c tc)(ha:yk X a t)(hb:yk X b u):PS X (.If c a b pos) (QD tc t u):=by
 intro RP s Y H D I h;refine wpAny_If (pC (hc RP s Y H _ I h) λd s1 ⟨H1,I1,q1⟩=>?_);cases d with
 | true=>exact ha RP s1 Y H1 D I1 q1
 | false=>exact hb RP s1 Y H1 D I1 q1
def Ol:TS:=λ_ _ _=>False
def IX:PS X st Ol:=λ_ _ _ _ _ _ h=>h.elim
end
abbrev TG:=V->St->Hp->(St->Hp->Prop)->Prop
abbrev La:=V0 V->St->Hp->(St->Hp->Prop)->Prop
def PG(X:Cx)(Sr:Expr)(t:TG):Prop:=
 ∀(RP:QQY) (s:Sd) (Y:St) (H:Hp) (v:V) (u:Vl) (Q:St->Hp->Prop),Inv X RP Y H s->nW v u->t v Y H Q->
  wpAny (model X.prog X.w) X.A (assign Sr X.env u) (λ_ s'=>∃σ' H',Inv X RP σ' H' s'/\Q σ' H') X.xe s
def Jn(X:Cx)(ts:V0 Expr)(t:La):Prop:=
 ∀(RP:QQY) (s:Sd) (Y:St) (H:Hp) (vs:V0 V) (us:V0 Vl) (Q:St->Hp->Prop),Inv X RP Y H s->nI vs us->t vs Y H Q->
  wpAny (model X.prog X.w) X.A (assignInOrder ((assignEach ts X.env).map (·.2)) us) (λ_ s'=>∃σ' H',Inv X RP σ' H' s'/\Q σ' H') X.xe s
abbrev Om:=V->V->V->Hp->(Hp->Prop)->Prop
def OK(X:Cx)(t:Om):Prop:=
 ∀(RP:QQY) (s:Sd) (Y:St) (H:Hp) (o i v:V) (ov iv u:Vl) (Q:Hp->Prop),Inv X RP Y H s->nW o ov->nW i iv->nW v u->t o i v H Q->
  wpAny (model X.prog X.w) X.A (setItem ov iv u) (λ_ s'=>∃H',Inv X RP Y H' s'/\Q H') X.xe s
def yR(i:Nat):TG:=λv Y H Q=>Q (Y.set i (some v)) H
def Lj{i:Nat}{x:Str}(hN:X.N.Nodup)(hi:X.N[i]?=some x)(hx:Bo X.env.scope x)(hf:BP X x:=by first|exact .inl rfl|exact .inr rfl|assumption):PG X (.Name x pos) (yR i):=by intro RP s Y H v u Q I r h;exact ir (so I hN hi hx r (λs' I'=>⟨_,H,I',h⟩) hf)
def Q7:La:=λvs Y H Q=>vs=[]/\Q Y H
def Py(t:TG)(u:La):La:=λvs Y H Q=>∃v r,vs=v::r/\t v Y H λσ' H'=>u r σ' H' Q
def KP:Jn X [] Q7:=by intro RP s Y H vs us Q I r h;obtain⟨e,h⟩:=h;subst e;cases r;exact assignInOrder_nil ⟨Y,H,I,h⟩
def Hz{e:Expr}{es:V0 Expr}{t:TG}{u:La}(h1:PG X e t)(h2:Jn X es u) (hs:(assignEach (e::es) X.env).map (·.2)=assign e X.env::(assignEach es X.env).map (·.2):=by rfl):Jn X (e::es) (Py t u):=by
 intro RP s Y H vs us Q I r h;obtain⟨v,vr,e1,h⟩:=h;subst e1;cases r with
 | cons r rr=>rw[hs];refine assignInOrder_cons (pC (h1 RP s Y H _ _ _ I r h) λ_ s1 ⟨σ1,H1,I1,q1⟩=>?_);exact h2 RP s1 σ1 H1 _ _ Q I1 rr q1
def Qi(K:nz)(n:Nat)(t:La):TG:=λv Y H Q=>∃a xs,v=.ref a/\rc K H a xs/\xs.length=n/\t xs Y H Q
def Nh{es:V0 Expr}{k:Nat}{t:La}{n:Nat}(hc:X.calm=true)(h:Jn X es t) (hn:(assignEach es X.env).length=n:=by rfl) (Sv:(assignEach es X.env).findIdx? (·.1)=none:=by rfl):PG X (.Tuple es k pos) (Qi X.K n t):=by
 intro RP s Y H v u Q I r hw;obtain⟨a,xs,e1,hq,hl,hw⟩:=hw;subst e1;cases r;obtain⟨its,rv,ht,hz⟩:=I.tuple hq;refine assign_Tuple_tuple (I.ok.hd hc) ht (by simp[hn,<-hl,rv.length]) Sv λh' hx=>?_;have I1:Inv X RP Y H {s with heap:=h'}:=I.kept (t':=s.toks) λb o e=>hx b o (cI (cp e)) e;exact h RP _ Y H xs _ Q I1 (by simpa using rv) hw
def Q2(to ti:TE)(t:Om):TG:=λv Y H Q=>to Y H λo H1=>ti Y H1 λi H2=>t o i v H2 λH3=>Q Y H3
def Ma{o i:Expr}{to ti:TE}{t:Om}(ho:PE X o to)(hi:PE X i ti)(hs:OK X t) (ha:∀v,assign (.Subscript o i pos) X.env v=(do
   let ov<-holding [v] (eval o X.env);let iv<-holding [v,ov] (eval i X.env)
   standAt pos
   holding [v,ov,iv] (setItem ov iv v)
   release [v,ov,iv] []):=by intro _;rfl):PG X (.Subscript o i pos) (Q2 to ti t):=by
 intro RP s Y H v u Q I r h;rw[ha];refine bQ (dA (pC (ho RP s Y H _ I h) λov s1 zz=>x5 zz λx H1 I1 r1 q1=>?_));refine bQ (dA (pC (hi RP s1 Y H1 _ I1 q1) λiv s2 zz=>x5 zz λy H2 I2 r2 q2=>?_));refine bQ (io (bQ (dA (pC (hs RP s2 Y H2 x y v ov iv u _ I2 r1 r2 r q2) λ_ s3 ⟨H3,I3,q3⟩=>?_))));exact wpAny_release ⟨Y,H3,I3,q3⟩
def DZ(te:TE)(g:TG):TS:=λD Y H=>te Y H λx H1=>g x Y H1 D.nx
def NH{tg e:Expr}{te:TE}{g:TG}(he:PE X e te)(hg:PG X tg g)(hs:swapsWithSole [tg] e pos.line X.env=pure false:=by rfl)(hw:swappedStores [tg] e X.env=pure none:=by rfl)
  (h1:(assignEach [tg] X.env).map (·.2)=[assign tg X.env]:=by rfl):PS X (.Assign [tg] e pos) (DZ te g):=by
 intro RP s Y H D I h;refine wpAny_Assign_stores (pC (he RP s Y H _ I h) λv s1 zz=>x5 zz λx H1 I1 r1 q1=>?_) hs hw;rw[h1];exact pC (hg RP s1 Y H1 x v _ I1 r1 q1) λ_ s2 q=>q
def Mm{i:Nat}{x:Str}{e:Expr}{te:TE}{R1:Pos}(hN:X.N.Nodup)(hi:X.N[i]?=some x)(hx:Bo X.env.scope x)(he:PE X e te)(hs:swapsWith e (some (.Name x R1)) pos.line X.env=pure false:=by rfl)(hf:BP X x:=by first|exact .inl rfl|exact .inr rfl|assumption):
  PS X (.Assign [.Name x R1] e pos) (DZ te (yR i)):=by
 intro RP s Y H D I h;refine gG (pC (he RP s Y H _ I h) λv s1 zz=>x5 zz λy H1 I1 r1 q1=>?_) hs;exact so I1 hN hi hx r1 (λs2 I2=>⟨_,H1,I2,q1⟩) hf
def Nk(c:TT)(tb:TS):TS:=λD Y H=>∃W:Nat->St->Hp->Prop,(∃m,W m Y H)/\∀m Y H,W m Y H->
 c Y H λb H1=>if b=true then ∃N:St->Hp->Prop,(∀σ' H',N σ' H'->∃m',m'<m/\W m' σ' H')/\tb {D with nx:=N,ct:=N,bk:=D.nx} Y H1 else D.nx Y H1
def IC{c:Expr}{body:V0 Stmt}{tc:TT}{tb:TS}(hp:PassesOwn (model X.prog X.w) X.A X.env X.xe)(hc:PT X c tc)(hb:yk X body tb):PS X (.While c body [] pos) (Nk tc tb):=by
 intro RP s Y H D I h;obtain⟨W,⟨m0,w0⟩,SU⟩:=h;refine wpAny_While (codeAny_whileLoop (λn s'=>∃σ' H',Inv X RP σ' H' s'/\W n σ' H') ?_ m0 ⟨Y,H,I,w0⟩)
 rintro n s1 ⟨σ1,H1,I1,w1⟩
 refine fj hp (pC (hc RP s1 σ1 H1 _ I1 (SU n σ1 H1 w1)) λb s2 ⟨H2,I2,q2⟩=>?_);cases b with
 | true=>
  obtain⟨N,hN,q2⟩:=q2;rw[b9 rfl];refine fj hp (pC (hb RP s2 σ1 H2 _ I2 q2) λf s3 q3=>?_);cases f with
  | next=>obtain⟨σ3,H3,I3,n3⟩:=q3;obtain⟨m',hm,w3⟩:=hN σ3 H3 n3;exact⟨m',hm,σ3,H3,I3,w3⟩
  | cont=>obtain⟨σ3,H3,I3,n3⟩:=q3;obtain⟨m',hm,w3⟩:=hN σ3 H3 n3;exact⟨m',hm,σ3,H3,I3,w3⟩
  | brk=>exact q3
  | ret v=>exact q3
 | false=>rw[bV cg];exact fM ⟨σ1,H2,I2,q2⟩
structure It where
 go:Nat->Hp->Prop
 mv:Nat->Hp->V->Hp->Prop
 stop:Nat->Hp->Prop
def wm(X:Cx)(RP:QQY)(H:Hp)(b:Addr):Prop:=
 H b=none/\b≠X.env.locals/\b∉X.fs/\(b∈X.ex\/X.s₀.heap.objs.size<=b)/\(∀x c,X.env.cells.lookup x=some c->c≠b)/\∀p∈X.pn++RP,p.1≠b
def Inv.lN{X:Cx}{RP:QQY}{Y:St}{H H':Hp}{s:Sd}{b:Addr}(I:Inv X RP Y H s)(hb:s.heap.objs.size<=b)(hn:H' b=none):wm X RP H' b:=by
 refine⟨hn,eU (cF I.lt hb),I.mq hb,.inr (di I.sz hb),λx c e z=>?_,λp hp z=>?_⟩
 .obtain⟨v,q⟩:=I.cell x c e;exact absurd (cF q.lt (by rw[z];exact hb)) (dv _)
 .exact absurd (cF (cp (I.pin p hp).1) (by rw[z];exact hb)) (dv _)
structure Ai(P:Pg)(w:Wo)(K:nz)(tg:Expr)(J:It)(fp:QXQ)(it:Addr)(tn:Nat->Heap->Prop):Prop where
 mem:it∈fp
 obj:∀i h,tn i h->∀b∈fp,∃o,h.get? b=some o/\∀v,o.data≠.cell v
 keep:∀i h h',tn i h->(∀b∈fp,∀o,h.get? b=some o->h'.get? b=some o)->tn i h'
 item:∀(X:Cx),X.prog=P->X.w=w->X.K=K->X.calm=true->∀(i:Nat) (RP:QQY) (s:Sd) (Y:St) (H:Hp) (E:QQX),Inv X RP Y H s->(∀b∈fp,wm X RP H b)->tn i s.heap->J.go i H->
  wpAny (model P w) X.A (pyNext (.ref it)) (λr s1=>∃u,r=some u/\
   wpAny (model P w) X.A (letOwnedTupleGo tg (.ref it) u) (λ_ s2=>∃x H',Inv X RP Y H' s2/\nW x u/\J.mv i H x H'/\tn (i+1) s2.heap/\∀b∈fp,H' b=none) E s1) E s
 done:∀(X:Cx),X.prog=P->X.w=w->X.K=K->X.calm=true->∀(i:Nat) (RP:QQY) (s:Sd) (Y:St) (H:Hp) (E:QQX),Inv X RP Y H s->(∀b∈fp,wm X RP H b)->tn i s.heap->J.stop i H->
  wpAny (model P w) X.A (pyNext (.ref it)) (λr s1=>r=none/\Inv X RP Y H s1) E s
 self:∀(A:Ar) (i:Nat) (s:Sd) (Q:QQX) (E:QQX),tn i s.heap->Q (.ref it) s->wpAny (model P w) A (pyIter (.ref it)) Q E s
abbrev TI:=St->Hp->(It->Hp->Prop)->Prop
def Rv(X:Cx)(RP:QQY)(Y:St)(tg:Expr)(R:It->Hp->Prop)(itv:Vl)(s2:Sd):Prop:=
 ∃(it:Addr) (fp:QXQ) (tn:Nat->Heap->Prop) (J:It) (H':Hp),itv=.ref it/\Inv X RP Y H' s2/\Ai X.prog X.w X.K tg J fp it tn/\tn 0 s2.heap/\(∀b∈fp,wm X RP H' b)/\R J H'
def PI(X:Cx)(tg iter:Expr)(wi:TI):Prop:=
 ∀(RP:QQY) (s:Sd) (Y:St) (H:Hp) (R:It->Hp->Prop),Inv X RP Y H s->wi Y H R->
  wpAny (model X.prog X.w) X.A (eval iter X.env) (λv s1=>wpAny (model X.prog X.w) X.A (pyIter v) (Rv X RP Y tg R) X.xe s1) X.xe s
def Ez{M:Model}{A:Ar}{E:QQX}{s:Sd}{tg:Expr}{it:Addr}{u:Vl}{o:Obj}{n:String}{vs:Array Vl}{Q:Unit->Sd->Prop}(ho:s.heap.get? it=some o)(hc:o.cls=.type n)(hd:o.data=.fields vs) (hn:["enumerate","zip","dict_itemiterator","dict_reverseitemiterator","odict_iterator","itertools.zip_longest","itertools.pairwise"].contains n=false) (hQ:Q () s):wpAny M A (letOwnedTupleGo tg (.ref it) u) Q E s:=by
  unfold letOwnedTupleGo;cases tg<;>first
    | exact cf hQ
    | (cases u<;>first
        | exact cf hQ
        | (refine bQ (wpAny_load ho ?_)
           rw[hc,hd];show wpAny M A (if (["enumerate","zip","dict_itemiterator","dict_reverseitemiterator","odict_iterator","itertools.zip_longest","itertools.pairwise"].contains n&&vs[0]?==some (rawInt _))=true then _ else _) Q E s;rw[bV (by intro h;rw[hn,cX]at h;cases h)];exact cf hQ))
noncomputable def PZ(K:nz)(a:Addr):It:=
 ⟨λi H=>∃xs x,sO K H a xs/\xs[i]?=some x,λi H x H'=>H'=H/\∀xs,sO K H a xs->xs[i]?=some x,λi H=>∃xs,sO K H a xs/\xs.length<=i⟩
noncomputable def Qr(K:nz)(a:Addr):It:=
 ⟨λi H=>∃xs x,rc K H a xs/\xs[i]?=some x,λi H x H'=>H'=H/\∀xs,rc K H a xs->xs[i]?=some x,λi H=>∃xs,rc K H a xs/\xs.length<=i⟩
noncomputable def P4(lo:Int)(n:Nat):It:=⟨λi _=>i<n,λi H x H'=>H'=H/\x=.int (lo+i),λi _=>n<=i⟩
def Gb{P:Pg}{w:Wo}{K:nz}{tg:Expr}(a it:Addr):Ai P w K tg (PZ K a) [it] it (λi h=>h.IsListIter it a i) where
 mem:=by simp
 obj:=λi h st b hb=>by
  have e:b=it:=by simpa using hb
  subst e;obtain⟨o,e,c,d⟩:=st;exact⟨o,e,λv z=>by rw[d]at z;cases z⟩
 keep:=λi h h' st k=>st.at λo e=>k it (by simp) o e
 item:=by intro X hP hw hK hc i RP s Y H E I hf st hg;subst hP hw hK;obtain⟨xs,x,hq,hx⟩:=hg;obtain⟨its,rv,p,hz⟩:=I.list hq;obtain⟨u,hu,ru⟩:=rv.get hx;obtain⟨f0,f1,f2,f3,f4,f5⟩:=hf it (by simp);refine wpAny_pyNext_list_item st p.isList (x:=u) (by simpa using hu) λh' Tt sb=>?_;have I1:Inv X RP Y H {s with heap:=h'}:=I.turned (t':=s.toks) (λb o hb e=>(sb.2 b hb).trans e) f0 f1 f3 f4 f5;obtain⟨o,e,c,d⟩:=id Tt;exact⟨u,rfl,Ez (s:={s with heap:=h'}) e c d (by decide) ⟨x,H,I1,ru,⟨rfl,λys hy=>by rw[I.lx hy hq];exact hx⟩,Tt,λb hb=>(hf b hb).1⟩⟩
 done:=by intro X hP hw hK hc i RP s Y H E I hf st hg;subst hP hw hK;obtain⟨xs,hq,hx⟩:=hg;obtain⟨its,rv,p,hz⟩:=I.list hq;obtain⟨f0,f1,f2,f3,f4,f5⟩:=hf it (by simp);have hl:=rv.length;exact wpAny_pyNext_list_end (I.ok.hd hc) st p.isList (by simp;lia) λh' eb=>⟨rfl,I.turned (t':=s.toks) (λb o hb e=>eb b o hb e) f0 f1 f3 f4 f5⟩
 self:=λ_ _ _ _ _ st h=>wpAny_pyIter_listiter st h
def DS{P:Pg}{w:Wo}{K:nz}{tg:Expr}(a it:Addr):Ai P w K tg (Qr K a) [it] it (λi h=>h.IsTupleIter it a i) where
 mem:=by simp
 obj:=λi h st b hb=>by
  have e:b=it:=by simpa using hb
  subst e;obtain⟨o,e,c,d⟩:=st;exact⟨o,e,λv z=>by rw[d]at z;cases z⟩
 keep:=λi h h' st k=>st.at λo e=>k it (by simp) o e
 item:=by intro X hP hw hK hc i RP s Y H E I hf st hg;subst hP hw hK;obtain⟨xs,x,hq,hx⟩:=hg;obtain⟨its,rv,p,hz⟩:=I.tuple hq;obtain⟨u,hu,ru⟩:=rv.get hx;obtain⟨f0,f1,f2,f3,f4,f5⟩:=hf it (by simp);refine wpAny_pyNext_tuple_item st (show s.heap.IsTuple a its.toArray from p) (x:=u) (by simpa using hu) λh' Tt sb=>?_;have I1:Inv X RP Y H {s with heap:=h'}:=I.turned (t':=s.toks) (λb o hb e=>(sb.2 b hb).trans e) f0 f1 f3 f4 f5;obtain⟨o,e,c,d⟩:=id Tt;exact⟨u,rfl,Ez (s:={s with heap:=h'}) e c d (by decide) ⟨x,H,I1,ru,⟨rfl,λys hy=>by rw[I.lm hy hq];exact hx⟩,Tt,λb hb=>(hf b hb).1⟩⟩
 done:=by intro X hP hw hK hc i RP s Y H E I hf st hg;subst hP hw hK;obtain⟨xs,hq,hx⟩:=hg;obtain⟨its,rv,p,hz⟩:=I.tuple hq;obtain⟨f0,f1,f2,f3,f4,f5⟩:=hf it (by simp);have hl:=rv.length;exact wpAny_pyNext_tuple_end (I.ok.hd hc) st (show s.heap.IsTuple a its.toArray from p) (by simp;lia) λh' eb=>⟨rfl,I.turned (t':=s.toks) (λb o hb e=>eb b o hb e) f0 f1 f3 f4 f5⟩
 self:=λ_ _ _ _ _ st h=>wpAny_pyIter_tupleiter st h
def Eg{P:Pg}{w:Wo}{K:nz}{tg:Expr}(it:Addr)(lo:Int)(n:Nat):Ai P w K tg (P4 lo n) [it] it (λi h=>IsRangeIter h it (lo+(i:Nat)*1) ((n:Int) - (i:Nat)) 1) where
 mem:=by simp
 obj:=λi h st b hb=>by
  have e:b=it:=by simpa using hb
  subst e;exact⟨_,st,λv z=>by
   have z':Data.fields _=Data.cell v:=z;cases z'⟩
 keep:=λi h h' st k=>k it (by simp) _ st
 item:=by intro X hP hw hK hc i RP s Y H E I hf st hg;subst hP hw hK;obtain⟨f0,f1,f2,f3,f4,f5⟩:=hf it (by simp);have W:=Walks.range (prog:=X.prog) (w:=X.w) (I.ok.hd hc) it lo 1 n;refine W.item i s _ _ hg st λv h' tk hv Tt kk=>?_;obtain⟨t,rfl⟩:=hv;have I1:Inv X RP Y H {s with heap:=h',toks:=tk}:=I.turned (λb o hb e=>kk b o (by simpa using hb) e) f0 f1 f3 f4 f5;refine⟨_,rfl,Ez (s:={s with heap:=h',toks:=tk}) (n:="range_iterator") Tt rfl rfl (by decide) ⟨.int (lo+i),H,I1,⟨t,?_⟩,⟨rfl,rfl⟩,Tt,λb hb=>(hf b hb).1⟩⟩;rw[Int.mul_one]
 done:=by intro X hP hw hK hc i RP s Y H E I hf st hg;subst hP hw hK;obtain⟨f0,f1,f2,f3,f4,f5⟩:=hf it (by simp);exact wpAny_pyNext_range_end (I.ok.hd hc) st (by have:n<=i:=hg;lia) λh' eb=>⟨rfl,I.turned (t':=s.toks) (λb o hb e=>eb b o hb e) f0 f1 f3 f4 f5⟩
 self:=λ_ _ _ _ _ st h=>wpAny_pyIter_rangeiter st h
variable {tg:Expr}
def Hj{RP:QQY}{Y:St}{H:Hp}{s:Sd}{R:It->Hp->Prop}{E:QQX}{lo hi:Int}{t u v:Tok}{tk:Nat}(I:Inv X RP Y H s)(h1:-(2 ^ 62)<=lo)(h2:lo<2 ^ 62)(h3:-(2 ^ 62)<=hi)(h4:hi<2 ^ 62) (q:R (P4 lo (hi - lo).toNat) H):wpAny (model X.prog X.w) X.A (pyIter (.ref s.heap.objs.size)) (Rv X RP Y tg R) E {s with heap:=s.heap.push {cls:=.type "range",data:=.fields #[.int lo t,.int hi u,.int 1 v]},toks:=tk}:=by
 refine wpAny_pyIter_range (IsRange.new ..) (small_one h1 h2 h3 h4) ?_;have I1:Inv X RP Y H {s with heap:=s.heap.push {cls:=.type "range",data:=.fields #[.int lo t,.int hi u,.int 1 v]},toks:=tk}:=I.kept λb o e=>bX _ e;refine⟨(s.heap.push {cls:=.type "range",data:=.fields #[.int lo t,.int hi u,.int 1 v]}).objs.size,[(s.heap.push {cls:=.type "range",data:=.fields #[.int lo t,.int hi u,.int 1 v]}).objs.size],_,_,H,rfl,I1.kept (t':=tk) λb o e=>bX _ e,Eg _ lo (hi - lo).toNat,?_,λb hb=>?_,q⟩
 .have e1:lo+((0:Nat):Int)*1=lo:=by simp
  have e2:(((hi - lo).toNat:Nat):Int) - ((0:Nat):Int)=Builtin.Range.rangeSize lo hi 1:=by rw[rangeSize_one];split<;>lia
  show IsRangeIter _ _ (lo+((0:Nat):Int)*1) ((((hi - lo).toNat:Nat):Int) - ((0:Nat):Int)) 1;rw[e1,e2];exact cz _ rfl
 .have e:b=(s.heap.push {cls:=.type "range",data:=.fields #[.int lo t,.int hi u,.int 1 v]}).objs.size:=by simpa using hb
  subst e;exact I1.lN (cq _) (I1.lb.fresh (cq _))
def OL(ta:TA):TI:=λY H R=>ta Y H λvs H1=>∃j:Int,vs=[.int j]/\-(2 ^ 62)<=j/\j<2 ^ 62/\R (P4 0 j.toNat) H1
def F2{a:Expr}{ta:TA}{p pos:Pos}(hg:Gl X "range")(hm:X.mg "range"=none)(ha:PA X [a] ta)(hs:starEach [a] X.env=[(false,eval a X.env)]:=by rfl):PI X tg (.Call (.Name "range" p) [a] [] pos) (OL ta):=by
 intro RP s Y H R I h;refine Call_ (tq I hg hm boot_range (dF (pC (ha pos RP s Y H _ I h) λus s1 zz=>x5 zz λvs H1 I1 r1 q1=>?_) hs rfl));obtain⟨j,e,q1,q2,q⟩:=q1;subst e;cases r1 with
 | cons r rr=>cases rr;obtain⟨t,rfl⟩:=r;exact call_range_1 (Hj I1 (by lia) (by lia) q1 q2 (by simpa using q))
def Qs(wi:TI)(g:TG)(tb:TS):TS:=λD Y H=>wi Y H λJ H1=>∃W:Nat->Nat->St->Hp->Prop,(∃m,W 0 m Y H1)/\∀i m Y H,W i m Y H->
 (J.stop i H/\D.nx Y H)\/(J.go i H/\∃N:St->Hp->Prop,(∀σ' H',N σ' H'->∃m',m'<m/\W (i+1) m' σ' H')/\∀x H',J.mv i H x H'->g x Y H' λσ2 H2=>tb {D with nx:=N,ct:=N,bk:=D.nx} σ2 H2)
noncomputable def y6(fp:QXQ)(h:Heap):QQY:=fp.filterMap λb=>(h.get? b).map λo=>(b,o)
def se{fp:QXQ}{h:Heap}{b:Addr}{o:Obj}(hb:b∈fp)(e:h.get? b=some o):(b,o)∈y6 fp h:=jP.mpr ⟨b,hb,by rw[e];rfl⟩
def Fy{fp:QXQ}{h:Heap}{p:Addr×Obj}(hp:p∈y6 fp h):p.1∈fp/\h.get? p.1=some p.2:=by
 obtain⟨b,hb,e⟩:=jP.mp hp;cases q:h.get? b with
 | none=>rw[q]at e;cases e
 | some o=>rw[q]at e;have e':(b,o)=p:=ce e;subst e';exact⟨hb,q⟩
def Inv.pinned{RP:QQY}{Y:St}{H:Hp}{s:Sd}{fp:QXQ}(I:Inv X RP Y H s)(hf:∀b∈fp,wm X RP H b)(ho:∀b∈fp,∃o,s.heap.get? b=some o/\∀v,o.data≠.cell v):Inv X (RP++y6 fp s.heap) Y H s:=
 I.lJ λp hp=>(c7.mp hp).elim (λz=>I.pin p (cV _ z)) λz=>by obtain⟨hb,e⟩:=Fy z;obtain⟨f0,f1,f2,_⟩:=hf p.1 hb;obtain⟨o,e',d⟩:=ho p.1 hb;rw[e]at e';cases e';exact⟨e,f0,f1,f2,d⟩
def Inv.lc{RP pl:QQY}{Y:St}{H:Hp}{s:Sd}(I:Inv X (RP++pl) Y H s):Inv X RP Y H s:=I.lJ λp hp=>I.pin p (cV _ (fX _ hp))
def Nx{iter:Expr}{body:V0 Stmt}{wi:TI}{g:TG}{tb:TS}{pos:Pos}(hp:PassesOwn (model X.prog X.w) X.A X.env X.xe)(hc:X.calm=true)(hi:PI X tg iter wi)(hg:PG X tg g)(hb:yk X body tb) (hs:∀x,foldedSetIterable iter X.env x=pure x:=by intro _;rfl):PS X (.For tg iter body [] pos) (Qs wi g tb):=by
 intro RP s Y H D I h;refine wpAny_For (pC (hi RP s Y H _ I h) λv s1 h1=>pC h1 λitv s2 h2=>?_) hs;obtain⟨it,fp,tn,J,H2,e,I2,T,S9,f2,W,⟨m0,w0⟩,SU⟩:=h2;subst e;have Ta:∀{H':Hp},(∀b∈fp,H' b=none)->∀b∈fp,wm X RP H' b:=λhn b hb=>⟨hn b hb,(f2 b hb).2⟩;refine codeAny_forLoop_any (λn s'=>∃i σ' H',Inv X RP σ' H' s'/\tn i s'.heap/\(∀b∈fp,H' b=none)/\W i n σ' H') ?_ m0 ⟨0,Y,H2,I2,S9,λb hb=>(f2 b hb).1,w0⟩
 rintro n s3 ⟨i,σ3,H3,I3,st3,fr3,w3⟩
 rcases SU i n σ3 H3 w3 with⟨stop,qn⟩|⟨go,N,hN,step⟩
 .refine fj hp (pC (T.done X rfl rfl rfl hc i RP s3 σ3 H3 X.xe I3 (Ta fr3) st3 stop) λr s4 ⟨hr,I4⟩=>?_);subst hr;exact fM ⟨σ3,H3,I4,qn⟩
 .refine fj hp (pC (T.item X rfl rfl rfl hc i RP s3 σ3 H3 X.xe I3 (Ta fr3) st3 go) λr s4 ⟨u,hr,h4⟩=>?_);subst hr;refine fj hp (pC h4 λ_ s5 zz=>?_);obtain⟨x,H5,I5,r5,y5,UB,fr5⟩:=zz;have I5':=I5.pinned (Ta fr5) (T.obj _ _ UB);refine fj hp (pC (hg _ s5 σ3 H5 x u _ I5' r5 (step x H5 y5)) λ_ s6 ⟨σ6,H6,I6,q6⟩=>?_);refine fj hp (pC (hb _ s6 σ6 H6 _ I6 q6) λf s7 q7=>?_);have again:∀{σ7:St} {H7:Hp},Inv X (RP++y6 fp s5.heap) σ7 H7 s7->N σ7 H7->∃m,m<n/\∃i σ' H',Inv X RP σ' H' s7/\tn i s7.heap/\(∀b∈fp,H' b=none)/\W i m σ' H':=λ{σ7 H7} I7 n7=>by obtain⟨m',hm,w7⟩:=hN σ7 H7 n7;refine⟨m',hm,i+1,σ7,H7,I7.lc,T.keep _ _ _ UB λb hb o e=>(I7.pin (b,o) (cV _ (cV _ (se hb e)))).1,λb hb=>?_,w7⟩;obtain⟨o,e,d⟩:=T.obj _ _ UB b hb;exact(I7.pin (b,o) (cV _ (cV _ (se hb e)))).2.1
  cases f with
  | next=>obtain⟨σ7,H7,I7,n7⟩:=q7;exact again I7 n7
  | cont=>obtain⟨σ7,H7,I7,n7⟩:=q7;exact again I7 n7
  | brk=>obtain⟨σ7,H7,I7,q7⟩:=q7;exact⟨σ7,H7,I7.lc,q7⟩
  | ret v=>obtain⟨x7,σ7,H7,I7,r7,q7⟩:=q7;exact⟨x7,σ7,H7,I7.lc,r7,q7⟩
abbrev R2:=V->V->Hp->VK->Prop
def ul(X:Cx)(f:Vl->Vl->Sem Vl)(r:R2):Prop:=
 ∀(RP:QQY) (s:Sd) (Y:St) (H:Hp) (x y:V) (v u:Vl) (Q:VK),Inv X RP Y H s->nW x v->nW y u->r x y H Q->
  wpAny (model X.prog X.w) X.A (f v u) (EP X RP Y Q) X.xe s
def Qz(X:Cx)(f:Vl->Sem Vl)(r:V->Hp->VK->Prop):Prop:=
 ∀(RP:QQY) (s:Sd) (Y:St) (H:Hp) (x:V) (v:Vl) (Q:VK),Inv X RP Y H s->nW x v->r x H Q->
  wpAny (model X.prog X.w) X.A (f v) (EP X RP Y Q) X.xe s
def uC(X:Cx)(f:Vl)(r:V0 V->Hp->VK->Prop):Prop:=
 ∀(RP:QQY) (s:Sd) (Y:St) (H:Hp) (xs:V0 V) (us:V0 Vl) (Q:VK),Inv X RP Y H s->nI xs us->r xs H Q->
  wpAny (model X.prog X.w) X.A (call f us) (EP X RP Y Q) X.xe s
def Pd(r:R2)(ta tb:TE):TE:=λY H Q=>ta Y H λx H1=>tb Y H1 λy H2=>r x y H2 Q
def RI(r:V->Hp->VK->Prop)(ta:TE):TE:=λY H Q=>ta Y H λx H1=>r x H1 Q
def rI(C:Int->Int->Prop)(g:Int->Int->V):R2:=λx y H Q=>∃i j,x=.int i/\y=.int j/\C i j/\Q (g i j) H
def Lx(g:Int->Int->V):R2:=λx y H Q=>∃i j,x=.int i/\y=.int j/\Q (g i j) H
def rU(g:Int->V):V->Hp->VK->Prop:=λx H Q=>∃i,x=.int i/\Q (g i) H
variable {tc:TE}
section
variable {a b c:Expr}
def Nd(ha:PE X a ta)(hb:PE X b tb){RP:QQY}{s:Sd}{Y:St}{H:Hp}{R:V->V->Hp->Prop}(I:Inv X RP Y H s) (h:ta Y H λx H1=>tb Y H1 λy H2=>R x y H2) {Q:QQX} {f:Vl->Vl->Sem Vl} (hf:∀v u s2 x y H2,Inv X RP Y H2 s2->nW x v->nW y u->R x y H2->wpAny (model X.prog X.w) X.A (f v u) Q X.xe s2):
  wpAny (model X.prog X.w) X.A (eval a X.env) (λv s₁=>wpAny (model X.prog X.w) X.A (eval b X.env) (λu s₂=>wpAny (model X.prog X.w) X.A (f v u) Q X.xe s₂) X.xe s₁) X.xe s:=by
 refine pC (ha RP s Y H _ I h) λv s1 zz=>x5 zz λx H1 I1 r1 q1=>?_;refine pC (hb RP s1 Y H1 _ I1 q1) λu s2 zz=>x5 zz λy H2 I2 r2 q2=>?_;exact hf v u s2 x y H2 I2 r1 r2 q2
def Ig{op:Operator}{r:R2}(ho:ul X (binaryOp op) r)(ha:PE X a ta)(hb:PE X b tb):PE X (.BinOp a op b pos) (Pd r ta tb):=by intro RP s Y H Q I h;exact wpAny_BinOp (Nd ha hb I h λv u s2 x y H2 I2 rx ry q=>ho RP s2 Y H2 x y v u Q I2 rx ry q)
def Pm{op:UnaryOp}{r:V->Hp->VK->Prop}(ho:Qz X (unaryOp op) r)(ha:PE X a ta):PE X (.UnaryOp op a pos) (RI r ta):=by intro RP s Y H Q I h;exact UnaryOp_ (pC (ha RP s Y H _ I h) λv s1 zz=>x5 zz λx H1 I1 r1 q1=>ho RP s1 Y H1 x v Q I1 r1 q1)
def Qd{f:Vl->Vl->Sem Vl}{C:Int->Int->Prop}{g:Int->Int->Int} (rule:∀(i j:Int) (t u:Tok) (s:Sd) (Q:QQX) (E:QQX),C i j->Q (.int (g i j) s.toks) {s with toks:=s.toks+1}->wpAny (model X.prog X.w) X.A (f (.int i t) (.int j u)) Q E s):
  ul X f (rI C λi j=>.int (g i j)):=by
 intro RP s Y H x y v u Q I rx ry h;obtain⟨i,j,rfl,rfl,hc,q⟩:=h;obtain⟨t,rfl⟩:=rx;obtain⟨t',rfl⟩:=ry;exact rule i j t t' s _ _ hc ⟨.int (g i j),H,I.tok _,⟨_,rfl⟩,q⟩
def PD{f:Vl->Vl->Sem Vl}{g:Int->Int->Int} (rule:∀(i j:Int) (t u:Tok) (s:Sd) (Q:QQX) (E:QQX),Q (.int (g i j) s.toks) {s with toks:=s.toks+1}->wpAny (model X.prog X.w) X.A (f (.int i t) (.int j u)) Q E s):
  ul X f (Lx λi j=>.int (g i j)):=by
 intro RP s Y H x y v u Q I rx ry h;obtain⟨i,j,rfl,rfl,q⟩:=h;obtain⟨t,rfl⟩:=rx;obtain⟨t',rfl⟩:=ry;exact rule i j t t' s _ _ ⟨.int (g i j),H,I.tok _,⟨_,rfl⟩,q⟩
def JV{f:Vl->Vl->Sem Vl}{g:Int->Int->Bool} (rule:∀(i j:Int) (t u:Tok) (s:Sd) (Q:QQX) (E:QQX),Q (.bool (g i j)) s->wpAny (model X.prog X.w) X.A (f (.int i t) (.int j u)) Q E s):
  ul X f (Lx λi j=>.bl (g i j)):=by
 intro RP s Y H x y v u Q I rx ry h;obtain⟨i,j,rfl,rfl,q⟩:=h;obtain⟨t,rfl⟩:=rx;obtain⟨t',rfl⟩:=ry;exact rule i j t t' s _ _ ⟨.bl (g i j),H,I,rfl,q⟩
def OP(i j:Int):Prop:=0<j/\j<1073741824
def Le(i j:Int):Prop:=0<=j/\j<=1000000/\i.natAbs<2 ^ 64
def zR(i j:Int):Prop:=(-(2 ^ 64)<i/\i<2 ^ 64)\/(-(2 ^ 64)<j/\j<2 ^ 64)
def zR.ok{i j:Int}(h:zR i j):IntMulOk i j:=by
 rcases h with⟨h1,h2⟩|⟨h1,h2⟩
 .exact .of_left (intBits_le_64 h1 h2)
 .exact .of_right (intBits_le_64 h1 h2)
def NL:ul X (binaryOp .Add) (Lx λi j=>.int (i+j)):=PD λ_ _ _ _ _ _ _ q=>add_int q
def Na:ul X (binaryOp .Sub) (Lx λi j=>.int (i - j)):=PD λ_ _ _ _ _ _ _ q=>sub_int q
def Nt:ul X (binaryOp .Mult) (rI zR λi j=>.int (i*j)):=Qd λ_ _ _ _ _ _ _ hc q=>mul_int q hc.ok
def JI:ul X (binaryOp .FloorDiv) (rI OP λi j=>.int (i / j)):=Qd λi j _ _ _ _ _ hc q=>by have h1:(0:Int)<j:=hc.1;have h2:j<1073741824:=hc.2;exact floordiv_int (by lia) (by rw[Int.fdiv_eq_ediv_of_nonneg i (by lia)];exact q) (.inl (PyProof.noPylong_small (by lia)))
def MR:ul X (binaryOp .Mod) (rI (λ_ j=>0<j) λi j=>.int (i % j)):=Qd λi j _ _ _ _ _ hc q=>by have h1:(0:Int)<j:=hc;exact mod_int' (by lia) (by rw[Int.fmod_eq_emod_of_nonneg i (by lia)];exact q)
def L1:ul X (binaryOp .Pow) (rI Le λi j=>.int (i ^ j.toNat)):=Qd λ_ _ _ _ _ _ _ hc q=>pow_int_small hc.1 hc.2.1 hc.2.2 q
def RC{f:Vl->Sem Vl}{g:Int->Int} (rule:∀(i:Int) (t:Tok) (s:Sd) (Q:QQX) (E:QQX),Q (.int (g i) s.toks) {s with toks:=s.toks+1}->wpAny (model X.prog X.w) X.A (f (.int i t)) Q E s):
  Qz X f (rU λi=>.int (g i)):=by
 intro RP s Y H x v Q I rx h;obtain⟨i,rfl,q⟩:=h;obtain⟨t,rfl⟩:=rx;exact rule i t s _ _ ⟨.int (g i),H,I.tok _,⟨_,rfl⟩,q⟩
def Nr:Qz X (unaryOp .USub) (rU λi=>.int (-i)):=RC λ_ _ _ _ _ q=>neg_int q
end
section
variable {a b c:Expr}
def DJ{RP:QQY}{Y:St}{H:Hp}{s:Sd}{Q:VK}{k k':Bool}(I:Inv X RP Y H s)(q:Q (.bl k) H)(e:k=k'):EP X RP Y Q (.bool k') s:=by subst e;exact⟨.bl k,H,I,rfl,q⟩
def O6:ul X (compareOp .Lt) (Lx λi j=>.bl (decide (i<j))):=JV λ_ _ _ _ _ _ _ q=>lt_int q
def Pl:ul X (compareOp .LtE) (Lx λi j=>.bl (decide (i<=j))):=JV λ_ _ _ _ _ _ _ q=>le_int q
def OZ:ul X (compareOp .Gt) (Lx λi j=>.bl (decide (j<i))):=JV λ_ _ _ _ _ _ _ q=>gt_int q
def OD:ul X (compareOp .GtE) (Lx λi j=>.bl (decide (j<=i))):=JV λ_ _ _ _ _ _ _ q=>ge_int q
def FG:ul X (compareOp .In) (λx y H Q=>∃i j,x=.str i/\y=.str j/\Q (.bl (!(Builtin.Str.occurrences j i 0 j.length 1).isEmpty)) H):=by intro RP s Y H x y v u Q I rx ry h;obtain⟨i,j,rfl,rfl,q⟩:=h;obtain⟨t,rfl⟩:=rx;obtain⟨t',rfl⟩:=ry;exact in_str (DJ I q rfl)
def N7:ul X (compareOp .Is) (λx y H Q=>y=.k9/\Q (.bl (decide (x=.k9))) H):=by
 intro RP s Y H x y v u Q I rx ry h;obtain⟨rfl,q⟩:=h;cases ry;refine is_none_gen (DJ I q ?_);cases x<;>first
  | (cases rx;rfl)
  | (obtain⟨t,rfl⟩:=rx;rfl)
def KC:ul X (compareOp .IsNot) (λx y H Q=>y=.k9/\Q (.bl (!decide (x=.k9))) H):=by
 intro RP s Y H x y v u Q I rx ry h;obtain⟨rfl,q⟩:=h;cases ry;refine isnot_none_gen (DJ I q ?_);cases x<;>first
  | (cases rx;rfl)
  | (obtain⟨t,rfl⟩:=rx;rfl)
def Ej(b:Expr){op:CmpOp}(h:op≠.In:=by decide)(h2:op≠.NotIn:=by decide):behindInMarks op b=false:=by
 have e1:(op==CmpOp.In)=false:=by cases op<;>first|rfl|exact absurd rfl h
 have e2:(op==CmpOp.NotIn)=false:=by cases op<;>first|rfl|exact absurd rfl h2
 cases b<;>simp[behindInMarks,e1,e2]
def Br{op:CmpOp}{r:R2}(ho:ul X (compareOp op) r)(ha:PE X a ta)(hb:PE X b tb)(hm:behindInMarks op b=false):PE X (.Compare a [op] [b] pos) (Pd r ta tb):=by intro RP s Y H Q I h;exact wpAny_Compare1 (Nd ha hb I h λv u s2 x y H2 I2 rx ry q=>ho RP s2 Y H2 x y v u Q I2 rx ry q) hm
def LN(t:TE):TT:=λY H Q=>t Y H λx H'=>∃k,x=.bl k/\Q k H'
def JE{op:CmpOp}{r:R2}(ho:ul X (compareOp op) r)(ha:PE X a ta)(hb:PE X b tb)(hm:behindInMarks op b=false):PT X (.Compare a [op] [b] pos) (LN (Pd r ta tb)):=by
 intro RP s Y H Q I h;refine wpAny_isTrue_Compare1 (pC (ha RP s Y H _ I h) λv s1 zz=>x5 zz λx H1 I1 r1 q1=>pC (hb RP s1 Y H1 _ I1 q1) λu s2 zz=>x5 zz λy H2 I2 r2 q2=>
  pC (ho RP s2 Y H2 x y v u _ I2 r1 r2 q2) λc s3 zz=>?_) hm
 obtain⟨z,H3,I3,r3,k,e,q3⟩:=zz;subst e;cases r3;exact dB ⟨H3,I3,q3⟩
def GR(r r':R2)(ta tb tc:TE):TE:=λY H Q=>ta Y H λx H1=>tb Y H1 λy H2=>r x y H2 λz H3=>∃k,z=.bl k/\
 (if k=true then tc Y H3 λw' H4=>r' y w' H4 Q else Q (.bl false) H3)
def He{op SV:CmpOp}{r r':R2}(ho:ul X (compareOp op) r)(Si:ul X (compareOp SV) r')(ha:PE X a ta)(hb:PE X b tb)(hc:PE X c tc) (hm:lastMarks [op,SV] [b,c]=false:=by with_unfolding_all rfl):PE X (.Compare a [op,SV] [b,c] pos) (GR r r' ta tb tc):=by
 intro RP s Y H Q I h;refine Compare_chain (pC (ha RP s Y H _ I h) λv s1 zz=>x5 zz λx H1 I1 r1 q1=>chain_link (pC (hb RP s1 Y H1 _ I1 q1) λu s2 zz=>x5 zz λy H2 I2 r2 q2=>
  pC (ho RP s2 Y H2 x y v u _ I2 r1 r2 q2) λd s3 zz=>?_)) hm
 obtain⟨z,H3,I3,r3,k,e,q3⟩:=zz;subst e;cases r3;refine dB ?_;cases k with
 | false=>exact ite_ff ⟨.bl false,H3,I3,rfl,q3⟩
 | true=>exact ite_tt (chain_last (pC (hc RP s3 Y H3 _ I3 q3) λw' s4 zz=>x5 zz λz' H4 I4 r4 q4=>Si RP s4 Y H4 y z' u w' Q I4 r2 r4 q4))
def Ir{op SV:CmpOp}{r r':R2}(ho:ul X (compareOp op) r)(Si:ul X (compareOp SV) r')(ha:PE X a ta)(hb:PE X b tb)(hc:PE X c tc) (hm:lastMarks [op,SV] [b,c]=false:=by with_unfolding_all rfl):PT X (.Compare a [op,SV] [b,c] pos) (LN (GR r r' ta tb tc)):=by
 intro RP s Y H Q I h;refine isTrue_chain (pC (ha RP s Y H _ I h) λv s1 zz=>x5 zz λx H1 I1 r1 q1=>test_link (pC (hb RP s1 Y H1 _ I1 q1) λu s2 zz=>x5 zz λy H2 I2 r2 q2=>
  pC (ho RP s2 Y H2 x y v u _ I2 r1 r2 q2) λd s3 zz=>?_)) hm
 obtain⟨z,H3,I3,r3,k,e,q3⟩:=zz;subst e;cases r3;refine dB ?_;cases k with
 | false=>obtain⟨k',e',q'⟩:=q3;cases e';exact ite_ff ⟨H3,I3,q'⟩
 | true=>refine ite_tt (test_last (pC (hc RP s3 Y H3 _ I3 q3) λw' s4 zz=>x5 zz λz' H4 I4 r4 q4=>pC (Si RP s4 Y H4 y z' u w' _ I4 r2 r4 q4) λd' s5 zz=>?_));obtain⟨z2,H5,I5,r5,k2,e2,q5⟩:=zz;subst e2;cases r5;exact dB ⟨H5,I5,q5⟩
def xx:(sizeLine:Nat)<2 ^ 63:=by rw[cP];decide
def De:ul X (binaryOp .Add) (λx y H Q=>∃i j,x=.str i/\y=.str j/\i.length+j.length<=sizeLine/\Q (.str (i++j)) H):=by intro RP s Y H x y v u Q I rx ry h;obtain⟨i,j,rfl,rfl,hz,q⟩:=h;obtain⟨t,rfl⟩:=rx;obtain⟨t',rfl⟩:=ry;exact add_str (λt' tk=>⟨.str (i++j),H,I.tok _,⟨_,rfl⟩,q⟩) hz
def sf{x:V}{us:V0 Vl}(r:nI [x] us):∃u,us=[u]/\nW x u:=by
 cases r with
 | cons r1 r2=>cases r2;exact⟨_,rfl,r1⟩
def yM{x y:V}{us:V0 Vl}(r:nI [x,y] us):∃u w',us=[u,w']/\nW x u/\nW y w':=by
 cases r with
 | cons r1 r2=>
  cases r2 with
  | cons r3 r4=>cases r4;exact⟨_,_,rfl,r1,r3⟩
def Gs(hc:X.calm=true):uC X (.builtin "min") (λxs H Q=>∃i j,xs=[.int i,.int j]/\Q (.int (if j<i then j else i)) H):=by
 intro RP s Y H xs us Q I r h;obtain⟨i,j,rfl,q⟩:=h;obtain⟨u,w',rfl,⟨t,rfl⟩,⟨t',rfl⟩⟩:=yM r;refine min_two_ints (I.ok.hd hc) λh' tk k=>⟨_,H,I.kept k,?_,q⟩;by_cases hj:j<i
 .rw[b9 hj,b9 hj];exact⟨_,rfl⟩
 .rw[bV hj,bV hj];exact⟨_,rfl⟩
def AD:uC X (.type "int") (λxs H Q=>(∃i,xs=[.int i]/\Q (.int i) H)\/∃k,xs=[.bl k]/\Q (.int (if k then 1 else 0)) H):=by
 intro RP s Y H xs us Q I r h;rcases h with⟨i,rfl,q⟩|⟨k,rfl,q⟩
 .obtain⟨u,rfl,t,rfl⟩:=sf r;exact call_int_int ⟨.int i,H,I,⟨_,rfl⟩,q⟩
 .obtain⟨u,rfl,r1⟩:=sf r;cases r1;exact call_int_bool ⟨.int (if k then 1 else 0),H,I.tok _,⟨_,rfl⟩,q⟩
def AV:uC X (.type "str") (λxs H Q=>∃i,xs=[.int i]/\i.natAbs.log2<1920/\Q (.str (toString i)) H):=by intro RP s Y H xs us Q I r h;obtain⟨i,rfl,hz,q⟩:=h;obtain⟨u,rfl,t,rfl⟩:=sf r;exact PySem.P.str_of_int hz ⟨.str _,H,I.tok _,⟨_,rfl⟩,q⟩
end
structure Ed(h:Heap)(x dx C:Addr)(mA:QQZ):Prop where
 obj:h.get? x=some (W.instObj C dx)
 ns:h.Ns1 dx mA
 ne:dx≠x
def Gr{h:Heap}{dx:Addr}{mA:QQZ}(n:h.Ns1 dx mA):∃od,h.get? dx=some od/\∀name,W.lookIn name od=some (mA name):=by
 obtain⟨o,es,ep,ho,hd,hk,_,hm⟩:=n;refine⟨o,ho,λname=>?_⟩;have e:=hm name;unfold nsFind findBy at e;rw[<-Array.find?_toList]at e;unfold W.lookIn;rw[hd];dsimp only;split
 .rename_i y q;rw[q]at e;exact dJ some e
 .rename_i q;rw[q]at e;have a:es.toList.any (·.refKey)=false:=by rw[j6];intro y hy;obtain⟨z,t,hkey⟩:=hk y (jo.mp hy);simp[DictEntry.refKey,hkey]
  have a':¬es.toList.any (·.refKey)=true:=by rw[a];exact cg
  rw[bV a'];exact dJ some e
def Ed.look{h:Heap}{x dx C:Addr}{mA:QQZ}(I:Ed h x dx C mA):∃od,W.InstAt h x (W.instObj C dx) C (some od)/\∀name,W.lookIn name od=some (mA name):=
 let⟨od,ho,hl⟩:=Gr I.ns
 ⟨od,⟨I.obj,rfl,rfl,ho⟩,hl⟩
variable {prog:Pg}{A:Ar}{K:nz}{dx C:Addr}{mA:QQZ}{name:Str}
section
variable {w:Wo}{E:QQX}{x f:Addr}{v:Vl}
def KU{expr:Bool}{Q:QQX}(X:K.In s.heap)(I:Ed s.heap x dx C mA)(hg:W.plainGet K C name=true)(hh:W.hasDictIn K C=true) (ha:W.findIn K (.ref C) name=some none) (hv:mA name=some v) (hv':W.handedIn v=true) (h:Q v {s with toks:=s.toks+1}):
  wpAny (model prog w) A (getAttr (.ref x) name expr) Q E s:=by
 obtain⟨od,J,hl⟩:=I.look;exact W.get_value X J (jA hg).1 (W.findObj_own hh ha rfl (by rw[hl,hv])) hv' h
def Hm{pl:Sem Bool}{Q:Vl×V0 Vl->Sd->Prop}(X:K.In s.heap)(I:Ed s.heap x dx C mA)(hg:W.plainGet K C name=true) (hf:W.findIn K (.ref C) name=some (some (.ref f))) (ht:W.isFn K (.ref f)=true) (hv:mA name=none) (h:Q (.ref f,[.ref x]) s):
  wpAny (model prog w) A (getMethod (.ref x) name pl) Q E s:=by
 obtain⟨od,J,hl⟩:=I.look;exact W.method_fn X J (jA hg).1 (jA hg).2 hf (dr.mp ht) (by show(W.lookIn name od).map (·.isSome)=some false;rw[hl,hv];rfl) h
def Ks{ns:QQQ}{Q:Unit->Sd->Prop}(X:K.In s.heap)(I:Ed s.heap x dx C mA) (hs:W.findIn K (.ref C) "__setattr__"=some (some (.builtin "object.__setattr__"))) (hp:W.plainOver K C=true) (ht:W.takerIn K C name=some none) (hh:W.hasDictIn K C=true) (hw:PySem.Within mA ns) (hsz:ns.length<=sizeLine) (h:∀h',Ed h' x dx C (λy=>if y=name then some v else mA y)->Heap.SameBut dx s.heap h'->Q () {s with heap:=h',toks:=s.toks+2}):
  wpAny (model prog w) A (setAttr (.ref x) name v) Q E s:=by
 obtain⟨od,J,hl⟩:=I.look;refine W.set_plain X J hs (W.osa_open (s:={s with toks:=s.toks+1}) (r:=none) X J hp ht λb=>?_);obtain⟨cd,hc,UQ⟩:=W.any_some hh;have hx:s.heap.get? x=some ⟨.ref C,some dx,.plain,#[]⟩:=I.obj;refine bQ (cf (bQ (bQ (wpAny_loadPart hx (bQ (W.Looks.here (s:={s with toks:=s.toks+1}) (W.looks_clsIn X hc) ?_))))));rw[UQ];refine cf (a:=some dx) (bQ (cf (bQ ?_)));refine wpAny_nsSet1 (s:={s with toks:=s.toks+1}) I.ns λh' UC SE=>?_;obtain⟨oD,esD,epD,hoD,hdD,hcD⟩:=UC.count (PySem.Within.cons name v hw);refine bQ (wpAny_lookBehind hoD (by rw[hdD];exact pastItsLine_dict (di hcD (by rw[b8];lia))) ?_);exact cf (h _ ⟨(SE.2 _ (cH I.ne)).trans I.obj,UC,I.ne⟩ SE)
def GD{R:Result->Sd->Prop}{vs:V0 Vl}{kw:V0 (Str×Vl)}(X:K.In s.heap)(hm:W.makesIn K C=true) (hi:W.findIn K (.ref C) "__init__"=some (some (.ref f))) (hf:W.typeIn K (.ref f)=some (.type "function")) (h:codeAny (model prog w) (A.under (.builtin "type.__call__" ⟨.ref C::vs,kw⟩)) (.call (.ref f) ⟨.ref (s.heap.objs.size+1)::vs,kw⟩) (W.InitBack (s.heap.objs.size+1) R) {s with heap:=(s.heap.push W.emptyDict).push (W.instObj C s.heap.objs.size)}):
  codeAny (model prog w) A (.call (.ref C) ⟨vs,kw⟩) R s:=by
 obtain⟨hh,g,d,t,os⟩:=s;exact W.make_core (W.makes_of X hm) (jc X hi) (λself=>W.bind_fn X self hf) (.inl rfl) h
end
noncomputable def tK(f:Str)(v:V):V0 (Str×V)->V0 (Str×V)
 | []=>[(f,v)]
 | (g,x)::r=>if g=f then(g,v)::r else(g,x)::tK f v r
theorem xH(f g:Str)(v:V):∀fs:V0 (Str×V),(tK f v fs).lookup g=if g=f then some v else fs.lookup g
 | []=>by
  show List.lookup g [(f,v)]=_;by_cases h:g=f
  .have hb:(g==f)=true:=dr.mpr h;simp only[List.lookup,hb,b9 h]
  .have hb:(g==f)=false:=dN.mpr h;simp only[List.lookup,hb,bV h]
 | (k,x)::r=>by
  have ih:=xH f g v r;rw[show tK f v ((k,x)::r)=(if k=f then(k,v)::r else(k,x)::tK f v r)from rfl];by_cases hk:k=f
  .rw[b9 hk];by_cases h:g=k
   .have hb:(g==k)=true:=dr.mpr h;simp only[List.lookup,hb,b9 (h.trans hk)]
   .have hb:(g==k)=false:=dN.mpr h;simp only[List.lookup,hb,bV (λe:g=f=>h (e.trans hk.symm))]
  .rw[bV hk];by_cases h:g=k
   .have hb:(g==k)=true:=dr.mpr h;simp only[List.lookup,hb,bV (λe:g=f=>hk (h.symm.trans e))]
   .have hb:(g==k)=false:=dN.mpr h;simp only[List.lookup,hb];exact ih
theorem xf(f:Str)(v:V):∀fs:V0 (Str×V),f∈(tK f v fs).map (·.1)/\∀g,g∈fs.map (·.1)->g∈(tK f v fs).map (·.1)
 | []=>⟨by simp[tK],λg h=>by simp at h⟩
 | (k,x)::r=>by
  obtain⟨i1,i2⟩:=xf f v r;rw[show tK f v ((k,x)::r)=(if k=f then(k,v)::r else(k,x)::tK f v r)from rfl];by_cases hk:k=f
  .rw[b9 hk];subst hk;exact⟨by simp,λg h=>by simpa using h⟩
  .rw[bV hk];refine⟨?_,λg h=>?_⟩
   .rw[cY];exact ci _ i1
   .rw[cY]at h ⊢;rcases bT.mp h with e|e
    .exact bT.mpr (.inl e)
    .exact ci _ (i2 g e)
theorem xP(f:Str)(v:V):∀fs:V0 (Str×V),(tK f v fs).length<=fs.length+1
 | []=>by simp[tK]
 | (k,x)::r=>by
  have ih:=xP f v r;rw[show tK f v ((k,x)::r)=(if k=f then(k,v)::r else(k,x)::tK f v r)from rfl];by_cases hk:k=f
  .rw[b9 hk,b8,b8];lia
  .rw[bV hk,b8,b8];lia
def uj.some_of{v:V}{o:Option Vl}(r:uj (some v) o):∃u,o=some u/\nW v u:=by
 cases o with
 | none=>exact(show False from r).elim
 | some u=>exact⟨u,rfl,r⟩
def uj.none_of{o:Option Vl}(r:uj none o):o=none:=by
 cases o with
 | none=>rfl
 | some u=>exact(show False from r).elim
def Gx{v:V}{u:Vl}(r:nW v u):W.handedIn u=true:=by
 cases v with
 | k9=>cases(show u=Value.none from r);rfl
 | bl b=>cases(show u=Value.bool b from r);rfl
 | int i=>obtain⟨t,e⟩:=(show ∃t,u=Value.int i t from r);cases e;rfl
 | str x=>obtain⟨t,e⟩:=(show ∃t,u=Value.str x t from r);cases e;rfl
 | byt b=>obtain⟨t,e⟩:=(show ∃t,u=Value.bytes b t from r);cases e;rfl
 | flt b=>obtain⟨t,e⟩:=(show ∃t,u=Value.float b t from r);cases e;rfl
 | ref a=>cases(show u=Value.ref a from r);rfl
 | ty n=>cases(show u=Value.type n from r);rfl
section
variable {P:Pg}{w:Wo}{a:Addr}{fs fs':V0 (Str × V)}
def yg(lb:uz P w H h)(e:H a=some (.ins C dx fs)):∃mA,Ed h a dx C mA/\(∀f,uj (fs.lookup f) (mA f))/\PySem.Within mA (fs.map (·.1))/\fs.length<=1000/\H dx=some (.own a):=by obtain⟨d,z,ne,ob,mA,n,r,q⟩:=(show pj P w H h a (.ins C dx fs)from lb a _ e);exact⟨mA,⟨ob,n,ne⟩,r,q,z,d⟩
end
structure Cls(K:nz)(C:Addr):Prop where
 pg:W.plainGet K C Str.empty=true
 hd:W.hasDictIn K C=true
 po:W.plainOver K C=true
 sa:W.findIn K (.ref C) "__setattr__"=some (some (.builtin "object.__setattr__"))
def Cls.get{K:nz}{C:Addr}(c:Cls K C)(f:Str):W.plainGet K C f=true:=c.pg
def ra(K:nz)(C:Addr)(f:Str):Prop:=W.findIn K (.ref C) f=some none
def ra.mx{K:nz}{C:Addr}{f:Str}(n:ra K C f):W.takerIn K C f=some none:=by unfold W.takerIn;rw[show W.findIn K (.ref C) f=some none from n];rfl
structure zV(K:nz)(C:Addr)(m:Str)(f:Addr):Prop where
 at_:W.findIn K (.ref C) m=some (some (.ref f))
 fn:W.isFn K (.ref f)=true
 kp:W.keepIn K (.ref f)=true
section
variable {Y:St}{a:Addr}{fs:V0 (Str × V)}{f:Str}{v:V}{E:QQX}
def D0{b:Bool}{Q:QQX}(I:Inv X RP Y H s)(e:H a=some (.ins C dx fs))(c:Cls X.K C)(n:ra X.K C f)(l:fs.lookup f=some v) (h:∀u s',Inv X RP Y H s'->nW v u->Q u s'):wpAny (model X.prog X.w) A (getAttr (.ref a) f b) Q E s:=by
 obtain⟨mA,O,r,_,_,_⟩:=yg I.lb e;obtain⟨u,hu,ru⟩:=uj.some_of (v:=v) (o:=mA f) (by rw[<-l];exact r f);exact KU I.ls O (c.get f) c.hd n hu (Gx ru) (h u _ (I.tok _) ru)
def Dq{m:Str}{g:Addr}{pl:Sem Bool}{Q:Vl×V0 Vl->Sd->Prop}(I:Inv X RP Y H s)(e:H a=some (.ins C dx fs))(c:Cls X.K C)(k:zV X.K C m g)(l:fs.lookup m=none) (h:Q (.ref g,[.ref a]) s):wpAny (model X.prog X.w) A (getMethod (.ref a) m pl) Q E s:=by
 obtain⟨mA,O,r,_,_,_⟩:=yg I.lb e;have hn:mA m=none:=uj.none_of (by rw[<-l];exact r m);exact Hm I.ls O (c.get m) k.at_ k.fn hn h
def Eh{y:V}{u:Vl}{Q:Unit->Sd->Prop}(I:Inv X RP Y H s)(e:H a=some (.ins C dx fs))(c:Cls X.K C)(n:ra X.K C f)(hl:fs.length<1000)(ry:nW y u) (h:∀s',Inv X RP Y (upd H a (.ins C dx (tK f y fs))) s'->Q () s'):wpAny (model X.prog X.w) A (setAttr (.ref a) f u) Q E s:=by
 obtain⟨mA,O,r,wi,_,ho⟩:=yg I.lb e;have hz:(fs.map (·.1)).length<=sizeLine:=by rw[bP,cP];lia
 refine Ks I.ls O c.sa c.po n.mx c.hd wi hz λh' O' sb=>h _ ?_;have hd:∃o,h'.get? dx=some o:=let⟨o,_,_,e',_⟩:=O'.ns;⟨o,e'⟩;refine I.write (x:=a) (e:=dx) (by rw[e];exact True.intro) (.inr ho) (λb q hb z=>(sb.2 b hb).trans z) hd ?_;refine⟨by rw[ni O.ne];exact ho,?_,O.ne,O'.obj,_,O'.ns,λg=>?_,λg hg=>?_⟩
 .have:=xP f y fs;lia
 .show uj ((tK f y fs).lookup g) (if g=f then some u else mA g);rw[xH];by_cases q:g=f
  .rw[b9 q,b9 q];exact ry
  .rw[bV q,bV q];exact r g
 .by_cases q:g=f
  .rw[q];exact(xf f y fs).1
  .refine(xf f y fs).2 g (wi g λz=>hg ?_);show(if g=f then some u else mA g)=none;rw[bV q];exact z
def Inv.made(I:Inv X RP Y H s):Inv X RP Y (upd (upd H s.heap.objs.size (.own (s.heap.objs.size+1))) (s.heap.objs.size+1) (.ins C s.heap.objs.size [])) {s with heap:=(s.heap.push W.emptyDict).push (W.instObj C s.heap.objs.size)}:=by
 have e1:(s.heap.push W.emptyDict).get? s.heap.objs.size=some W.emptyDict:=cz s.heap rfl;have e2:((s.heap.push W.emptyDict).push (W.instObj C s.heap.objs.size)).get? (s.heap.objs.size+1)=some (W.instObj C s.heap.objs.size):=by
  have:=cz (s.heap.push W.emptyDict) (o:=W.instObj C s.heap.objs.size) rfl
  rwa [dz]at this
 have e3:(s.heap.push W.emptyDict).Ns s.heap.objs.size (λ_=>none):=⟨W.emptyDict,#[],_,e1,rfl,(λe he=>absurd he (by simp)),λ_=>rfl⟩;have I1:=I.laid (a:=s.heap.objs.size) (o:=.own (s.heap.objs.size+1)) (h':=s.heap.push W.emptyDict) (t':=s.toks) (λb u q=>bX _ q) (cq _) ⟨_,e1⟩;refine I1.laid (a:=s.heap.objs.size+1) (o:=.ins C s.heap.objs.size []) (t':=s.toks) (λb u q=>bX _ q) (iD (dz _ _)) ?_;have ne:s.heap.objs.size≠s.heap.objs.size+1:=cI (fZ _);refine⟨by rw[ni ne,m9],dY _,ne,e2,λ_=>none,(Heap.Ns1.of_empty e3).at λo q=>bX _ q,λ_=>True.intro,λy hy=>absurd rfl hy⟩
def JZ{prog:Pg}{w:Wo}{env:Env}{e:Expr}{f:Str}{pos:Pos}{s:Sd}{Q:QQX}(hb:attributeBase e f env (eval e env)=eval e env) (h:wpAny (model prog w) A (eval e env) (λo s₁=>wpAny (model prog w) A (getAttr o f true) Q E s₁) E s):wpAny (model prog w) A (eval (.Attribute e f pos) env) Q E s:=
 Attribute_any_ h (by rw[arm_eval_Attribute,hb])
end
def Ql(K:nz)(ta:TE)(f:Str):TE:=λY H Q=>ta Y H λx H1=>∃a C dx fs v,x=.ref a/\H1 a=some (.ins C dx fs)/\Cls K C/\ra K C f/\fs.lookup f=some v/\Q v H1
def Q0(K:nz)(ta tv:TE)(f:Str):TS:=λD Y H=>tv Y H λy H1=>ta Y H1 λx H2=>∃a C dx fs,x=.ref a/\H2 a=some (.ins C dx fs)/\Cls K C/\ra K C f/\fs.length<1000/\
 D.nx Y (upd H2 a (.ins C dx (tK f y fs)))
variable {value:Expr}{R1 tpos:Pos}{tv:TE}
section
variable {o e:Expr}{f:Str}
def MP(he:PE X e ta)(hb:attributeBase e f X.env (eval e X.env)=eval e X.env):PE X (.Attribute e f pos) (Ql X.K ta f):=by intro RP s Y H Q I h;refine JZ hb (pC (he RP s Y H _ I h) λu s1 zz=>?_);obtain⟨x,H1,I1,rx,a,C,dx,fs,v,ex,ea,c,n,l,q⟩:=zz;subst ex;obtain rfl:u=Value.ref a:=rx;exact D0 I1 ea c n l λu' s2 I2 ru=>⟨v,H1,I2,ru,q⟩
def Oa(ha:PE X o ta)(hv:PE X value tv)(hs:swapsWith value (some (.Attribute o f R1)) pos.line X.env=pure false):PS X (.Assign [.Attribute o f R1] value pos) (Q0 X.K ta tv f):=by intro RP s Y H D I h;refine plainObj_wpAny_Assign_Attribute (pC (hv RP s Y H _ I h) λu s1 zz=>x5 zz λy H1 I1 ry q=>pC (ha RP s1 Y H1 _ I1 q) λov s2 zz=>?_) hs;obtain⟨x,H2,I2,rx,a,C,dx,fs,ex,ea,c,n,l,q2⟩:=zz;subst ex;obtain rfl:ov=Value.ref a:=rx;exact Eh I2 ea c n l ry λs3 I3=>⟨Y,_,I3,q2⟩
end
variable {Q:QQX}
section
variable {Y:St}{E:QQX}{c:Vl}{b:Bool}
inductive xY(K:nz)(H:Hp):V->Vl->Prop where
 | k9:xY K H .k9 (.type "NoneType")
 | bl (x:Bool):xY K H (.bl x) (.type "bool")
 | int (i:Int):xY K H (.int i) (.type "int")
 | str (x:Str):xY K H (.str x) (.type "str")
 | flt (x:UInt64):xY K H (.flt x) (.type "float")
 | lst {a:Addr} {xs:List V} (e:H a=some (.lst xs)):xY K H (.ref a) (.type "list")
 | frz {a:Addr} {o:Obj} {xs:List V} (e:H a=some (.frz o (.lst xs))):xY K H (.ref a) (.type "list")
 | tup {a:Addr} {xs:List V} (e:H a=some (.tup xs)):xY K H (.ref a) (.type "tuple")
 | dK {a:Addr} {kvs:List (oK×V)} (e:H a=some (.dK kvs)):xY K H (.ref a) (.type "dict")
 | dT {a:Addr} {kvs:List (List oK×V)} (e:H a=some (.dT kvs)):xY K H (.ref a) (.type "dict")
 | ins {a C dx:Addr} {fs:List (Str×V)} (e:H a=some (.ins C dx fs)) (cl:Cls K C) (ha:W.findIn K (.ref C) "__class__"=some (some (.builtin "object.__class__")))
   (hn:W.specialIn K (.builtin "object.__class__") "__get__"=some (some (.builtin "getset_descriptor.__get__"))) (mC:W.takesIn K (.builtin "object.__class__")=some true)
   (hm:W.mroIn K C (.type "object")=some true):xY K H (.ref a) (.ref C)
def qY{x:V}{u t:Vl}(I:Inv X RP Y H s)(rx:nW x u)(ty:xY X.K H x t)(e:W.kitOne X.K t c=some b)(h:∀tk,Q (.bool b) {s with toks:=tk}):
  wpAny (model X.prog X.w) A (call (.builtin "isinstance") [u,c]) Q E s:=by
 cases ty with
 | k9=>cases(show u=Value.none from rx);exact eJ W.kitx_none I.ls True.intro e (λz=>nomatch z) h
 | bl y=>cases(show u=Value.bool y from rx);exact eJ W.kitx_bool I.ls True.intro e (λz=>nomatch z) h
 | int i=>obtain⟨t,q⟩:=(show ∃t,u=Value.int i t from rx);cases q;exact eJ W.kitx_int I.ls True.intro e (λz=>nomatch z) h
 | str y=>obtain⟨t,q⟩:=(show ∃t,u=Value.str y t from rx);cases q;exact eJ W.kitx_str I.ls True.intro e (λz=>nomatch z) h
 | flt y=>obtain⟨t,q⟩:=(show ∃t,u=Value.float y t from rx);cases q;exact eJ W.kitx_float I.ls True.intro e (λz=>nomatch z) h
 | @lst a xs ea=>cases(show u=Value.ref a from rx);obtain⟨_,_,n,_,h1⟩:=(show pj X.prog X.w H s.heap a (.lst xs)from I.lb a _ ea);exact eJ ke I.ls ⟨_,h1,rfl⟩ e (λz=>nomatch z) h
 | @frz a ob xs ea=>cases(show u=Value.ref a from rx);obtain⟨_,_,_,n,_,h1⟩:=(show pj X.prog X.w H s.heap a (.frz ob (.lst xs))from I.lb a _ ea);exact eJ ke I.ls ⟨_,h1,rfl⟩ e (λz=>nomatch z) h
 | @tup a xs ea=>cases(show u=Value.ref a from rx);obtain⟨_,_,_,p⟩:=(show pj X.prog X.w H s.heap a (.tup xs)from I.lb a _ ea);obtain⟨o,h1,h2,_⟩:=p;exact eJ W.kitx_tuple I.ls ⟨o,h1,h2⟩ e (λz=>nomatch z) h
 | @dK a kvs ea=>cases(show u=Value.ref a from rx);obtain⟨_,_,vs,_,p⟩:=(show pj X.prog X.w H s.heap a (.dK kvs)from I.lb a _ ea);obtain⟨o,es,ep,h1,h2,_⟩:=p;exact eJ W.kitx_dict I.ls ⟨o,h1,h2.1⟩ e (λz=>nomatch z) h
 | @dT a kvs ea=>cases(show u=Value.ref a from rx);obtain⟨_,_,xs,_,o,es,ep,h1,h2,_⟩:=(show pj X.prog X.w H s.heap a (.dT kvs)from I.lb a _ ea);exact eJ W.kitx_dict I.ls ⟨o,h1,h2.1⟩ e (λz=>nomatch z) h
 | @ins a C dx fs ea cl ha hn mC hm=>cases(show u=Value.ref a from rx);obtain⟨mA,O,_⟩:=yg I.lb ea;obtain⟨od,J,_⟩:=O.look;exact eJ (W.kitx_own (cl.get _) cl.hd ha hn mC hm) I.ls J e (λz=>nomatch z) h
end
structure pJ(k:Nat)(A:Ar):Prop where
 hd:A.handled=none
 dp:A.depth+3*k+5<recursionLimit
 un:A.units+16*k+200<cLine
def pJ.mono{j k:Nat}{A:Ar}(r:pJ k A)(h:j<=k):pJ j A:=⟨r.hd,by have:=r.dp;lia,by have:=r.un;lia⟩
def pJ.deeper{k:Nat}{A:Ar}(r:pJ (k+1) A)(env:Env):pJ k (A.deeper env):=
 ⟨r.hd,by have:=r.dp;show A.depth+1+3*k+5<_;lia,by have:=r.un;show A.units+3+16*k+200<_;lia⟩
def Er{A:Ar}{C:Addr}{us:V0 Vl}{kw:V0 (Str×Vl)}:(A.under (.builtin "type.__call__" ⟨.ref C::us,kw⟩)).depth=A.depth+1:=by first|rfl|simp[Around.under,Code.weight,Code.isCreation,Code.isGuard,Code.isCaller,Code.frames,Code.isFrame,guardIds]
def Dw{A:Ar}{C:Addr}{us:V0 Vl}{kw:V0 (Str×Vl)}:(A.under (.builtin "type.__call__" ⟨.ref C::us,kw⟩)).units=A.units+1:=by first|rfl|simp[Around.under,Code.cUnits,Code.frames,Code.isFrame]
def pJ.make{k:Nat}{A:Ar}(r:pJ (k+1) A)(C:Addr)(us:V0 Vl)(kw:V0 (Str×Vl)):pJ k (A.under (.builtin "type.__call__" ⟨.ref C::us,kw⟩)):=
 ⟨r.hd,by have:=r.dp;rw[Er];lia,by have:=r.un;rw[Dw];lia⟩
def pJ.depth{k:Nat}{A:Ar}(r:pJ k A):A.depth<recursionLimit:=by have:=r.dp;lia
def pJ.units{k:Nat}{A:Ar}(r:pJ k A):A.units+64<cLine:=by have:=r.un;lia
def Ms:TA:=λ_ H Q=>Q [] H
def LJ(ta:TE)(tr:TA):TA:=λY H Q=>ta Y H λx H1=>tr Y H1 λxs H2=>Q (x::xs) H2
variable {es:V0 Expr}
section
variable {e:Expr}{t:TA}
def Nv:PA X [] Ms:=λ_ _ _ _ H Q I h=>ft ⟨[],H,I,.nil,h⟩
def JJ(ha:PE X e te)(hr:PA X es t)(hs:wj X e es:=by rfl):PA X (e::es) (LJ te t):=by intro pos RP s Y H Q I h;rw[hs];show wpAny _ _ (spliced ((false,eval e X.env)::backTo pos (starEach es X.env))) _ _ s;refine d9 (pC (ha RP s Y H _ I h) λu s1 zz=>x5 zz λx H1 I1 r1 q1=>?_);exact pC (hr pos RP s1 Y H1 _ I1 q1) λus s2 zz=>x5 zz λxs H2 I2 r2 q2=>⟨x::xs,H2,I2,.cons r1 r2,q2⟩
def QJ(t:TA):TE:=λY H Q=>t Y H λxs H1=>xs.length<=sizeLine/\∀p,H1 p=none->Q (.ref p) (upd H1 p (.tup xs))
def QP(t:TA):TE:=λY H Q=>t Y H λxs H1=>xs.length<=sizeLine/\∀p,H1 p=none->Q (.ref p) (upd H1 p (.lst xs))
def MS{x1}(h:PA X es t):PE X (.Tuple es x1 pos) (QJ t):=by intro RP s Y H Q I hq;refine wpAny_Tuple_spliced (pC (h pos RP s Y H _ I hq) λus s1 ⟨xs,H1,I1,r,z,q⟩=>⟨by rw[<-r.length];exact z,?_⟩);have hf:H1 s1.heap.objs.size=none:=I1.lb.fresh (cq _);refine⟨.ref s1.heap.objs.size,upd H1 s1.heap.objs.size (.tup xs),I1.laid (t':=s1.toks) (λb u e=>bX _ e) (cq _) ?_,rfl,q _ hf⟩;exact⟨z,us,r,⟨_,cz _ rfl,rfl,⟨_,rfl⟩,rfl⟩⟩
def Og(h:PA X es t):PE X (.List es pos) (QP t):=by intro RP s Y H Q I hq;refine wpAny_List_spliced (pC (h pos RP s Y H _ I hq) λus s1 ⟨xs,H1,I1,r,z,q⟩=>⟨by rw[<-r.length];exact z,?_⟩);have hf:H1 s1.heap.objs.size=none:=I1.lb.fresh (cq _);refine⟨.ref s1.heap.objs.size,upd H1 s1.heap.objs.size (.lst xs),I1.laid (t':=s1.toks) (λb u e=>bX _ e) (cq _) ?_,rfl,q _ hf⟩;exact⟨z,us,0,r,cz _ rfl⟩
end
abbrev Sp:=V0 V->Hp->VK->XK->Prop
abbrev GA:=V0 Env->Hp->Sd->XK->Vl->Sd->Prop
structure Dv(P:Pg)(w:Wo)(K:nz)(mg:QQZ)(base:Heap)(A:Ar)(outer:List Env)(s:Sd)(H:Hp):Prop where
 frames:A.frames=some outer
 mod:Mod K mg base
 bs:∀b o,base.get? b=some o->s.heap.get? b=some o/\H b=none
 lV:base.objs.size<=s.heap.objs.size
 lC:s.heap.FunFrames base outer
 lZ:∀b∈rg outer,H b=none
 lb:uz P w H s.heap
 bare:AllBare s.gens
def CE(outer:V0 Env)(P:Pg)(w:Wo)(H:Hp)(s:Sd)(Q:VK)(u:Vl)(s':Sd):Prop:=
 ∃v H',s'.os=s.os/\AllBare s'.gens/\Un (rg outer) [] H H' s.heap s'.heap/\uz P w H' s'.heap/\nW v u/\Q v H'
def CR(CX:GA)(outer:V0 Env)(P:Pg)(w:Wo)(H:Hp)(s:Sd)(Q:VK)(E:XK)(r:Result)(s':Sd):Prop:=
 match r with
 | .ok (.ret u)=>CE outer P w H s Q u s'
 | .ok _=>False
 | .error e=>CX outer H s E e s'
structure xg(P:Pg)(w:Wo)(K:nz)(mg:QQZ)(base:Heap)(CX:GA)(k:Nat)(f:Addr)(fd:FuncData)(ps:QQQ)(sp:Sp):Prop where
 len:∀vs H Q E,sp vs H Q E->vs.length=ps.length
 run:∀(A:Ar) (outer:List Env) (s:Sd) (H:Hp) (args:Args) (us:List Vl) (vs:List V) (Q:VK) (E:XK),pJ k A->Dv P w K mg base A outer s H->BindsTo s fd args (ps.zip us)->nI vs us->sp vs H Q E->
  codeAny (model P w) A (.call (.ref f) args) (CR CX outer P w H s Q E) s
def Dv.make{P:Pg}{w:Wo}{K:nz}{mg:QQZ}{base:Heap}{A:Ar}{outer:V0 Env}{s:Sd}{H:Hp}(e:Dv P w K mg base A outer s H)(C:Addr)(us:V0 Vl)(kw:V0 (Str×Vl)):
  Dv P w K mg base (A.under (.builtin "type.__call__" ⟨.ref C::us,kw⟩)) outer s H:=⟨by first|exact e.frames|(simpa [Around.under,Code.envs,Code.isFrame,pushEnvs]using e.frames),e.mod,e.bs,e.lV,e.lC,e.lZ,e.lb,e.bare⟩
variable {s':Sd}
section
variable {Y:St}
def Inv.l7(I:Inv X RP Y H s):Dv X.prog X.w X.K X.mg X.base X.A X.stack s H:=
 ⟨I.ok.frames,I.ok.mod,I.bs,di I.ok.lV I.sz,I.stack,I.lz,I.lb,I.bare⟩
def Inv.after{Q:VK}{u:Vl}(I:Inv X RP Y H s)(h:CE X.stack X.prog X.w H s Q u s'):EP X RP Y Q u s':=by obtain⟨v,H',os,bare,un,lb,r,q⟩:=h;obtain⟨hh,g,d,t,US⟩:=s';obtain rfl:US=s.os:=os;exact⟨v,H',I.call (h':=hh) (g':=g) (d':=d) (t':=t) (ch:=[]) un lb bare (λb z=>absurd z (by simp)),r,q⟩
end
def Pc(sp:Sp)(SN:V0 V)(E:XK)(t:TA):TE:=λY H Q=>t Y H λvs H1=>sp (vs++SN) H1 Q E
def O2(C:Addr)(sp:Sp)(SN:V0 V)(E:XK)(t:TA):TE:=λY H Q=>t Y H λvs H1=>∀x dx,H1 x=none->H1 dx=none->dx≠x->
 sp (.ref x::(vs++SN)) (upd (upd H1 dx (.own x)) x (.ins C dx [])) (λv H2=>v=.k9/\Q (.ref x) H2) E
def rq(K:nz)(fd:FuncData)(ps:QQQ)(ds:V0 Vl):Prop:=
 ∀(s:Sd) (us:V0 Vl),K.In s.heap->(us++ds).length=ps.length->BindsTo s fd ⟨us,[]⟩ (ps.zip (us++ds))
def rq.all{K:nz}{fd:FuncData}{ps:QQQ}(h:∀us:V0 Vl,us.length=ps.length->bindArgs fd ⟨us,[]⟩=pure (ps.zip us)):rq K fd ps []:=λs us _ hl=>by rw[cJ]at hl ⊢;exact .of_eq (h us hl)
def uM(CX:GA)(X:Cx)(E:XK):Prop:=∀(RP:QQY) (Y:St) (H:Hp) (s:Sd) (e:Vl) (s':Sd),Inv X RP Y H s->CX X.stack H s E e s'->X.xe e s'
variable {CX:GA}{k:Nat}{fd:FuncData}{ps:QQQ}{sp:Sp}{SN:V0 V}{ds:V0 Vl}{m:Str}{p RT:Pos}
section
variable {f:Addr}{E:XK}{x:Str}{e o:Expr}{t:TA}
def Dl{RP:QQY}{Y:St}{H:Hp}{s:Sd}{Q:VK}{us:V0 Vl}{vs:V0 V}(F:xg X.prog X.w X.K X.mg X.base CX k f fd ps sp)(hr:pJ k X.A)(hb:rq X.K fd ps ds)(hd:nI SN ds)(hx:uM CX X E) (I:Inv X RP Y H s) (r:nI vs us) (h:sp (vs++SN) H Q E):wpAny (model X.prog X.w) X.A (call (.ref f) us) (EP X RP Y Q) X.xe s:=by
 have r2:nI (vs++SN) (us++ds):=r.append hd;have hl:(us++ds).length=ps.length:=by rw[<-r2.length];exact F.len _ _ _ _ h
 refine gT (fS (F.run X.A X.stack s H ⟨us,[]⟩ (us++ds) (vs++SN) Q E hr I.l7 (hb s us I.ls hl) r2 h) λr s' hq=>?_);cases r with
 | error e=>exact hx RP Y H s e s' I hq
 | ok fl=>
  cases fl with
  | ret u=>exact I.after hq
  | next=>exact False.elim hq
  | brk=>exact False.elim hq
  | cont=>exact False.elim hq
def EH(F:xg X.prog X.w X.K X.mg X.base CX k f fd ps sp)(hr:pJ k X.A)(hg:Gl X x)(hm:X.mg x=some (.ref f))(hk:W.keepIn X.K (.ref f)=true)(hb:rq X.K fd ps ds)(hd:nI SN ds)(hx:uM CX X E) (ha:PA X (e::es) t) (Sa:vq x:=by decide) (he:wj X e es:=by rfl) (Se:wX X pos es:=by rfl):
  PE X (.Call (.Name x p) (e::es) [] pos) (Pc sp SN E t):=by
 intro RP s Y H Q I h;refine eK (ud I hg hm ?_ Sa);refine iE (h₀:=X.base) I.ok.mod.mi hk (pC (ha pos RP s Y H _ I h) λus s1 zz=>x5 zz λvs H1 I1 r q=>⟨I1.ls,?_⟩) he Se;exact Dl F hr hb hd hx I1 r q
structure Mk(K:nz)(C f:Addr):Prop where
 makes:W.makesIn K C=true
 init:W.findIn K (.ref C) "__init__"=some (some (.ref f))
 fn:W.isFn K (.ref f)=true
 kp:W.keepIn K (.ref C)=true
def GC{RP:QQY}{Y:St}{H:Hp}{s:Sd}{Q:VK}{us:V0 Vl}{vs:V0 V}(M:Mk X.K C f)(F:xg X.prog X.w X.K X.mg X.base CX k f fd ps sp)(hr:pJ (k+1) X.A)(hb:rq X.K fd ps ds)(hd:nI SN ds) (hx:uM CX X E) (I:Inv X RP Y H s) (r:nI vs us) (h:∀x dx,H x=none->H dx=none->dx≠x->sp (.ref x::(vs++SN)) (upd (upd H dx (.own x)) x (.ins C dx [])) (λv H2=>v=.k9/\Q (.ref x) H2) E):
  wpAny (model X.prog X.w) X.A (call (.ref C) us) (EP X RP Y Q) X.xe s:=by
 have hq:=h (s.heap.objs.size+1) s.heap.objs.size (I.lb.fresh (gp _)) (I.lb.fresh (cq _)) (cI (fZ _));have I2:=Inv.made (C:=C) I;have r2:nI (V.ref (s.heap.objs.size+1)::(vs++SN)) (Value.ref (s.heap.objs.size+1)::(us++ds)):=.cons rfl (r.append hd);have hl:(Value.ref (s.heap.objs.size+1)::us++ds).length=ps.length:=by have e:=r2.length;rw[F.len _ _ _ _ hq]at e;exact e.symm
 refine gT (GD (f:=f) I.ls M.makes M.init (dr.mp M.fn) (fS (F.run _ X.stack _ _ ⟨Value.ref (s.heap.objs.size+1)::us,[]⟩ (Value.ref (s.heap.objs.size+1)::(us++ds)) _ _ E (hr.make C us [])
  (I2.l7.make C us []) (hb _ (Value.ref (s.heap.objs.size+1)::us) I2.ls hl) r2 hq) λr s' hq'=>?_))
 cases r with
 | error e=>exact hx RP Y _ _ e s' I2 hq'
 | ok fl=>
  cases fl with
  | ret u=>obtain⟨v,H',I3,rv,ev,q3⟩:=I2.after hq';subst ev;exact⟨rv,⟨V.ref (s.heap.objs.size+1),H',I3,rfl,q3⟩⟩
  | next=>exact False.elim hq'
  | brk=>exact False.elim hq'
  | cont=>exact False.elim hq'
def Fm(M:Mk X.K C f)(F:xg X.prog X.w X.K X.mg X.base CX k f fd ps sp)(hr:pJ (k+1) X.A)(hg:Gl X x)(hm:X.mg x=some (.ref C))(hb:rq X.K fd ps ds)(hd:nI SN ds)(hx:uM CX X E) (ha:PA X (e::es) t) (Sa:vq x:=by decide) (he:wj X e es:=by rfl) (Se:wX X pos es:=by rfl):
  PE X (.Call (.Name x p) (e::es) [] pos) (O2 C sp SN E t):=by
 intro RP s Y H Q I h;refine eK (ud I hg hm ?_ Sa);refine iE (h₀:=X.base) I.ok.mod.mi M.kp (pC (ha pos RP s Y H _ I h) λus s1 zz=>x5 zz λvs H1 I1 r q=>⟨I1.ls,?_⟩) he Se;exact GC M F hr hb hd hx I1 r q
end
variable {g:V0 Vl→V0 Vl→V0 Vl}{gV:V0 V→V0 V→V0 V}{ks:QQQ}{kpos:Pos}{kws:V0 Keyword}{tk:TA}{nm:Option Str}
section
variable {f:Addr}{E:XK}{x:Str}{e o:Expr}{t:TA}
end
structure qB(N P:QQQ)(sc:Scope):Prop where
 kind:sc.kind=.function
 co:sc.isCoroutine=false
 gen:sc.isGenerator=false
 nd:N.Nodup
 pre:N.take P.length=P
 par:∀x∈P,sc.names.lookup x=some .local\/sc.names.lookup x=some .cell
 mB:∀y∈sc.names,y.2≠.free
theorem Al{kindOf:Str->Option NameKind}{x:Str}:∀{binds:V0 (Str×Vl)} {m:QQZ},(∀v,(x,v)∉binds)->bindL kindOf binds m x=m x
 | [],_,_=>rfl
 | (n,v)::r,m,h=>by
  unfold bindL;rw[Al λw hw=>h w (ci _ hw)];split
  .have:x≠n:=by rintro rfl;exact h v ck
   simp[this]
  .rfl
theorem Az{kindOf:Str->Option NameKind}{x:Str}:∀{binds:V0 (Str×Vl)} {m:QQZ},(∀v,(x,v)∉binds)->bindC kindOf binds m x=m x
 | [],_,_=>rfl
 | (n,v)::r,m,h=>by
  unfold bindC;rw[Az λw hw=>h w (ci _ hw)];split
  .rfl
  .have:x≠n:=by rintro rfl;exact h v ck
   simp[this]
theorem AB{kindOf:Str->Option NameKind}{x:Str}{v:Vl}:∀{P:QQQ} {vs:V0 Vl} {i:Nat} {m:QQZ},P.Nodup->P[i]?=some x->vs[i]?=some v->kindOf x=some .local->
  bindL kindOf (P.zip vs) m x=some v
 | [],_,_,_,_,h,_,_=>by simp at h
 | _::_,[],_,_,_,_,h,_=>by simp at h
 | p::P,w::vs,0,m,nd,h1,h2,hk=>by simp at h1 h2;subst h1;subst h2;show bindL kindOf ((p,w)::P.zip vs) m p=_;unfold bindL;rw[Al λv hv=>(eV.mp nd).1 (fN hv).1,b9 hk];simp
 | p::P,w::vs,i+1,m,nd,h1,h2,hk=>by show bindL kindOf ((p,w)::P.zip vs) m x=_;unfold bindL;exact AB (i:=i) (eV.mp nd).2 (by simpa using h1) (by simpa using h2) hk
theorem Aw{kindOf:Str->Option NameKind}{x:Str}{v:Vl}:∀{P:QQQ} {vs:V0 Vl} {i:Nat} {m:QQZ},P.Nodup->P[i]?=some x->vs[i]?=some v->kindOf x≠some .local->
  bindC kindOf (P.zip vs) m x=some v
 | [],_,_,_,_,h,_,_=>by simp at h
 | _::_,[],_,_,_,_,h,_=>by simp at h
 | p::P,w::vs,0,m,nd,h1,h2,hk=>by simp at h1 h2;subst h1;subst h2;show bindC kindOf ((p,w)::P.zip vs) m p=_;unfold bindC;rw[Az λv hv=>(eV.mp nd).1 (fN hv).1,bV hk];simp
 | p::P,w::vs,i+1,m,nd,h1,h2,hk=>by show bindC kindOf ((p,w)::P.zip vs) m x=_;unfold bindC;exact Aw (i:=i) (eV.mp nd).2 (by simpa using h1) (by simpa using h2) hk
noncomputable def vA(N:QQQ)(vs:V0 V):St:=vs.map some++List.replicate (N.length - vs.length) none
noncomputable def rn(CX:GA)(P:Pg)(w:Wo)(K:nz)(mg:QQZ)(base:Heap)(N:QQQ)(qual:Str)(scope:Scope)(f:Addr)(cd:Vl)(A:Ar)(outer:V0 Env)(s:Sd)(H:Hp)(E:XK):Cx where
 prog:=P
 w:=w
 K:=K
 mg:=mg
 base:=base
 A:=A.deeper (envOfC qual scope s.heap.objs.size f cd)
 N:=N
 s₀:=s
 H₀:=H
 env:=envOfC qual scope s.heap.objs.size f cd
 outer:=outer
 stack:=envOfC qual scope s.heap.objs.size f cd::outer
 ex:=[]
 calm:=true
 fn:=λ_=>true
 pn:=[]
 xe:=λe s'=>wpAny (model P w) (A.deeper (envOfC qual scope s.heap.objs.size f cd)) (leaving (envOfC qual scope s.heap.objs.size f cd) e) (λ_ Uj=>CX outer H s E e Uj) (λe' Uj=>CX outer H s E e' Uj) s'
def CT{sc:Scope}{n:Nat}{x:Str}(h:sc.names.lookup x=some .cell):∃c,(cellsFrom n sc.names []).lookup x=some c:=by have q:=kj sc.names n [] (.inl h);exact dO.mp q
def F8{CX:GA}{P:Pg}{w:Wo}{K:nz}{mg:QQZ}{base:Heap}{N ps:QQQ}{qual:Str}{scope:Scope}{f:Addr}{cd:Vl}{A:Ar}{outer:V0 Env}{s s1:Sd}{H:Hp}{E:XK}{us:V0 Vl}{vs:V0 V} (S:qB N ps scope) (hd:A.handled=none) (e0:Dv P w K mg base A outer s H) (hl:vs.length=ps.length) (r:nI vs us) (x:InCallC s s.heap.objs.size (bindL (envOfC qual scope s.heap.objs.size f cd).kindOf (ps.zip us) λ_=>none) (cellsFrom (s.heap.objs.size+1) scope.names []) (bindC (envOfC qual scope s.heap.objs.size f cd).kindOf (ps.zip us) λ_=>none) s1):
  Inv (rn CX P w K mg base N qual scope f cd A outer s H E) [] (vA N vs) H s1:=by
 have Se:ps.length<=N.length:=by have:=dJ List.length S.pre;rw[cQ]at this;lia
 obtain⟨h1,tk,rfl,hk⟩:=x.done;have noA:∀b:Addr,b∉(rn CX P w K mg base N qual scope f cd A outer s H E).ex:=λb z=>absurd (show b∈([]:QXQ)from z) (by simp);refine⟨⟨e0.mod,S.kind,rfl,rfl,cq _,λy z c h1 h2=>?_,λy hy=>?_,λy c _ h=>?_,λ_=>hd,Around.frames_deeper e0.frames,.inr ⟨rfl,rfl⟩,λb z=>absurd z (noA b),e0.bs,e0.lV,λb _ _=>noA b,λb z=>absurd z (noA b),e0.lC,e0.lZ⟩,rfl,e0.bare,Un.kept hk,⟨_,x.toInCall.ns,λi y v h1 h2 h3=>?_⟩,λy c h=>⟨_,x.cell y c h⟩,e0.lb.fresh (cq _),λy c h=>?_,λp hp=>absurd (show p∈([]:QQY)from hp) (by simp),e0.lb.kept hk,?_⟩
 .exact name_of_addr x.apart (fJ h1) (fJ h2)
 .have hy:scope.names.lookup y=some .cell\/scope.names.lookup y=some .free:=hy;rcases hy with hy|hy
  .exact CT hy
  .exact absurd rfl (S.mB _ (fJ hy))
 .exact jO (x.above y c (fJ h))
 .have hi:i<vs.length:=by
   unfold vA at h2;by_cases hi:i<vs.length
   .exact hi
   .rw[dW (by simpa using hi)]at h2;rw[iS]at h2;split at h2<;>cases h2
  have ha:vs[i]?=some v:=by
   unfold vA at h2;rw[dM (by simpa using hi),cD]at h2;cases e:vs[i]? with
   | none=>rw[e]at h2;cases h2
   | some a=>rw[e]at h2;cases h2;rfl
  obtain⟨u,hu,rv⟩:=r.get ha;have hp:ps[i]?=some y:=by rw[<-S.pre,List.getElem?_take_of_lt (by lia)];exact h1
  have ndP:ps.Nodup:=by rw[<-S.pre];exact S.nd.sublist (List.take_sublist _ _)
  refine⟨u,rv,?_⟩;rcases S.par y (dt hp)with k|k
  .exact .inl ⟨k,AB ndP hp hu k⟩
  .obtain⟨c,e⟩:=CT (n:=s.heap.objs.size+1) k;refine .inr ⟨.inl k,c,e,?_⟩;have q:=x.cell y c e;rw[Aw ndP hp hu (by show scope.names.lookup y≠_;rw[k];decide)]at q;exact q
 .exact e0.lb.fresh (jO (x.above y c (fJ h)))
 .unfold vA;show _=N.length;rw[bS,bP,gN];lia
def LL{CX:GA}{P:Pg}{w:Wo}{K:nz}{mg:QQZ}{base:Heap}{k:Nat}{f:Addr}{name qual:Str}{params:Arguments}{body:V0 Stmt}{scope:Scope}{dV kV SK pm R8 ct oc:Vl}{an od:Option Addr} {Tb:Array (Option Vl)} {N ps:QQQ} {sp:Sp} (lk:K.lookup f=some ⟨oc,od,.func (W.fnOf name qual params body scope dV kV SK pm an R8 ct),Tb⟩) (SD:W.codeIn K R8 qual=true) (S:qB N ps scope) (len:∀vs H Q E,sp vs H Q E->vs.length=ps.length) (Sh:∀(A:Ar) (outer:V0 Env) (s:Sd) (H:Hp) (vs:V0 V) (Q:VK) (E:XK),pJ k (A.deeper (envOfC qual scope s.heap.objs.size f R8))->sp vs H Q E->
   ∃t,yk (rn CX P w K mg base N qual scope f R8 A outer s H E) body t/\t {nx:=λ_ H'=>Q .k9 H',rt:=Q} (vA N vs) H):
  xg P w K mg base CX (k+1) f (W.fnOf name qual params body scope dV kV SK pm an R8 ct) ps sp:=by
 refine⟨len,λA outer s H args us vs Q E hr e0 hb r Ua=>?_⟩;have hl:=len _ _ _ _ Ua;have KX:K.In s.heap:=e0.mod.mi.keeps λb o e=>(e0.bs b o e).1;have lim:s.heap.NoLimit:=e0.mod.nolimit.keeps λb o e=>(e0.bs b o e).1;have hkind:∀y∈ps.zip us,scope.names.lookup y.1=some .local\/(scope.names.lookup y.1=some .cell/\((cellsFrom (s.heap.objs.size+1) scope.names []).lookup y.1).isSome=true):=λ⟨n,v⟩ hy=>by
  rcases S.par n (fN hy).1 with q|q
  .exact .inl q
  .exact .inr ⟨q,kj _ _ _ (.inl q)⟩
 refine codeAny_call_function hr.depth (KX _ _ lk) rfl S.co S.gen rfl (W.codeRec_of KX SD) (hb _ _ _ _ ?_);refine wpAny_newFunctionEnv_cells S.kind hkind λenv he s1 x=>?_;subst he;refine⟨lim.keeps x.toInCall.keep,codeAny_func ?_⟩;obtain⟨t,ht,hq⟩:=Sh A outer s H vs Q E (hr.deeper _) Ua;have I:Inv (rn CX P w K mg base N qual scope f R8 A outer s H E) [] (vA N vs) H s1:=F8 S hr.hd e0 hl r x;refine de (ht [] s1 (vA N vs) H _ I hq) (λfl s' hs=>?_) λe s' hs=>hs;have RV:∀{σ':St} {H':Hp} {v:V} {u:Vl},Inv (rn CX P w K mg base N qual scope f R8 A outer s H E) [] σ' H' s'->nW v u->Q v H'->CE outer P w H s Q u s':=
  λ{σ' H' v u} J rv q=>⟨v,H',J.os,J.bare,J.base,J.lb,rv,q⟩
 cases fl with
 | ret u=>obtain⟨v,σ',H',J,rv,q⟩:=hs;exact RV J rv q
 | next=>obtain⟨σ',H',J,q⟩:=hs;exact RV (v:=V.k9) (u:=Value.none) J rfl q
 | brk=>obtain⟨_,_,_,q⟩:=hs;exact False.elim q
 | cont=>obtain⟨_,_,_,q⟩:=hs;exact False.elim q
variable {id T:String}{r:V0 V→Hp→VK→Prop}
section
variable {x:Str}{e:Expr}{t:TA}
def Rn(r:V0 V->Hp->VK->Prop)(t:TA):TE:=λY H Q=>t Y H λvs H1=>r vs H1 Q
def GW(hc:uC X (.builtin id) r)(hg:Gl X x)(hm:X.mg x=none)(hv:bootBuiltins x=some (.builtin id))(ha:PA X (e::es) t)(hn:x≠"__name__":=by decide)(Sa:vq x:=by decide)
  (he:wj X e es:=by rfl) (Se:wX X pos es:=by rfl):PE X (.Call (.Name x p) (e::es) [] pos) (Rn r t):=by
 intro RP s Y H Q I h;refine eK (tq I hg hm hv ?_ hn Sa);exact gU (pC (ha pos RP s Y H _ I h) λus s1 zz=>x5 zz λvs H1 I1 r1 q1=>hc RP s1 Y H1 vs us Q I1 r1 q1) he Se
def FP(hc:uC X (.type T) r)(hg:Gl X x)(hm:X.mg x=none)(hv:bootBuiltins x=some (.type T))(ha:PA X (e::es) t)(hn:x≠"__name__":=by decide)(Sa:vq x:=by decide)
  (he:wj X e es:=by rfl) (Se:wX X pos es:=by rfl):PE X (.Call (.Name x p) (e::es) [] pos) (Rn r t):=by
 intro RP s Y H Q I h;refine eK (tq I hg hm hv ?_ hn Sa);exact dF (pC (ha pos RP s Y H _ I h) λus s1 zz=>x5 zz λvs H1 I1 r1 q1=>hc RP s1 Y H1 vs us Q I1 r1 q1) he Se
end
end L2
namespace HT
open PySem PyProof.Rows
section
open PySem.SeqAt
open PySem.AutoSeq1 (wpAny_loadPart')
open PySem.MeetsSeq PySem.MeetsSeq2 PySem.MeetsSeq3
end
variable {prog:Pg}{w:Wo}{A:Ar}{E:QQX}{s:Sd}
def Jv{t b:Addr}{vs ws:V0 Vl}{Q:QQX}(ht:IsTup s.heap t vs.toArray)(hb:IsTup s.heap b ws.toArray)(hv:vs≠[]) (h1:ws=[]->Q (.ref t) s) (h2:ws≠[]->Q (.ref s.heap.objs.size) {s with heap:=s.heap.push {cls:=.type "tuple",data:=.seq (vs++ws).toArray}})
  (hsz:vs.length+ws.length<=sizeLine):wpAny (model prog w) A (binaryOp .Add (.ref t) (.ref b)) Q E s:=by
 obtain⟨⟨cls,dd,data,sl⟩,ho,hc,n,hd⟩:=id ht;obtain⟨⟨cls2,dd2,data2,sl2⟩,UT,hc2,n2,hd2⟩:=id hb;simp only at hc hd hc2 hd2;subst hc hd hc2 hd2;have e:vs.toArray++ws.toArray=(vs++ws).toArray:=by simp
 by_cases hw:ws=[]
 .exact jQ ⟨_,ho,rfl⟩ ⟨_,UT,rfl⟩ kl seq_tuple_add i0 iT (iF _ _)
   (tuple_addW1 t b vs.toArray ws.toArray n n2 dd dd2 sl sl2 (by simpa using hv) (by simp[hw])) ⟨ho,UT,h1 hw⟩
 .refine jQ ⟨_,ho,rfl⟩ ⟨_,UT,rfl⟩ kl seq_tuple_add i0 iT (iF _ _)
   (tuple_addW2 t b vs.toArray ws.toArray n n2 dd dd2 sl sl2 (by simpa using hv) (by simpa using hw) (by rw[b7,b7];exact hsz)) ⟨ho,UT,?_⟩
  rw[e];exact h2 hw
noncomputable def pZ(n d:Nat):Option Int->Nat
 | none=>d
 | some v=>if v<0 then(v+(n:Int)).toNat else min v.toNat n
def zI(n d:Nat):pZ n d none=d:=rfl
def wB(n d k:Nat):pZ n d (some (k:Int))=min k n:=by show(if (k:Int)<0 then((k:Int)+(n:Int)).toNat else min (k:Int).toNat n)=min k n;rw[bV (by lia),eY]
def MY(n d:Nat)(hd:d<=n)(o:Option Int):pZ n d o<=n:=by
 cases o with
 | none=>exact hd
 | some v=>
  show(if v<0 then(v+(n:Int)).toNat else min v.toNat n)<=n;by_cases hv:v<0
  .rw[b9 hv];lia
  .rw[bV hv];exact iG _ _
def EQ(v:Int)(n d:Nat):(if v<0 then max (v+(n:Int)) 0 else min v (n:Int))=((pZ n d (some v):Nat):Int):=by
 show(if v<0 then max (v+(n:Int)) 0 else min v (n:Int))=(((if v<0 then(v+(n:Int)).toNat else min v.toNat n):Nat):Int);by_cases hv:v<0
 .simp only[b9 hv];lia
 .simp only[bV hv];lia
def D7(lo hi:Option Int)(n:Nat):Builtin.Slice.sliceAdjust lo hi 1 (n:Int)=(((pZ n 0 lo:Nat):Int),((pZ n n hi:Nat):Int)):=by
 have h1:¬((1:Int)<0):=by lia
 unfold Builtin.Slice.sliceAdjust;simp only[h1,if_false];refine Prod.ext ?_ ?_
 .cases lo with
  | none=>rfl
  | some v=>exact EQ v n 0
 .cases hi with
  | none=>rfl
  | some v=>exact EQ v n n
def Em(i j:Nat):Builtin.Slice.slicePlaces (i:Int) (j:Int) 1=j - i:=by
 unfold Builtin.Slice.slicePlaces;have h1:(1:Int)>0:=by lia
 simp only[h1,gO,kI];split<;>lia
def zF{v:Vl}{o:Option Int}{Q:Option Int->Sd->Prop}(p:IsPart v o)(h:Q o s):wpAny (model prog w) A (Builtin.Slice.slicePartIndex v) Q E s:=by
 cases p with
 | none=>exact slicePart_none h
 | int i t=>exact slicePart_int h
def tF{sl:Addr}{vl vu:Vl}{lo hi:Option Int}{n:Nat}{Q:Int×Int×Nat->Sd->Prop}(hs:s.heap.IsSliceOf sl vl vu .none)(pl:IsPart vl lo)(pu:IsPart vu hi) (h:Q (((pZ n 0 lo:Nat):Int),1,pZ n n hi - pZ n 0 lo) s):wpAny (model prog w) A (Builtin.Slice.sliceApplied (.ref sl) (pure (n:Int))) Q E s:=by
 obtain⟨os,UU,hcs,SF⟩:=id hs;unfold Builtin.Slice.sliceApplied Builtin.Slice.sliceFields;refine bQ (bQ (dq UU SF (x:=vl) rfl (bQ (dq UU SF (x:=vu) rfl (bQ (dq UU SF (x:=.none) rfl (cf ?_)))))));refine bQ (slicePart_none ?_);show wpAny _ _ (if ((1:Int)==0)=true then _ else _) _ _ s;rw[bV (by decide)];refine bQ (zF pl (bQ (zF pu (bQ (cf ?_)))));show wpAny _ _ (match Builtin.Slice.sliceAdjust lo hi 1 (n:Int)with|(lo,hi)=>pure (lo,(1:Int),Builtin.Slice.slicePlaces lo hi 1)) _ _ s;rw[D7 lo hi n];show wpAny _ _ (pure (((pZ n 0 lo:Nat):Int),(1:Int),Builtin.Slice.slicePlaces ((pZ n 0 lo:Nat):Int) ((pZ n n hi:Nat):Int) 1)) _ _ s;rw[Em];exact cf h
def HK(xs:Array Vl)(i k:Nat):((List.range k).filterMap λ(m:Nat)=>xs[((i:Int)+(m:Int)*1).toNat]?).toArray=((xs.toList.drop i).take k).toArray:=by
 have e:(λ(m:Nat)=>xs[((i:Int)+(m:Int)*1).toNat]?)=λm=>xs[i+m]?:=by
  funext m;have:((i:Int)+(m:Int)*1).toNat=i+m:=by lia
  rw[this]
 rw[e];have:=pick_run xs i k;rw[List.filterMap_map]at this;have e2:((λx=>xs[x]?)∘λx=>i+x)=λm=>xs[i+m]?:=rfl;rw[e2]at this;rw[this]
def wu{t sl:Addr}{RQ:Array Vl}{vl vu:Vl}{lo hi:Option Int}{Q:QQX}(ht:IsTup s.heap t RQ)(hs:s.heap.IsSliceOf sl vl vu .none)(pl:IsPart vl lo)(pu:IsPart vu hi) (hw:¬(pZ RQ.size 0 lo=0/\pZ RQ.size RQ.size hi=RQ.size)) (h:Q (.ref s.heap.objs.size) {s with heap:=s.heap.push {cls:=.type "tuple",data:=.seq ((RQ.toList.drop (pZ RQ.size 0 lo)).take (pZ RQ.size RQ.size hi - pZ RQ.size 0 lo)).toArray}})
  (hsz:RQ.size<=sizeLine):wpAny (model prog w) A (getItem (.ref t) (.ref sl)) Q E s:=by
 have Tu:sizeOk (.seq ((RQ.toList.drop (pZ RQ.size 0 lo)).take (pZ RQ.size RQ.size hi - pZ RQ.size 0 lo)).toArray):=by show((RQ.toList.drop (pZ RQ.size 0 lo)).take (pZ RQ.size RQ.size hi - pZ RQ.size 0 lo)).toArray.size<=sizeLine;rw[b7,cQ,cU,hU];lia
 have hj:pZ RQ.size RQ.size hi<=RQ.size:=MY _ _ (cq _) hi;obtain⟨os,UU,hcs,SF⟩:=id hs;have hTs:s.TypeIs (.ref sl) "slice":=⟨os,UU,hcs⟩;unfold getItem
 try with_reducible refine dA ?_
 first|refine bQ (cf ?_)|skip
 refine bQ (iu ht.typeIs (by decide) ?_);refine bQ (dS (name:=Str.ofString "__getitem__") ht.typeIs dH
  (eh dH ht.typeIs jE ?_ (jR _ _)))
 show wpAny _ _ (Builtin.Tuple.tupleItemsOf (.ref t)>>=_) _ _ s;refine bQ (tupleItemsOf_ ht ?_);refine bQ (iH hTs ?_);rw[b9 (by decide)];refine bQ (tF hs pl pu ?_);have hno:¬((((pZ RQ.size 0 lo:Nat):Int)==0&&(1:Int)==1&&(pZ RQ.size RQ.size hi - pZ RQ.size 0 lo)==RQ.size)=true):=by intro q;rw[bR,bR]at q;have q1:((pZ RQ.size 0 lo:Nat):Int)=0:=eq_of_beq q.1.1;have q2:pZ RQ.size RQ.size hi - pZ RQ.size 0 lo=RQ.size:=eq_of_beq q.2;exact hw ⟨by lia,by lia⟩
 show wpAny _ _ (if (((pZ RQ.size 0 lo:Nat):Int)==0&&(1:Int)==1&&(pZ RQ.size RQ.size hi - pZ RQ.size 0 lo)==RQ.size)=true then _ else _) _ _ s;rw[bV hno,HK]
 first
  | exact bQ (m:=Builtin.Tuple.tupleExact _) (eE (cf ⟨_,rfl,cf h⟩) Tu)
  | exact bQ (m:=Builtin.Tuple.tupleExact _) (eE (bQ (cf (cf ⟨_,rfl,cf h⟩))) Tu)
  | exact bQ (bQ (m:=Builtin.Tuple.tupleExact _) (eE (cf (cf ⟨_,rfl,cf h⟩)) Tu))
  | exact bQ (bQ (m:=Builtin.Tuple.tupleExact _) (eE (cf ⟨_,rfl,cf h⟩) Tu))
end HT
namespace L2
abbrev TO:=St->Hp->(Option Int->Hp->Prop)->Prop
def PO(X:Cx)(e:Option Expr)(t:TO):Prop:=
 ∀(RP:QQY) (s:Sd) (Y:St) (H:Hp) (Q:Option Int->Hp->Prop),Inv X RP Y H s->t Y H Q->
  wpAny (model X.prog X.w) X.A (evalPart e X.env) (λu s'=>∃o H',Inv X RP Y H' s'/\IsPart u o/\Q o H') X.xe s
def Js:TO:=λ_ H Q=>Q none H
def OO(t:TE):TO:=λY H Q=>t Y H λx H1=>∃i,x=.int i/\Q (some i) H1
variable {X:Cx}{e:Expr}{te:TE}{lo hi:Option Expr}{tl th:TO}{pos p2:Pos}
def KN:PO X none Js:=by intro RP s Y H Q I h;rw[evalPart_none];exact cf ⟨none,H,I,.none,h⟩
def K9(h:PE X e te):PO X (some e) (OO te):=by intro RP s Y H Q I hw;rw[evalPart_some];refine pC (h RP s Y H _ I hw) λu s1 zz=>x5 zz λx H1 I1 r1 q1=>?_;obtain⟨i,rfl,q⟩:=q1;obtain⟨t,rfl⟩:=r1;exact⟨some i,H1,I1,.int i t,q⟩
def Ow(X:Cx)(r:V->Option Int->Option Int->Hp->VK->Prop):Prop:=
 ∀(RP:QQY) (s:Sd) (Y:St) (H:Hp) (x:V) (v vl vu:Vl) (lo hi:Option Int) (sl:Addr) (Q:VK),Inv X RP Y H s->nW x v->s.heap.IsSliceOf sl vl vu .none->IsPart vl lo->IsPart vu hi->r x lo hi H Q->
  ∃T id,typeLookup (.type T) "__getitem__"=pure (some (.builtin id))/\s.TypeIs v T/\wpAny (model X.prog X.w) X.A (getItem v (.ref sl)) (EP X RP Y Q) X.xe s
def RO(r:V->Option Int->Option Int->Hp->VK->Prop)(te:TE)(tl th:TO):TE:=λY H Q=>te Y H λx H1=>tl Y H1 λl H2=>th Y H2 λu H3=>r x l u H3 Q
def CB{r:V->Option Int->Option Int->Hp->VK->Prop}(hr:Ow X r)(he:PE X e te)(hl:PO X lo tl)(hu:PO X hi th):PE X (.Subscript e (.Slice lo hi none p2) pos) (RO r te tl th):=by intro RP s Y H Q I h;refine Subscript_ (pC (he RP s Y H _ I h) λv s1 zz=>x5 zz λx H1 I1 r1 q1=>?_);refine wpAny_Slice (pC (hl RP s1 Y H1 _ I1 q1) λvl s2 zz=>x5 zz λl H2 I2 pl q2=>pC (hu RP s2 Y H2 _ I2 q2) λvu s3 zz=>x5 zz λu H3 I3 pu q3=>?_);rw[evalPart_none];refine cf ?_;have I4:Inv X RP Y H3 {s3 with heap:=s3.heap.push {cls:=.type "slice",data:=.fields #[vl,vu,.none]}}:=I3.kept (t':=s3.toks) λb ob q=>bX _ q;obtain⟨T,id,hT,ht,hg⟩:=hr RP {s3 with heap:=s3.heap.push {cls:=.type "slice",data:=.fields #[vl,vu,.none]}} Y H3 x v vl vu l u s3.heap.objs.size Q I4 r1 (kU ..) pl pu q3;show wpAny (model X.prog X.w) X.A (subscriptTail e (.Slice lo hi none p2) v (.ref s3.heap.objs.size)) (EP X RP Y Q) X.xe {s3 with heap:=s3.heap.push {cls:=.type "slice",data:=.fields #[vl,vu,.none]}};exact tail_any (ops:=[.ref s3.heap.objs.size,v]) ht hT hg (by with_unfolding_all rfl)
noncomputable def zi(xs:V0 V)(lo hi:Option Int):V0 V:=(xs.drop (HT.pZ xs.length 0 lo)).take (HT.pZ xs.length xs.length hi - HT.pZ xs.length 0 lo)
def xO(xs:V0 V)(lo hi:Option Int):(zi xs lo hi).length<=xs.length:=by unfold zi;rw[cQ,cU];lia
def Q8(K:nz):V->Option Int->Option Int->Hp->VK->Prop:=λx lo hi H Q=>∃a xs,x=.ref a/\rc K H a xs/\
 ¬(HT.pZ xs.length 0 lo=0/\HT.pZ xs.length xs.length hi=xs.length)/\∀p,H p=none->Q (.ref p) (upd H p (.tup (zi xs lo hi)))
def Nb:Ow X (Q8 X.K):=by
 intro RP s Y H x v vl vu lo hi sl Q I rx hs pl pu h;obtain⟨a,xs,rfl,hx,hw,q⟩:=h;cases rx;obtain⟨its,r,ht,hz⟩:=I.tuple hx;have R4:its.toArray.size=xs.length:=by rw[b7];exact r.length.symm
 refine⟨"tuple",_,dH.lookup,ht.typeIs,?_⟩;refine HT.wu ht hs pl pu (by rw[R4];exact hw) ?_ (by rw[R4];exact hz);rw[R4];refine⟨.ref s.heap.objs.size,_,I.laid (t':=s.toks) (o:=.tup (zi xs lo hi)) (λb ob q=>bX _ q) (cq _) ?_,rfl,q _ (I.lb.fresh (cq _))⟩;exact⟨di (xO xs lo hi) hz,_,(r.drop (HT.pZ xs.length 0 lo)).take (HT.pZ xs.length xs.length hi - HT.pZ xs.length 0 lo),BF.new _ _⟩
def Pw(K:nz):R2:=λx y H Q=>∃a b xs ys,x=.ref a/\y=.ref b/\rc K H a xs/\rc K H b ys/\xs≠[]/\xs.length+ys.length<=sizeLine/\
 (ys=[]->Q (.ref a) H)/\(ys≠[]->∀p,H p=none->Q (.ref p) (upd H p (.tup (xs++ys))))
def nI.lL{xs:V0 V}{us:V0 Vl}(r:nI xs us):us=[]↔xs=[]:=by
 cases r with
 | nil=>simp
 | cons _ _=>simp
def J8:ul X (binaryOp .Add) (Pw X.K):=by intro RP s Y H x y v u Q I rx ry h;obtain⟨a,b,xs,ys,rfl,rfl,ha,hb,hx,hz,q1,q2⟩:=h;cases rx;cases ry;obtain⟨its,r1,p1,_⟩:=I.tuple ha;obtain⟨Tc,r2,p2,_⟩:=I.tuple hb;refine HT.Jv p1 p2 (λz=>hx (r1.lL.mp z)) (λz=>⟨.ref a,H,I,rfl,q1 (r2.lL.mp z)⟩) (λz=>?_) (by rw[<-r1.length,<-r2.length];exact hz);refine⟨.ref s.heap.objs.size,_,I.laid (t':=s.toks) (o:=.tup (xs++ys)) (λb ob q=>bX _ q) (cq _) ?_,rfl,q2 (λw=>z (r2.lL.mpr w)) _ (I.lb.fresh (cq _))⟩;exact⟨by rw[bS];exact hz,_,r1.append r2,BF.new _ _⟩
noncomputable def Eo(n:Nat)(i:Int):Option Nat:=if 0<=i then(if i<n then some i.toNat else none)else if -(n:Int)<=i then some (i+n).toNat else none
noncomputable def tY{α:Type}(xs:List α)(i:Int):Option α:=(Eo xs.length i).bind λj=>xs[j]?
def EN{n:Nat}{i:Int}{j:Nat}(h:Eo n i=some j):seqIndex? i n=some j/\j<n/\-(n:Int)<=i/\i<n:=by
 unfold Eo at h;by_cases h0:0<=i
 .rw[b9 h0]at h;by_cases h1:i<n
  .rw[b9 h1]at h;have e:i.toNat=j:=ce h;exact⟨by rw[kg h0 h1,e],by lia,by lia,h1⟩
  .rw[bV h1]at h;cases h
 .rw[bV h0]at h;by_cases h1:-(n:Int)<=i
  .rw[b9 h1]at h;have e:(i+n).toNat=j:=ce h;exact⟨by rw[jS (by lia) h1,e],by lia,h1,by lia⟩
  .rw[bV h1]at h;cases h
def BJ{α:Type}{xs:List α}{i:Int}{v:α}(h:tY xs i=some v):∃j,seqIndex? i xs.length=some j/\xs[j]?=some v/\j<xs.length/\-(xs.length:Int)<=i/\i<xs.length:=by
 unfold tY at h;cases e:Eo xs.length i with
 | none=>rw[e]at h;cases h
 | some j=>rw[e]at h;obtain⟨h1,h2,h3,h4⟩:=EN e;exact⟨j,h1,h,h2,h3,h4⟩
def qI{α:Type}{xs:List α}{j:Nat}{v:α}(h:xs[j]?=some v):tY xs (j:Int)=some v:=by
 have hj:j<xs.length:=(bW.mp h).1;have e:Eo xs.length (j:Int)=some j:=by unfold Eo;rw[b9 (by lia),b9 (by lia)];simp
 unfold tY;rw[e];exact h
def yj(b:Expr):Prop:=∀o i,subscripted b false o i=operate [o,i] (getItem o i)
def Oq(X:Cx)(r:R2):Prop:=
 ∀(value slice:Expr) (RP:QQY) (s:Sd) (Y:St) (H:Hp) (x y:V) (v u:Vl) (Q:VK),Inv X RP Y H s->nW x v->nW y u->r x y H Q->
  subscripted slice false v u=operate [v,u] (getItem v u)->wpAny (model X.prog X.w) X.A (subscriptTail value slice v u) (EP X RP Y Q) X.xe s
def Oz(X:Cx)(id:String)(r:V->V0 V->Hp->VK->Prop):Prop:=
 ∀(RP:QQY) (s:Sd) (Y:St) (H:Hp) (x:V) (xs:V0 V) (v:Vl) (us:V0 Vl) (Q:VK),Inv X RP Y H s->nW x v->nI xs us->r x xs H Q->
  wpAny (model X.prog X.w) X.A (call (.builtin id) (v::us)) (EP X RP Y Q) X.xe s
variable {o:Expr}{es:V0 Expr}{to:TE}{t:TA}{name:Str}{RT RX:Pos}{T id:String}{r:V→V0 V→Hp→VK→Prop}{a:Expr}{ta tb:TE}
section
variable {b:Expr}
def Jd{r:R2}(hr:Oq X r)(ha:PE X a ta)(hb:PE X b tb)(hs:yj b):PE X (.Subscript a b pos) (Pd r ta tb):=by intro RP s Y H Q I h;exact Subscript_ (Nd ha hb I h λv u s2 x y H2 I2 rx ry q=>hr a b RP s2 Y H2 x y v u Q I2 rx ry q (hs _ _))
def QU(K:nz):R2:=λx y H Q=>∃p xs i v,x=.ref p/\y=.int i/\sO K H p xs/\tY xs i=some v/\Q v H
def Rb(K:nz):R2:=λx y H Q=>∃p xs i v,x=.ref p/\y=.int i/\rc K H p xs/\tY xs i=some v/\Q v H
def Qm:R2:=λx y H Q=>∃z i c,x=.str z/\y=.int i/\z.length<=sizeLine/\tY z.cps.toList i=some c/\Q (.str ⟨#[c]⟩) H
def EZ:Oq X (QU X.K):=by
 intro value slice RP s Y H x y v u Q I rx ry h hs;obtain⟨p,xs,i,z,rfl,rfl,hq,he,q⟩:=h;cases rx;obtain⟨t,rfl⟩:=ry;obtain⟨its,r,pl,hz⟩:=I.list hq;obtain⟨j,h1,h2,h3,h4,h5⟩:=BJ he;obtain⟨w,ew,TN⟩:=r.get h2;have hl:=r.length;have hn:=xx;have RV:EP X RP Y Q w s:=⟨z,H,I,TN,q⟩;by_cases h0:0<=i
 .have hj:i.toNat=j:=by rw[kg h0 h5]at h1;exact ce h1
  exact item_listR pl.isList h0 (by lia) (by rw[hj];simpa using ew) RV hs
 .have hj:(i+(its.toArray.size:Int)).toNat=j:=by rw[jS (by lia) h4]at h1;rw[b7,<-hl];exact ce h1
  exact i9 (x:=w) pl.isList.typeIs j7.lookup
   (wpAny_getItem_list_neg (Q:=λr s'=>r=w/\EP X RP Y Q r s') pl.isList (by lia) (by rw[b7]<;>lia) (by lia) (by rw[hj];simpa using ew) ⟨rfl,RV⟩) hs
def Oh:Oq X (Rb X.K):=by
 intro value slice RP s Y H x y v u Q I rx ry h hs;obtain⟨p,xs,i,z,rfl,rfl,hq,he,q⟩:=h;cases rx;obtain⟨t,rfl⟩:=ry;obtain⟨its,r,pl,hz⟩:=I.tuple hq;obtain⟨j,h1,h2,h3,h4,h5⟩:=BJ he;obtain⟨w,ew,TN⟩:=r.get h2;have hl:=r.length;have hn:=xx;have RV:EP X RP Y Q w s:=⟨z,H,I,TN,q⟩;exact i9 (x:=w) pl.typeIs slot_tuple_getitem.lookup
  (getItem_tuple (j:=j) (Q:=λr s'=>r=w/\EP X RP Y Q r s') pl (by lia) (by lia) (by rw[b7,<-hl];exact h1) (by simpa using ew) ⟨rfl,RV⟩) hs
def Mc:Oq X Qm:=by
 intro value slice RP s Y H x y v u Q I rx ry h hs;obtain⟨z,i,c,rfl,rfl,hz,he,q⟩:=h;obtain⟨t,rfl⟩:=rx;obtain⟨t',rfl⟩:=ry;obtain⟨j,h1,h2,h3,h4,h5⟩:=BJ he;have hl:z.cps.toList.length=z.length:=by simp[Str.length]
 rw[hl]at h1 h4 h5;have hn:=xx;exact tail_any (gc s z t) slot_str_getitem.lookup (getItem_str (c:=c) (by
  have e1:decide (i< -(2 ^ 63:Int))=false:=cS (by lia);have e2:decide (i>=2 ^ 63)=false:=cS (by lia);rw[e1,e2,jB]) (by rw[h1];simpa using h2) ⟨.str ⟨#[c]⟩,H,I.tok _,⟨_,rfl⟩,q⟩) hs
def Ds(its:V0 Vl)(n j:Nat)(u:Vl):Obj.mapSeq (·.setIfInBounds j u) {cls:=.type "list",data:=.seq its.toArray n}={cls:=.type "list",data:=.seq (its.set j u).toArray n}:=by simp[Obj.mapSeq]
def Inv.lst{RP:QQY}{Y:St}{H:Hp}{s:Sd}{p:Addr}{xs:V0 V}(I:Inv X RP Y H s)(h:H p=some (.lst xs)):
  ∃(its:V0 Vl) (n:Nat),nI xs its/\s.heap.get? p=some {cls:=.type "list",data:=.seq its.toArray n}/\xs.length<=sizeLine:=by
 obtain⟨z,its,n,r,e⟩:=I.lb p _ h;exact⟨its,n,r,e,z⟩
def Inv.l9{RP:QQY}{Y:St}{H:Hp}{s:Sd}{p:Addr}{xs ys:V0 V}{its its':V0 Vl}{n n':Nat}{f:Obj->Obj}(I:Inv X RP Y H s)(h:H p=some (.lst xs)) (ho:s.heap.get? p=some {cls:=.type "list",data:=.seq its.toArray n}) (hf:f {cls:=.type "list",data:=.seq its.toArray n}={cls:=.type "list",data:=.seq its'.toArray n'}) (r:nI ys its') (hz:ys.length<=sizeLine) (t:Nat):
  Inv X RP Y (upd H p (.lst ys)) {s with heap:=s.heap.update p f,toks:=t}:=by
 have e:(s.heap.update p f).get? p=some {cls:=.type "list",data:=.seq its'.toArray n'}:=by rw[d6 f ho (by rw[hf]<;>rfl),hf]
 refine I.write (x:=p) (e:=p) (by rw[h];trivial) (.inl rfl) (λb u hb q=>(eG _ _ (cH hb)).trans q) ⟨_,e⟩ ?_;exact⟨hz,its',n',r,e⟩
def OW:V->V->V->Hp->(Hp->Prop)->Prop:=λo i v H Q=>∃p xs k j,o=.ref p/\i=.int k/\H p=some (.lst xs)/\Eo xs.length k=some j/\Q (upd H p (.lst (xs.set j v)))
def HS:OK X OW:=by
 intro RP s Y H o i v ov iv u Q I ro ri rv h;obtain⟨p,xs,k,j,rfl,rfl,hp,hj,q⟩:=h;cases ro;obtain⟨t,rfl⟩:=ri;obtain⟨its,n,r,ho,hz⟩:=I.lst hp;obtain⟨h1,h2,h3,h4⟩:=EN hj;have hl:=r.length;have hn:=xx;have I':Inv X RP Y (upd H p (.lst (xs.set j v))) {s with heap:=s.heap.update p (Obj.mapSeq (·.setIfInBounds j u))}:=
  I.l9 hp ho (Ds its n j u) (r.set rv j) (by rw[List.length_set];exact hz) s.toks
 by_cases h0:0<=k
 .have hk:k.toNat=j:=by rw[kg h0 h4]at h1;exact ce h1
  exact W.ki_setAt ho h0 (by lia) (by rw[b7,<-hl];exact h4) (by rw[hk];exact⟨_,I',q⟩)
 .have hk:(k+(its.toArray.size:Int)).toNat=j:=by rw[jS (by lia) h3]at h1;rw[b7,<-hl];exact ce h1
  exact W.ki_setBack ho (by lia) (by rw[b7,<-hl];exact h3) (by lia) (by rw[hk];exact⟨_,I',q⟩)
def By(lo hi:Option Int)(n:Nat):(sliceBounds lo hi none n).1=((HT.pZ n 0 lo:Nat):Int)/\(sliceBounds lo hi none n).2.1=((HT.pZ n n hi:Nat):Int)/\(sliceBounds lo hi none n).2.2=1:=by
 refine⟨?_,?_,rfl⟩
 .cases lo with
  | none=>simp[sliceBounds,HT.pZ]
  | some i=>
   simp only[sliceBounds,HT.pZ,km,show(1:Int)>0 by decide,gO];by_cases h:i<0
   .simp only[h,gO]<;>lia
   .simp only[h,if_false]<;>lia
 .cases hi with
  | none=>simp[sliceBounds,HT.pZ]
  | some i=>
   simp only[sliceBounds,HT.pZ,km,show(1:Int)>0 by decide,gO];by_cases h:i<0
   .simp only[h,gO]<;>lia
   .simp only[h,if_false]<;>lia
def zX(its:V0 Vl)(lo hi:Option Int):slicePick its.toArray lo hi none=((its.drop (HT.pZ its.length 0 lo)).take (HT.pZ its.length its.length hi - HT.pZ its.length 0 lo)).toArray:=by obtain⟨h1,h2,h3⟩:=By lo hi its.toArray.size;unfold slicePick;rw[h1,h2,h3];simp only[sliceRange_one,pick_run,b7]<;>rfl
def QN(K:nz):V->Option Int->Option Int->Hp->VK->Prop:=λx lo hi H Q=>∃a xs,x=.ref a/\sO K H a xs/\∀p,H p=none->Q (.ref p) (upd H p (.lst (zi xs lo hi)))
def ER:Ow X (QN X.K):=by intro RP s Y H x v vl vu lo hi sl Q I rx hs pl pu h;obtain⟨a,xs,rfl,hx,q⟩:=h;cases rx;obtain⟨its,r,ht,hz⟩:=I.list hx;have R4:=r.length;refine⟨"list",_,j7.lookup,ht.isList.typeIs,?_⟩;refine wpAny_getItem_list_slice ht.isList hs pl pu .none (by simp) ?_ (by rw[b7]<;>lia);rw[zX,<-R4];refine⟨.ref s.heap.objs.size,_,I.laid (t':=s.toks) (o:=.lst (zi xs lo hi)) (λb ob q=>bX _ q) (cq _) ?_,rfl,q _ (I.lb.fresh (cq _))⟩;exact⟨di (xO xs lo hi) hz,_,0,(r.drop (HT.pZ xs.length 0 lo)).take (HT.pZ xs.length xs.length hi - HT.pZ xs.length 0 lo),cz _ rfl⟩
noncomputable def vv:V->Bool
 | .k9=>true
 | .bl _=>true
 | .int _=>true
 | .str _=>true
 | _=>false
noncomputable def Jm:V->V->Bool
 | .k9,.k9=>true
 | .bl a,.bl b=>a==b
 | .bl a,.int b=>(if a then 1 else 0)==b
 | .int a,.bl b=>a==(if b then 1 else 0)
 | .int a,.int b=>a==b
 | .str a,.str b=>a==b
 | _,_=>false
def MB{A:Ar}{s:Sd}{y x:V}{u v:Vl}(ry:nW y u)(rx:nW x v)(fy:vv y=true)(fx:vv x=true):SeqAt.EqAt A s u v (Jm y x):=by
 cases y with
 | k9=>
  cases ry;cases x with
  | k9=>cases rx;exact SeqAt.EqAt.same _
  | bl b=>cases rx;exact SeqAt.EqAt.none_bool b
  | int b=>obtain⟨t,rfl⟩:=rx;exact SeqAt.EqAt.none_int b t
  | str b=>obtain⟨t,rfl⟩:=rx;exact SeqAt.EqAt.none_str b t
  | _=>exact absurd (show false=true from fx) cg
 | bl a=>
  cases ry;cases x with
  | k9=>cases rx;exact SeqAt.EqAt.bool_none a
  | bl b=>cases rx;exact SeqAt.EqAt.bool_bool a b
  | int b=>obtain⟨t,rfl⟩:=rx;exact SeqAt.EqAt.bool_int a b t
  | str b=>obtain⟨t,rfl⟩:=rx;exact SeqAt.EqAt.bool_str a b t
  | _=>exact absurd (show false=true from fx) cg
 | int a=>
  obtain⟨t',rfl⟩:=ry;cases x with
  | k9=>cases rx;exact SeqAt.EqAt.int_none a t'
  | bl b=>cases rx;exact SeqAt.EqAt.int_bool a t' b
  | int b=>obtain⟨t,rfl⟩:=rx;exact SeqAt.EqAt.int_int a t' b t
  | str b=>obtain⟨t,rfl⟩:=rx;exact jL a t' b t
  | _=>exact absurd (show false=true from fx) cg
 | str a=>
  obtain⟨t',rfl⟩:=ry;cases x with
  | k9=>cases rx;exact SeqAt.EqAt.str_none a t'
  | bl b=>cases rx;exact SeqAt.EqAt.str_bool a t' b
  | int b=>obtain⟨t,rfl⟩:=rx;exact jM a t' b t
  | str b=>obtain⟨t,rfl⟩:=rx;exact SeqAt.EqAt.str_str a t' b t
  | _=>exact absurd (show false=true from fx) cg
 | _=>exact absurd (show false=true from fy) cg
noncomputable def Dd(x:V)(u:Vl):Bool:=match u with
 | .none=>Jm .k9 x
 | .bool b=>Jm (.bl b) x
 | .int i _=>Jm (.int i) x
 | .str z _=>Jm (.str z) x
 | _=>false
def HF{x y:V}{u:Vl}(r:nW y u)(f:vv y=true):Dd x u=Jm y x:=by
 cases y with
 | k9=>cases r;rfl
 | bl b=>cases r;rfl
 | int i=>obtain⟨t,rfl⟩:=r;rfl
 | str z=>obtain⟨t,rfl⟩:=r;rfl
 | _=>exact absurd (show false=true from f) cg
theorem wn{x:V}:∀{xs:V0 V} {us:V0 Vl},nI xs us->xs.all vv=true->us.any (Dd x)=xs.any λy=>Jm y x
 | _,_,.nil,_=>rfl
 | y::xs,u::us,.cons r t,f=>by rw[fL,bR]at f;rw[eI,eI,HF r f.1,wn t f.2]
theorem uD{A:Ar}{s:Sd}{x:V}{v:Vl}(rx:nW x v)(fx:vv x=true):∀{xs:V0 V} {us:V0 Vl},nI xs us->xs.all vv=true->∀u∈us,SeqAt.EqAt A s u v (Dd x u)
 | _,_,.nil,_=>λu hu=>by cases hu
 | y::xs,u::us,.cons r t,f=>λu' hu=>by
  rw[fL,bR]at f;rcases bT.mp hu with rfl|hu
  .rw[HF r f.1];exact MB r rx f.1 fx
  .exact uD rx fx t f.2 u' hu
noncomputable def inV(x:V)(xs:V0 V):Bool:=xs.any λy=>Jm y x
def QR(K:nz)(UD:Bool):R2:=λx y H Q=>∃p xs,y=.ref p/\(sO K H p xs\/rc K H p xs)/\vv x=true/\xs.all vv=true/\Q (.bl (if UD then !inV x xs else inV x xs)) H
def F':ul X (compareOp .In) (QR X.K false):=by
 intro RP s Y H x y v u Q I rx ry h;obtain⟨p,xs,rfl,hq,fx,fs,q⟩:=h;cases ry;rcases hq with hq|hq
 .obtain⟨its,r,pl,hz⟩:=I.list hq;refine SeqAt.in_listAt (Dd x) pl.isList (λw hw=>uD rx fx r fs w (by simpa using hw)) ⟨.bl _,H,I,rfl,?_⟩;rw[show its.toArray.any (Dd x)=its.any (Dd x)by simp,wn r fs];exact q
 .obtain⟨its,r,pl,hz⟩:=I.tuple hq;refine SeqAt.in_tupleAt (Dd x) pl (λw hw=>uD rx fx r fs w (by simpa using hw)) ⟨.bl _,H,I,rfl,?_⟩;rw[show its.toArray.any (Dd x)=its.any (Dd x)by simp,wn r fs];exact q
def A0:ul X (compareOp .NotIn) (QR X.K true):=by
 intro RP s Y H x y v u Q I rx ry h;obtain⟨p,xs,rfl,hq,fx,fs,q⟩:=h;cases ry;rcases hq with hq|hq
 .obtain⟨its,r,pl,hz⟩:=I.list hq;refine SeqAt.notIn_listAt (Dd x) pl.isList (λw hw=>uD rx fx r fs w (by simpa using hw)) ⟨.bl _,H,I,rfl,?_⟩;rw[show its.toArray.any (Dd x)=its.any (Dd x)by simp,wn r fs];exact q
 .obtain⟨its,r,pl,hz⟩:=I.tuple hq;refine SeqAt.notIn_tupleAt (Dd x) pl (λw hw=>uD rx fx r fs w (by simpa using hw)) ⟨.bl _,H,I,rfl,?_⟩;rw[show its.toArray.any (Dd x)=its.any (Dd x)by simp,wn r fs];exact q
def AW:ul X (compareOp .NotIn) (λx y H Q=>∃i j,x=.str i/\y=.str j/\Q (.bl (!(!(Builtin.Str.occurrences j i 0 j.length 1).isEmpty))) H):=by intro RP s Y H x y v u Q I rx ry h;obtain⟨i,j,rfl,rfl,q⟩:=h;obtain⟨t,rfl⟩:=rx;obtain⟨t',rfl⟩:=ry;exact notIn_str ⟨.bl _,H,I,rfl,q⟩
def tP:uC X (.builtin "len") (λxs H Q=>∃p ys,xs=[.ref p]/\(sO X.K H p ys\/rc X.K H p ys)/\Q (.int ys.length) H):=by
 intro RP s Y H xs us Q I r h;obtain⟨p,ys,rfl,hq,q⟩:=h;obtain⟨u,rfl,rx⟩:=sf r;cases rx;have hn:=xx;rcases hq with hq|hq
 .obtain⟨its,r',pl,hz⟩:=I.list hq;have R4:=r'.length;exact Calls.call_len_list pl.isList (by simp only[b7]<;>lia) ⟨.int ys.length,H,I.tok _,⟨s.toks+1,by rw[b7,R4]⟩,q⟩
 .obtain⟨its,r',pl,hz⟩:=I.tuple hq;have R4:=r'.length;exact len_tuple pl (by simp only[b7]<;>lia) ⟨.int ys.length,H,I.tok _,⟨s.toks+1,by rw[b7,R4]⟩,q⟩
def BB:uC X (.builtin "len") (λxs H Q=>∃z,xs=[.str z]/\z.length<=sizeLine/\Q (.int z.length) H):=by intro RP s Y H xs us Q I r h;obtain⟨z,rfl,hz,q⟩:=h;obtain⟨u,rfl,t,rfl⟩:=sf r;have hn:=xx;exact len_str (by lia) ⟨.int z.length,H,I.tok _,⟨_,rfl⟩,q⟩
def AX:uC X (.type "list") (λxs H Q=>∃p ys,xs=[.ref p]/\(sO X.K H p ys\/rc X.K H p ys)/\∀l,H l=none->Q (.ref l) (upd H l (.lst ys))):=by
 intro RP s Y H xs us Q I r h;obtain⟨p,ys,rfl,hq,q⟩:=h;obtain⟨u,rfl,rx⟩:=sf r;cases rx;have RV:∀(its:V0 Vl),nI ys its->ys.length<=sizeLine->∀(h':Heap) (c':Nat),(∀b o',s.heap.get? b=some o'->h'.get? b=some o')->
   h'.get? s.heap.objs.size=some {cls:=.type "list",dict:=none,data:=.seq its.toArray c',slots:=#[]}->EP X RP Y Q (.ref s.heap.objs.size) {s with heap:=h'}:=λits r' hz h' c' kp e=>
  ⟨.ref s.heap.objs.size,_,I.laid (t':=s.toks) kp (cq _) (show pj X.prog X.w _ h' _ (.lst ys)from⟨hz,its,c',r',e⟩),rfl,q _ (I.lb.fresh (cq _))⟩
 rcases hq with hq|hq
 .obtain⟨its,r',pl,hz⟩:=I.list hq;have R4:=r'.length;obtain⟨o,ho,hc,n,hd⟩:=pl.isList;exact call_list_seq p (.inl rfl) ho hc hd (λh' c' kp e=>RV its r' hz h' c' kp e) (by simp only[b7]<;>lia)
 .obtain⟨its,r',pl,hz⟩:=I.tuple hq;have R4:=r'.length;obtain⟨o,ho,hc,n,hd⟩:=pl;exact call_list_seq p (.inr rfl) ho hc hd (λh' c' kp e=>RV its r' hz h' c' kp e) (by simp only[b7]<;>lia)
def sW:uC X (.type "tuple") (λxs H Q=>∃p ys,xs=[.ref p]/\((sO X.K H p ys/\∀l,H l=none->Q (.ref l) (upd H l (.tup ys)))\/(rc X.K H p ys/\Q (.ref p) H))):=by
 intro RP s Y H xs us Q I r h;obtain⟨p,ys,rfl,h⟩:=h;obtain⟨u,rfl,rx⟩:=sf r;cases rx;rcases h with⟨hq,q⟩|⟨hq,q⟩
 .obtain⟨its,r',pl,hz⟩:=I.list hq;have R4:=r'.length;refine call_tuple_list pl.isList (λh' kp=>?_) (by simp only[b7]<;>lia);have I1:Inv X RP Y H {s with heap:=h'}:=I.kept (t':=s.toks) kp;have I2:Inv X RP Y (upd H h'.objs.size (.tup ys)) {s with heap:=h'.push {cls:=.type "tuple",data:=.seq its.toArray}}:=
   I1.laid (t':=s.toks) (λb o e=>bX _ e) (cq _) (show pj X.prog X.w _ _ _ (.tup ys)from⟨hz,its,r',BF.new _ _⟩)
  exact⟨.ref h'.objs.size,_,I2,rfl,q _ (I1.lb.fresh (cq _))⟩
 .obtain⟨its,r',pl,hz⟩:=I.tuple hq;exact call_tuple_same pl ⟨.ref p,H,I,rfl,q⟩
def Qo(K:nz)(T:String)(x:V)(H:Hp):Prop:=match x with
 | .str _=>T="str"
 | .int _=>T="int"
 | .ref p=>(T="list"/\∃xs,sO K H p xs)\/(T="tuple"/\∃o,K.lookup p=some o/\o.cls=.type "tuple"/\o.dict=none)\/
   (T="dict"/\((∃kvs,H p=some (.dK kvs))\/∃kvs,H p=some (.dT kvs)))\/(T="set"/\∃S n,H p=some (.set S n))
 | _=>False
def Di{RP:QQY}{Y:St}{H:Hp}{s:Sd}{T:String}{x:V}{v:Vl}(I:Inv X RP Y H s)(r:nW x v)(ty:Qo X.K T x H):
  s.TypeIs v T/\∀a,v=.ref a->∃ob,s.heap.get? a=some ob/\ob.dict=none:=by
 cases x with
 | str z=>obtain⟨t,rfl⟩:=r;cases(show T="str" from ty);exact⟨gc s z t,λ_ e=>nomatch e⟩
 | int i=>obtain⟨t,rfl⟩:=r;cases(show T="int" from ty);exact⟨kz s i t,λ_ e=>nomatch e⟩
 | ref p=>
  cases r;rcases ty with⟨rfl,xs,hq⟩|⟨rfl,o,hk,hc,hd⟩|⟨rfl,hk⟩|⟨rfl,S,n,hk⟩
  .obtain⟨its,_,pl,_⟩:=I.list hq;refine⟨pl.isList.typeIs,λa e=>?_⟩;cases e;obtain⟨o,n,e,c,hd,_⟩:=pl;exact⟨o,e,hd⟩
  .refine⟨⟨o,I.ls p o hk,hc⟩,λa e=>?_⟩;cases e;exact⟨o,I.ls _ o hk,hd⟩
  .have z:∃o,s.heap.get? p=some o/\o.ExactDict:=by
    rcases hk with⟨kvs,hk⟩|⟨kvs,hk⟩
    .obtain⟨_,_,_,_,o,_,_,e,ex,_⟩:=I.lb p _ hk;exact⟨o,e,ex⟩
    .obtain⟨_,_,_,_,o,_,_,e,ex,_⟩:=I.lb p _ hk;exact⟨o,e,ex⟩
   obtain⟨o,e,ex⟩:=z;refine⟨⟨o,e,ex.1⟩,λa e2=>?_⟩;cases e2;exact⟨o,e,ex.2.1⟩
  .obtain⟨o,_,_,_,e,ex,_⟩:=I.lb p _ hk;refine⟨⟨o,e,ex.1⟩,λa e2=>?_⟩;cases e2;exact⟨o,e,ex.2.1⟩
 | _=>exact False.elim ty
def Qk(K:nz)(T:String)(r:V->V0 V->Hp->VK->Prop)(to:TE)(t:TA):TE:=λY H Q=>to Y H λx H1=>Qo K T x H1/\t Y H1 λxs H2=>r x xs H2 Q
def Hl(pa:PlainAttrs T)(slot:Slot T name id)(UV:typeOf (.builtin id)=pure (.type "method_descriptor"))(hm:Oz X id r)(ho:PE X o to)(ha:PA X (e::es) t) (RY:attributeBase o name X.env (eval o X.env)=eval o X.env:=by rfl)
  (R6:((backTo RX (starEach (e::es) X.env)).all (λx=>!x.1)&&(backToKw RX (keywordEach [] X.env)).all (λx=>x.1.isSome)
   &&decide ((e::es).length+([]:V0 Keyword).length+(if ([]:V0 Keyword).isEmpty then 0 else 1)<30))=true:=by rfl)
  (RZ:(RT.endLine==RX.line)=true:=by rfl) (hs:wj X e es:=by rfl) (R0:wX X RX es:=by rfl):
  PE X (.Call (.Attribute o name RT) (e::es) [] RX) (Qk X.K T r to t):=by
 intro RP s Y H Q I h;refine fQ RY R6 RZ rfl (pC (ho RP s Y H _ I h) λv s1 zz=>?_);obtain⟨x,H1,I1,r1,ty,q1⟩:=zz;obtain⟨h1,h2⟩:=Di I1 r1 ty;refine⟨T,id,pa,slot,UV,h1,h2,?_⟩;have hA:=ha RX RP s1 Y H1 _ I1 q1;rw[hs]at hA ⊢;refine e8 (by show(false||(backTo RX (starEach es X.env)).any (·.1))=false;rw[R0]<;>rfl) (fB ?_);exact pC hA λus s2 zz=>x5 zz λvs H2 I2 r2 q2=>hm RP s2 Y H2 x vs v us Q I2 r1 r2 q2
end
def Q9(X:Cx)(id:String)(r:V->V0 V->Hp->VK->Prop):Prop:=
 ∀(RP:QQY) (s:Sd) (Y:St) (H:Hp) (x:V) (xs:V0 V) (v:Vl) (us:V0 Vl) (Q:VK),Inv X RP Y H s->nW x v->nI xs us->r x xs H Q->
  wpAny (model X.prog X.w) X.A (call (.builtin id) (v::us)) (EP X RP Y Q) X.xe s
def nI.one:∀{x:V} {us:V0 Vl},nI [x] us->∃u,us=[u]/\nW x u
 | _,_,.cons r .nil=>⟨_,rfl,r⟩
theorem nI.rep{xs:V0 V}{us:V0 Vl}(h:nI xs us):∀k:Nat,nI (List.replicate k xs).flatten (List.replicate k us).flatten
 | 0=>.nil
 | k+1=>by rw[dm,dm,eF,eF];exact nI.append h (nI.rep h k)
theorem Ak(its:V0 Vl):∀(k:Nat) (acc:V0 Vl),List.foldl (λx1 x2=>x1++x2) acc.toArray (List.replicate k its.toArray)=(acc++(List.replicate k its).flatten).toArray
 | 0,acc=>by simp
 | k+1,acc=>by
  have e:acc.toArray++its.toArray=(acc++its).toArray:=by simp
  have e2:(acc++its)++(List.replicate k its).flatten=acc++(List.replicate (k+1) its).flatten:=by rw[dm,eF,df]
  rw[<-e2,<-Ak its k (acc++its),<-e,dm,dQ]
variable {RP:V0 (Addr × Obj)}{Y:St}{H:Hp}{s:Sd}{l:Addr}{xs ys zs:V0 V}
section
variable {b:Addr}
def Inv.lY{its its':V0 Vl}{n:Nat}{f:Array Vl->Array Vl}{t':Nat}(I:Inv X RP Y H s)(hH:H l=some (.lst xs)) (e:s.heap.get? l=some {cls:=.type "list",data:=.seq its.toArray n}) (hf:f its.toArray=its'.toArray) (hv:nI ys its') (hz:ys.length<=sizeLine):
  Inv X RP Y (upd H l (.lst ys)) {s with heap:=s.heap.update l (Obj.mapSeq f),toks:=t'}:=by
 have q:=PySem.IsL.update e f;rw[hf]at q;refine I.write (x:=l) (e:=l) (by rw[hH];exact trivial) (.inl rfl) (λb' u hb hu=>(eG s.heap (Obj.mapSeq f) (cH hb)).trans hu) ⟨_,q⟩ ?_;exact⟨hz,its',_,hv,q⟩
def Inv.mh{its:V0 Vl}{t':Nat}(I:Inv X RP Y H s)(hv:nI ys its)(hz:ys.length<=sizeLine):
  Inv X RP Y (upd H s.heap.objs.size (.lst ys)) {s with heap:=s.heap.push {cls:=.type "list",data:=.seq its.toArray},toks:=t'}:=
 I.laid (λ_ _ q=>bX _ q) (cq _) ⟨hz,its,0,hv,cz _ rfl⟩
def Inv.fresh(I:Inv X RP Y H s):H s.heap.objs.size=none:=I.lb.fresh (cq _)
def Inv.lO(I:Inv X RP Y H s)(hH:H l=some (.lst xs)):xs.length<=sizeLine/\∃(its:V0 Vl) (n:Nat),nI xs its/\xs.length=its.length/\s.heap.get? l=some {cls:=.type "list",data:=.seq its.toArray n}:=by obtain⟨z,its,n,r,e⟩:=I.lb l _ hH;exact⟨z,its,n,r,r.length,e⟩
def zw{n:Nat}(h:n<=sizeLine):Builtin.List.listTooLong n=false:=by unfold Builtin.List.listTooLong;exact cS (by lia)
end
def Kl:V->V0 V->Hp->VK->Prop:=λx vs H Q=>∃l xs y,x=.ref l/\vs=[y]/\H l=some (.lst xs)/\xs.length<sizeLine/\Q .k9 (upd H l (.lst (xs++[y])))
def FS:Q9 X "list.append" Kl:=by intro RP s Y H x vs v us Q I rx rv h;obtain⟨l,xs,y,rfl,rfl,hH,hz,q⟩:=h;cases rx;obtain⟨u,rfl,ru⟩:=rv.one;obtain⟨z,its,n,r,hl,e⟩:=I.lO hH;refine fC F.slot_list_append ⟨_,e,rfl⟩ F.entry_list_append (F.args_list_append_2 _ _) (PySem.list_append l its.toArray n u (by rw[b7];lia)) ⟨e,?_⟩;refine⟨.k9,_,I.lY (its':=its++[u]) hH e (by simp) (r.append (.cons ru .nil)) ?_,rfl,q⟩;rw[bS,cC];lia
def J6:V->V0 V->Hp->VK->Prop:=λx vs H Q=>∃l b xs zs,x=.ref l/\vs=[.ref b]/\H l=some (.lst xs)/\H b=some (.lst zs)/\xs.length+zs.length<=sizeLine/\Q .k9 (upd H l (.lst (xs++zs)))
def FO:Q9 X "list.extend" J6:=by
 intro RP s Y H x vs v us Q I rx rv h;obtain⟨l,b,xs,zs,rfl,rfl,hH,hB,hz,q⟩:=h;cases rx;obtain⟨u,rfl,ru⟩:=rv.one;cases ru;obtain⟨z,its,n,r,hl,e⟩:=I.lO hH;obtain⟨z2,Tc,n2,r2,hl2,e2⟩:=I.lO hB;have hsz:its.toArray.size+Tc.toArray.size<=sizeLine:=by rw[b7,b7];lia
 have S4:¬(!its.toArray.isEmpty&&Builtin.List.listTooLong (its.toArray.size+Tc.toArray.size))=true:=by rw[zw hsz,cZ];exact cg
 refine fC jT ⟨_,e,rfl⟩ jF (jp _ _)
  (AutoSeq1.list_extend_list_list_0 l its.toArray n b Tc.toArray n2 S4 (by rw[b7];lia) (by lia)) ⟨e,e2,?_⟩
 refine⟨.k9,_,I.lY (its':=its++Tc) hH e (by simp) (r.append r2) ?_,rfl,q⟩;rw[bS];lia
def Q1:R2:=λx y H Q=>∃l k xs,x=.ref l/\y=.int k/\H l=some (.lst xs)/\-(2 ^ 63)<=k/\k<2 ^ 63/\xs.length*k.toNat<=sizeLine/\
 ∀p,H p=none->Q (.ref p) (upd H p (.lst (List.replicate k.toNat xs).flatten))
def J'{α:Type}(xs:List α)(k:Nat):(List.replicate k xs).flatten.length=k*xs.length:=by
 induction k with
 | zero=>simp
 | succ k ih=>rw[dm,eF,bS,ih,iI,Nat.add_comm]
def NW:ul X (binaryOp .Mult) Q1:=by
 intro RP s Y H x y v u Q I rx ry h;obtain⟨l,k,xs,rfl,rfl,hH,h1,h2,hz,q⟩:=h;cases rx;obtain⟨t,rfl⟩:=ry;obtain⟨z,its,n,r,hl,e⟩:=I.lO hH;have R4:its.toArray.size*k.toNat<=sizeLine:=by rw[b7,<-hl];exact hz
 have hcap:¬its.toArray.size*k.toNat>(2 ^ 63 - 1) / 8:=by
  have:(sizeLine:Nat)<=(2 ^ 63 - 1) / 8:=by decide
  lia
 have UW:¬(!Builtin.List.listFitsIndex k)=true:=by rw[fitsIndex_both h1 h2];exact cg
 have S4:¬Builtin.List.listTooLong (its.toArray.size*k.toNat)=true:=by rw[zw R4];exact cg
 have TQ:List.foldl (λx1 x2=>x1++x2) #[] (List.replicate (if its.toArray.isEmpty=true then 0 else k.toNat) its.toArray)=(List.replicate k.toNat its).flatten.toArray:=by
  have f0:∀m:Nat,List.foldl (λx1 x2=>x1++x2) #[] (List.replicate m its.toArray)=(List.replicate m its).flatten.toArray:=λm=>by have:=Ak its m [];rw[cG]at this;exact this
  rw[f0];cases its with
  | nil=>simp
  | cons a r'=>rw[bV (by simp)]
 refine wpAny_binaryOp_repeat_ref (T:="list") (U:="int") (by decide) ⟨_,e,rfl⟩ (λs'=>kz s' k t) noFill_list_mul F.fills_int_mul kA repeat_list F.slot_int_index.lookup
  (fC kA (kz s k t) F.entry_int_rmul (F.args_int_rmul_2 _ _) (int___rmul___int_list k t l its.toArray n)
   ⟨e,rfl,⟨_,e,rfl⟩,fC F.slot_list_mul ⟨_,e,rfl⟩ F.entry_list_mul (F.args_list_mul_2 _ _) (AutoListH.list___mul___list_int_3 l its.toArray n k t UW hcap S4) ⟨e,?_⟩⟩)
 rw[TQ];exact⟨.ref _,_,I.mh (t':=s.toks) (r.rep k.toNat) (by rw[J',Nat.mul_comm];exact hz),rfl,q _ I.fresh⟩
variable {prog:Pg}{w:Wo}{A:Ar}{E:QQX}
end L2
namespace Att
open PySem PySem.W PySem.Calls PyProof.Rows
def x8{P:Params}{h:Heap}:∀(ns:V0 Int) (vs:V0 Vl),WellAll P h vs (ns.map WData.int)->IntsAre vs ns:=by
 intro ns;induction ns with
 | nil=>intro vs w;rw[gW]at w;cases w;exact .nil
 | cons n ns ih=>
  intro vs w;rw[cY]at w;cases w with
  | cons a b=>cases a;exact .cons _ _ (ih _ b)
def Fz{l:OpenLaw}{n:Nat}(hn:l.most=some n){P:Params}{h:Heap}{args:V0 WData}{UX:V0 Vl} (Uk:l.row.toRowW.claim.pre args=true) (hwl:WellAll P h UX args):
  ∃a vs ns,UX=[Value.ref a]/\args=[WData.list (ns.map WData.int)]/\h.get? a=some {cls:=.type "list",data:=.seq vs.toArray}/\IntsAre vs ns/\ns.length<=n:=by
 have hsh:WShape.hasAll [] args [.list .int]=true:=(pre_splitW Uk).1;have hc:l.pre.holds [] {args:=args}=true:=(pre_splitW Uk).2;obtain⟨d,r,rfl,h1,h2⟩:=hasAllW_cons hsh;obtain rfl:=hasAllW_nil h2;obtain⟨xs,rfl,h3⟩:=hasW_list h1;obtain⟨ns,rfl⟩:=items_int h3;have R4:ns.length<=n:=by
  unfold OpenLaw.pre at hc;have h4:(WTm.not (.lt (.lit (.int (n:Int))) (.len (.arg 0)))).holds [] {args:=[.list (ns.map .int)]}=true:=by have h4:=(holds_andW hc).1;rw[hn]at h4;exact h4
  have h5:=condW_of h4 (w_not (w_lt w_lit (w_len_list (w_arg rfl))));rw[bP]at h5;refine Nat.le_of_not_lt λq=>?_;have q':(n:Int)<((ns.length:Nat):Int):=by lia
  first
   | (rw[cu q']at h5;exact absurd h5 (by decide))
   | (simp at h5;lia)
 cases hwl with
 | cons w1 w2=>
  cases w2;cases w1 with
  | list ho Sl=>exact⟨_,_,ns,rfl,rfl,ho,x8 ns _ Sl,R4⟩
def F5(l:OpenLaw)(args:V0 WData):l.row.toRowW.claim.post args (.bool true) args=true:=
 postW_of (r:=l.row.toRowW) (X:=(true==true))
  (show WShape.has [] (.bool true) .bool=true by first|rfl|decide|simp[WShape.has,WShape.arms,WShape.armsAll])
  (show(WTm.eq .res (.lit (.bool true))).value [] {args:=args,res:=some (.bool true),after:=args}=some (.bool (true==true))from w_eq_bool (w_res rfl) w_lit) rfl
def attach_call{l:OpenLaw}{n:Nat}{q:Pg}{SO:QQQ}{XP:(QQZ)->Heap->Prop}{YP:Wo->Heap->Prop}{d:DefRec} (hn:l.most=some n) (UE:d.params.defaults=[]) (call:∀(w:Wo) (s₀ s₁:Sd) (mg mb:QQZ) (fa:Addr) (o:Obj) (pm cd SK:Vl) (a:Addr) (vs:V0 Vl) (ns:V0 Int),Ground q SO [] XP w s₀ mg mb s₁.heap->YP w s₁.heap->
   s₁.heap.get? fa=some o->o.data=.func (docDef d.name d.params d.body d.scope pm cd SK)->s₁.heap.CodeRec cd d.name->mg d.name=some (.ref fa)->
   s₁.heap.get? a=some {cls:=.type "list",data:=.seq vs.toArray}->IntsAre vs ns->ns.length<=n->s₁.gens=#[]->
   codeAny (model l.prog w) callerA (.call (.ref fa) ⟨[.ref a],[]⟩) (λr s'=>r=.ok (.ret (.bool true))/\OldK s₁.heap s'.heap/\s'.os=s₁.os/\AllBare s'.gens) s₁):
  WalkO q SO XP YP l.row.toRowW d [] (λf vs=>PySem.call f vs):=by
 intro w s₀ s₁ mg mb G Y fa o pm cd SK dV kV ho hd SD hD hmg hg args UX as Uk hlay hrd hwl hlo;obtain rfl:dV=.none:=Dflts.none hD UE;obtain rfl:kV=.none:=Dflts.noKw hD;obtain⟨a,vs,ns,rfl,rfl,UY,TR,R4⟩:=Fz hn Uk hwl;refine enter_call (fS (call w s₀ s₁ mg mb fa o pm cd SK a vs ns G Y ho (fd_plain hd) SD hmg UY TR R4 hg) λr s' hq=>?_);obtain⟨rfl,h2,h3,h4⟩:=hq;exact⟨.inl ⟨.bool true,.bool true,[],rfl,λ_=>rfl,.bool true,F5 l _,λ_=>⟨List.Pairwise.nil,λ_ hm=>(nomatch hm)⟩⟩,h2,h3,h4⟩
variable {prog:Pg}{w:Wo}{A:Ar}{E:QQX}{s:Sd}{K:Frag}
end Att
namespace L2
theorem AO:∀{vs:V0 Vl} {ns:V0 Int},IntsAre vs ns->nI (ns.map V.int) vs
 | _,_,.nil=>.nil
 | _,_,.cons n t h=>.cons ⟨t,rfl⟩ (AO h)
def IQ(H:Hp):Prop:=∀b,H b=none\/∃o xs,H b=some (.frz o (.lst xs))
def I0{P:Pg}{w:Wo}{K:nz}{mg mb:QQZ}{CX:GA}{k:Nat}{fa a:Addr}{fd:FuncData}{x:Str}{sp:Sp}{s₁:Sd}{vs:V0 Vl}{ns:V0 Int} (KX:K.In s₁.heap) (hns:s₁.heap.Ns mainGlobals mg) (hb:s₁.heap.Ns builtinsNs mb) (hbb:∀x:Str,x≠"__name__"->mb x=bootBuiltins x) (hlim:s₁.heap.NoLimit) (hg:s₁.gens=#[]) (ha:s₁.heap.get? a=some {cls:=.type "list",data:=.seq vs.toArray}) (hi:IntsAre vs ns) (hl:ns.length<=sizeLine) (hr:pJ k callerA)
  (F:∀base:Heap,K.In base->base.Ns mainGlobals mg->xg P w K mg base CX k fa fd [x] sp) (hbind:∀(s:Sd) (u:Vl),BindsTo s fd ⟨[u],[]⟩ [(x,u)])
  (Ua:∀H:Hp,IQ H->sO K H a (ns.map V.int)->sp [.ref a] H (λv _=>v=.bl true) λ_ _ _=>False)
  (hCX:∀H e s',CX [] H s₁ (λ_ _ _=>False) e s'->False):
  codeAny (model P w) callerA (.call (.ref fa) ⟨[.ref a],[]⟩) (λr s'=>r=.ok (.ret (.bool true))/\OldK s₁.heap s'.heap/\s'.os=s₁.os/\AllBare s'.gens) s₁:=by
 have rv:=AO hi;have lenV:=hi.length;have core:∀H:Hp,IQ H->sO K H a (ns.map V.int)->uz P w H s₁.heap->(∀b,H b≠none->b=a)->(H a≠none->K.lookup a=none)->
   codeAny (model P w) callerA (.call (.ref fa) ⟨[.ref a],[]⟩) (λr s'=>r=.ok (.ret (.bool true))/\OldK s₁.heap s'.heap/\s'.os=s₁.os/\AllBare s'.gens) s₁:=by
  intro H hO hS lb hA hK;have Tv:∀{b:Addr} {o:Obj},s₁.heap.get? b=some o->H b=none->(BO s₁.heap H).get? b=some o:=λe n=>Hk e n;have noA:∀{b:Addr} {o:Obj} {es:Array DictEntry} {ep:Nat},s₁.heap.get? b=some o->o.data=.dict es ep->H b=none:=λ{b o es ep} e d=>by
   cases q:H b with
   | none=>rfl
   | some u=>have e':b=a:=hA b (by rw[q];simp);subst e';rw[ha]at e;cases e;have d':Data.seq vs.toArray _=Data.dict es ep:=d;cases d'
  have nsK:∀{b:Addr} {m:QQZ},s₁.heap.Ns b m->(BO s₁.heap H).Ns b m:=λ{b m} ⟨o,es,ep,e,d,r⟩=>⟨o,es,ep,Tv e (noA e d),d,r⟩;have hKb:K.In (BO s₁.heap H):=λb o e=>Tv (KX b o e) (by
   cases q:H b with
   | none=>rfl
   | some u=>
    have e':b=a:=hA b (by rw[q];simp);subst e';rw[hK (by rw[q];simp)]at e;cases e)
  have hM:Mod K mg (BO s₁.heap H):=⟨hKb,nsK hns,⟨mb,nsK hb,hbb⟩,let⟨mc,h1,h2⟩:=hlim;⟨mc,nsK h1,h2⟩⟩;have e0:Dv P w K mg (BO s₁.heap H) callerA [] s₁ H:=⟨rfl,hM,λb o e=>KJ e,iD (FD _ _),trivial,λb hb=>absurd (show b∈([]:QXQ)from hb) (by simp),lb,.of_eq hg⟩;refine fS ((F _ hKb (nsK hns)).run callerA [] s₁ H ⟨[.ref a],[]⟩ [.ref a] [.ref a] _ _ hr e0 (hbind s₁ (.ref a)) (.cons rfl .nil) (Ua H hO hS)) λr s' h=>?_;cases r with
  | error e=>exact(hCX H e s' h).elim
  | ok fl=>
   cases fl with
   | next=>exact False.elim h
   | brk=>exact False.elim h
   | cont=>exact False.elim h
   | ret u=>
    obtain⟨v,H',os,bare,un,UZ,r',q⟩:=h;have q':v=.bl true:=q;subst q';obtain rfl:u=Value.bool true:=r';refine⟨rfl,OldK.of_keep λb o e=>?_,os,bare⟩;cases q:H b with
    | none=>exact un.keep b o e q (by intro z;exact absurd (show b∈([]:QXQ)from z) (by simp)) (by simp)
    | some u=>
     rcases hO b with z|⟨ob,xs,z⟩
     .rw[q]at z;cases z
     .have z2:=un.lA b ob _ z;obtain⟨e1,_⟩:=lb b _ z;obtain⟨e2,_⟩:=UZ b _ z2;rw[e]at e1;cases e1;exact e2
 cases hk:K.lookup a with
 | some o=>have e:=KX a o hk;rw[ha]at e;cases e;refine core (λ_=>none) (λ_=>.inl rfl) (.inr ⟨_,vs.toArray,_,hk,rfl,rfl,rfl,by rw[b7,lenV];exact hl,by simpa using rv⟩) (λb u z=>by have z':(none:Option HO)=some u:=z;cases z') (λb z=>absurd rfl z) λz=>absurd rfl z
 | none=>
  refine core (λb=>if b=a then some (.frz {cls:=.type "list",data:=.seq vs.toArray} (.lst (ns.map V.int)))else none) (λb=>?_) (.inl (.inr ⟨{cls:=.type "list",data:=.seq vs.toArray},b9 rfl⟩)) (λb u z=>?_) (λb z=>?_) λ_=>hk
  .by_cases hb:b=a
   .exact .inr ⟨_,_,b9 hb⟩
   .exact .inl (bV hb)
  .by_cases hb:b=a
   .have z':=(b9 hb).symm.trans z;cases z';subst hb;exact⟨ha,by rw[bP];exact hl,vs,_,rv,ha⟩
   .have z':=(bV hb).symm.trans z;cases z'
  .by_cases hb:b=a
   .exact hb
   .exact absurd (bV hb) z
def Lp{l:W.OpenLaw}{n k:Nat}{q:Pg}{SO:QQQ}{XP:(QQZ)->Heap->Prop}{YP:Wo->Heap->Prop}{d:DefRec}{K:Params->nz}{CX:Wo->GA}{sp:Wo->Sp}{x:Str} (hn:l.most=some n) (UC:n<=sizeLine) (UE:d.params.defaults=[]) (hr:pJ k callerA) (hY:∀(w:Wo) (h:Heap),YP w h->(K w.params).In h) (F:∀(w:Wo) (mg:QQZ) (fa:Addr) (h:Heap),(K w.params).In h->h.Ns mainGlobals mg->mg d.name=some (.ref fa)->
   ∃fd:FuncData,(∀(s:Sd) (u:Vl),BindsTo s fd ⟨[u],[]⟩ [(x,u)])/\
    ∀base:Heap,(K w.params).In base->base.Ns mainGlobals mg->xg l.prog w (K w.params) mg base (CX w) k fa fd [x] (sp w))
  (Ua:∀(w:Wo) (H:Hp) (a:Addr) (ns:V0 Int),ns.length<=n->IQ H->sO (K w.params) H a (ns.map V.int)->sp w [.ref a] H (λv _=>v=.bl true) λ_ _ _=>False)
  (hCX:∀(w:Wo) (H:Hp) (s:Sd) (e:Vl) (s':Sd),CX w [] H s (λ_ _ _=>False) e s'->False):
  W.WalkO q SO XP YP l.row.toRowW d [] (λf vs=>PySem.call f vs):=by
 refine Att.attach_call hn UE λw s₀ s₁ mg mb fa o pm cd SK a vs ns G Y ho hd SD hmg UY TR R4 hg=>?_;have KX:=hY w _ Y;obtain⟨fd,hb,hF⟩:=F w mg fa _ KX G.T.g hmg;exact I0 KX G.T.g G.T.b G.T.builtins G.T.nolimit hg UY TR (di R4 UC) hr hF hb (λH hO hS=>Ua w H a ns R4 hO hS) λH e s'=>hCX w H s₁ e s'
noncomputable def KS(s:Stmt)(j:Nat):Stmt:=match s with
 | .ClassDef _ _ _ body _ _ _ _ _ _ _=>body.getD j (.Pass ⟨0,0,0,0⟩)
 | _=>.Pass ⟨0,0,0,0⟩
noncomputable def qH(s:Stmt):Arguments:=match s with
 | .FunctionDef _ a _ _ _ _ _ _ _ _=>a
 | _=>{posonlyargs:=[],args:=[],vararg:=none,kwonlyargs:=[],kw_defaults:=[],kwarg:=none,defaults:=[]}
noncomputable def pD(s:Stmt):V0 Stmt:=match s with
 | .FunctionDef _ _ b _ _ _ _ _ _ _=>b
 | _=>[]
noncomputable def nv(s:Stmt):Scope:=match s with
 | .FunctionDef _ _ _ _ _ _ sc _ _ _=>sc
 | _=>{kind:=.function,names:=[],isGenerator:=false,isCoroutine:=false}
abbrev Jj:GA:=λ_ _ _ _ _ _=>False
abbrev E0:XK:=λ_ _ _=>False
def EC{X:Cx}:uM Jj X E0:=λ_ _ _ _ _ _ _ h=>h.elim
structure LU(K:nz)(x qual:Str)(st:Stmt)(f:Addr)(fd:FuncData):Prop where
 ex:∃(oc:Vl) (od:Option Addr) (kV SK pm:Vl) (an:Option Addr) (R8 ct:Vl) (Tb:Array (Option Vl)),
  fd=W.fnOf x qual (qH st) (pD st) (nv st) .none kV SK pm an R8 ct/\K.lookup f=some ⟨oc,od,.func fd,Tb⟩/\W.codeIn K R8 qual=true
 kp:W.keepIn K (.ref f)=true
variable {P:Pg}{K:nz}{mg:QQZ}{base:Heap}
section
variable {w:Wo}
def LU.ok{x qual:Str}{st:Stmt}{f:Addr}{fd:FuncData}{N ps:QQQ}{k:Nat}{sp:Sp}(F:LU K x qual st f fd)(S:qB N ps (nv st))(len:∀vs H Q E,sp vs H Q E->vs.length=ps.length) (Sh:∀(R8:Vl) (A:Ar) (outer:V0 Env) (s:Sd) (H:Hp) (vs:V0 V) (Q:VK) (E:XK),pJ k (A.deeper (envOfC qual (nv st) s.heap.objs.size f R8))->sp vs H Q E->
   ∃t,yk (rn Jj P w K mg base N qual (nv st) f R8 A outer s H E).mj (pD st) t/\t {nx:=λ_ H'=>Q .k9 H',rt:=Q} (vA N vs) H):xg P w K mg base Jj (k+1) f fd ps sp:=by
 obtain⟨oc,od,kV,SK,pm,an,R8,ct,Tb,rfl,lk,SD⟩:=F.ex;refine LL lk SD S len λA outer s H vs Q E hr Ua=>?_;obtain⟨t,h,q⟩:=Sh R8 A outer s H vs Q E hr Ua;exact⟨t,h.mj,q⟩
def LU.binds{x qual:Str}{st:Stmt}{f:Addr}{fd:FuncData}{ps:QQQ}(F:LU K x qual st f fd) (h:∀(kV SK pm:Vl) (an:Option Addr) (R8 ct:Vl) (us:V0 Vl),us.length=ps.length->bindArgs (W.fnOf x qual (qH st) (pD st) (nv st) .none kV SK pm an R8 ct) ⟨us,[]⟩=pure (ps.zip us)):rq K fd ps []:=by
 obtain⟨oc,od,kV,SK,pm,an,R8,ct,Tb,rfl,lk,SD⟩:=F.ex;exact .all (h kV SK pm an R8 ct)
def Ic{x qual:Str}{st:Stmt}{f:Addr}{oc:Vl}{od an:Option Addr}{Tb:Array (Option Vl)}{kV SK pm R8 ct:Vl}(l:K.lookup f=some ⟨oc,od,.func (W.fnOf x qual (qH st) (pD st) (nv st) .none kV SK pm an R8 ct),Tb⟩) (c:W.codeIn K R8 qual=true) (k:W.keepIn K (.ref f)=true):LU K x qual st f (W.fnOf x qual (qH st) (pD st) (nv st) .none kV SK pm an R8 ct):=⟨⟨oc,od,kV,SK,pm,an,R8,ct,Tb,rfl,l,c⟩,k⟩
end
variable {X:Cx}
def pv(i:Nat){x:Str}{pos:Pos}(hN:X.N[i]?=some x:=by rfl)(hv:L4 X.env.scope x:=by first|exact Or.inl rfl|exact Or.inr (Or.inl rfl)|exact Or.inr (Or.inr rfl))(hd:vq x:=by decide)
  (SD:(x==("__classdict__":Str))=false:=by decide):PE X (.Name x pos) (MO i):=M8 hN hv hd SD
def wg{A B:Prop}(h:B):if false=true then A else B:=by rw[bV cg];exact h
def yD{A B:Prop}(h:A):if true=true then A else B:=by rw[b9 rfl];exact h
def oo{c A B:Prop}[Decidable c](h1:c->A)(h2:¬c->B):if c then A else B:=by
 by_cases h:c
 .rw[b9 h];exact h1 h
 .rw[bV h];exact h2 h
def K2(H H':Hp):Prop:=∀b o,H b=some o->H' b=some o
def K2.trans{H H1 H2:Hp}(a:K2 H H1)(b:K2 H1 H2):K2 H H2:=λc o h=>b c o (a c o h)
section
variable {κ:Type}[DecidableEq κ]
noncomputable def uk(kvs:V0 (κ×V))(k:κ):Option V:=(kvs.find? λkv=>decide (kv.1=k)).map (·.2)
noncomputable def vY(kvs:V0 (κ×V))(k:κ)(v:V):V0 (κ×V):=
 if (kvs.any λkv=>decide (kv.1=k))=true then kvs.map (λkv=>if kv.1=k then(kv.1,v)else kv)else kvs++[(k,v)]
def zp{p:κ×V}{r:V0 (κ×V)}{k:κ}(e:p.1=k):uk (p::r) k=some p.2:=by simp[uk,fO,e]
def zx{p:κ×V}{r:V0 (κ×V)}{k:κ}(e:¬p.1=k):uk (p::r) k=uk r k:=by simp[uk,fO,e]
theorem CP(k:κ):∀kvs:V0 (κ×V),(kvs.any λkv=>decide (kv.1=k))=(uk kvs k).isSome
 | []=>rfl
 | p::r=>by
  rw[eI];by_cases e:p.1=k
  .simp only[zp e,cu e,Bool.true_or,Option.isSome_some]
  .rw[zx e,cS e,Bool.false_or];exact CP k r
def xD(kvs:V0 (κ×V))(k:κ)(v:V):(vY kvs k v).length<=kvs.length+1:=by
 unfold vY;split
 .rw[bP];lia
 .rw[bS,b8,cA];lia
def uj.lU{o:Option V}{u:Option Vl}(r:uj o u):o.isSome=u.isSome:=by
 cases o with
 | none=>cases u with
  | none=>rfl
  | some _=>exact(show False from r).elim
 | some _=>cases u with
  | none=>exact(show False from r).elim
  | some _=>rfl
def uj.getD{o:Option V}{u:Option Vl}{d:V}{d':Vl}(r:uj o u)(rd:nW d d'):nW (o.getD d) (u.getD d'):=by
 cases o with
 | none=>cases u with
  | none=>exact rd
  | some _=>exact(show False from r).elim
 | some _=>cases u with
  | none=>exact(show False from r).elim
  | some _=>exact r
def KV.val{kvs:V0 (κ×V)}{vs:V0 (κ×Vl)}(r:KV kvs vs)(k:κ):uj (uk kvs k) (valueAt vs k):=by
 unfold KV at r;induction r with
 | nil=>exact True.intro
 | @cons p q ps qs h t ih=>
  obtain⟨h1,h2⟩:=h;by_cases e:p.1=k
  .have e':q.1=k:=h1.symm.trans e;have b:valueAt (q::qs) k=some q.2:=by simp[valueAt,fO,e']
   rw[zp e,b];exact h2
  .have e':¬q.1=k:=λz=>e (h1.trans z);have b:valueAt (q::qs) k=valueAt qs k:=by simp[valueAt,fO,e']
   rw[zx e,b];exact ih
def KV.any{kvs:V0 (κ×V)}{vs:V0 (κ×Vl)}(r:KV kvs vs)(k:κ):(kvs.any λkv=>decide (kv.1=k))=vs.any λkv=>decide (kv.1=k):=by
 unfold KV at r;induction r with
 | nil=>rfl
 | cons h t ih=>rw[eI,eI,ih,h.1]
def KV.ma{kvs:V0 (κ×V)}{vs:V0 (κ×Vl)}(r:KV kvs vs)(k:κ){y:V}{u:Vl}(ry:nW y u):
  KV (kvs.map λkv=>if kv.1=k then(kv.1,y)else kv) (vs.map λkv=>if kv.1=k then(kv.1,u)else kv):=by
 unfold KV at r ⊢;induction r with
 | nil=>exact .nil
 | @cons p q ps qs h t ih=>
  rw[cY,cY];refine .cons ?_ ih;obtain⟨h1,h2⟩:=h;by_cases e:p.1=k
  .rw[b9 e,b9 (h1.symm.trans e)];exact⟨h1,ry⟩
  .rw[bV e,bV (λz=>e (h1.trans z))];exact⟨h1,h2⟩
def KV.put{kvs:V0 (κ×V)}{vs:V0 (κ×Vl)}(r:KV kvs vs)(k:κ){y:V}{u:Vl}(ry:nW y u):KV (vY kvs k y) (stored vs k u):=by
 unfold vY stored;rw[r.any k];by_cases e:(vs.any λkv=>decide (kv.1=k))=true
 .rw[b9 e,b9 e];exact r.ma k ry
 .rw[bV e,bV e];exact kQ r ⟨rfl,ry⟩
def KV.length{kvs:V0 (κ×V)}{vs:V0 (κ×Vl)}(r:KV kvs vs):kvs.length=vs.length:=ik r
end
def B'{P:Pg}{w:Wo}{k:oK}{u:Vl}(r:nW (kV k) u):(oG P w).is k u=true:=by
 cases k with
 | inl i=>obtain⟨t,e⟩:=(show ∃t,u=Value.int i t from r);subst e;exact Ck P w i t
 | inr x=>obtain⟨t,e⟩:=(show ∃t,u=Value.str x t from r);subst e;exact xM P w x t
theorem AE{P:Pg}{w:Wo}:∀{ks:List oK} {us:V0 Vl},nI (ks.map kV) us->ItemsAre (oG P w) ks us
 | [],_,r=>by rw[gW]at r;cases r;exact .nil
 | k::ks,_,r=>by
  rw[cY]at r;cases r with
  | cons h t=>exact .cons (B' h) (AE t)
abbrev KT(H:Hp):V0 (List oK×V)->V0 (List oK×Addr×Vl)->Prop:=Paired λp q=>p.1=q.1/\H q.2.1=some (.tup (p.1.map kV))/\nW p.2 q.2.2
def KT.val{H:Hp}{kvs:V0 (List oK×V)}{xs:V0 (List oK×Addr×Vl)}(r:KT H kvs xs)(k:List oK):uj (uk kvs k) ((atKey xs k).map (·.2)):=by
 induction r with
 | nil=>exact True.intro
 | @cons p q ps qs h t ih=>
  obtain⟨h1,_,h2⟩:=h;by_cases e:p.1=k
  .have e':q.1=k:=h1.symm.trans e;have b:atKey (q::qs) k=some q.2:=by simp[atKey,fO,e']
   rw[zp e,b];exact h2
  .have e':¬q.1=k:=λz=>e (h1.trans z);have b:atKey (q::qs) k=atKey qs k:=by simp[atKey,fO,e']
   rw[zx e,b];exact ih
def KT.ma{H:Hp}{kvs:V0 (List oK×V)}{xs:V0 (List oK×Addr×Vl)}(r:KT H kvs xs)(k:List oK){y:V}{u:Vl}(ry:nW y u):
  KT H (kvs.map λkv=>if kv.1=k then(kv.1,y)else kv) (xs.map (putAt k u)):=by
 induction r with
 | nil=>exact .nil
 | @cons p q ps qs h t ih=>
  rw[cY,cY];refine .cons ?_ ih;obtain⟨h1,h2,h3⟩:=h;unfold putAt;by_cases e:p.1=k
  .rw[b9 e,b9 (h1.symm.trans e)];exact⟨h1,h2,ry⟩
  .rw[bV e,bV (λz=>e (h1.trans z))];exact⟨h1,h2,h3⟩
def KT.put{H:Hp}{kvs:V0 (List oK×V)}{xs:V0 (List oK×Addr×Vl)}(r:KT H kvs xs)(k:List oK){b:Addr}{y:V}{u:Vl}(hb:H b=some (.tup (k.map kV)))(ry:nW y u):
  KT H (vY kvs k y) (storedH xs k b u):=by
 have e:(kvs.any λkv=>decide (kv.1=k))=(atKey xs k).isSome:=by rw[CP,(r.val k).lU,Option.isSome_map]
 unfold vY storedH;rw[e];by_cases q:(atKey xs k).isSome=true
 .rw[b9 q,b9 q];exact r.ma k ry
 .rw[bV q,bV q];exact kQ r ⟨rfl,hb,ry⟩
def KT.keeps{H H':Hp}{kvs:V0 (List oK×V)}{xs:V0 (List oK×Addr×Vl)}(r:KT H kvs xs)(ht:∀b ys,H b=some (.tup ys)->H' b=some (.tup ys)):KT H' kvs xs:=
 Paired.mf r λ_ _ z=>⟨z.1,ht _ _ z.2.1,z.2.2⟩
variable {H:Hp}{h:Heap}{a:Addr}
section
variable {w:Wo}
def LR{u:HO}(ok:uz P w H h)(e:Rd H a u):pj P w H h a u:=e.ok ok
def CH{kvs:V0 (oK×V)}(ok:uz P w H h)(e:Rd H a (.dK kvs)):kvs.length<=sizeLine/\(a==sysModules)=false/\∃vs,KV kvs vs/\h.DictOf (oG P w) a vs:=
 show pj P w H h a (.dK kvs)from LR ok e
def PJ{kvs:V0 (oK×V)}(ok:uz P w H h)(e:H a=some (.dK kvs)):kvs.length<=sizeLine/\(a==sysModules)=false/\∃vs,KV kvs vs/\h.DictOf (oG P w) a vs:=CH ok (.inl e)
def Bu{ks:List oK}(ok:uz P w H h)(e:H a=some (.tup (ks.map kV))):(tupleKind (oG P w)).is h ks a:=by obtain⟨_,its,r,o,h1,h2,⟨n,h3⟩,_⟩:=(show pj P w H h a (.tup (ks.map kV))from ok a _ e);exact⟨o,its.toArray,n,h1,h2,h3,by simpa using AE r⟩
def C1{kvs:V0 (List oK×V)}(ok:uz P w H h)(e:Rd H a (.dT kvs)):kvs.length<=sizeLine/\(a==sysModules)=false/\
  ∃xs,KT H kvs xs/\h.DictOfH (tupleKind (oG P w)) a xs:=by
 obtain⟨z,y,xs,r,o,es,ep,h1,h2,h3,h4,h5⟩:=(show pj P w H h a (.dT kvs)from LR ok e);refine⟨z,y,xs,r,o,es,ep,h1,h2,h3,h4,λx hx=>?_,h5⟩;have all:∀{l:V0 (List oK×V)} {m:V0 (List oK×Addr×Vl)},KT H l m->∀x∈m,(tupleKind (oG P w)).is h x.1 x.2.1:=by
  intro l m q;induction q with
  | nil=>intro x hx;exact nomatch hx
  | @cons p q ps qs hq t ih=>
   intro x hx;rcases bT.mp hx with e|hx
   .subst e;exact Bu ok (by rw[<-hq.1];exact hq.2.1)
   .exact ih x hx
 exact all r x hx
def OI{kvs:V0 (List oK×V)}(ok:uz P w H h)(e:H a=some (.dT kvs)):kvs.length<=sizeLine/\(a==sysModules)=false/\
  ∃xs,KT H kvs xs/\h.DictOfH (tupleKind (oG P w)) a xs:=C1 ok (.inl e)
end
def BA(H:Hp)(a:Addr)(y:V)(r:Option V):Prop:=
 (∃kvs k,Rd H a (.dK kvs)/\y=kV k/\r=uk kvs k)\/∃kvs k b,Rd H a (.dT kvs)/\y=.ref b/\H b=some (.tup (k.map kV))/\r=uk kvs k
def GB(H:Hp)(a:Addr)(y v:V)(H':Hp):Prop:=
 (∃kvs k,H a=some (.dK kvs)/\y=kV k/\kvs.length<sizeLine/\H'=upd H a (.dK (vY kvs k v)))\/
 ∃kvs k b,H a=some (.dT kvs)/\y=.ref b/\H b=some (.tup (k.map kV))/\kvs.length<sizeLine/\H'=upd H a (.dT (vY kvs k v))
def BA.k{H:Hp}{a:Addr}{kvs:V0 (oK×V)}{k:oK}(e:H a=some (.dK kvs)):BA H a (kV k) (uk kvs k):=.inl ⟨kvs,k,.inl e,rfl,rfl⟩
def GB.k{H:Hp}{a:Addr}{kvs:V0 (oK×V)}{k:oK}{v:V}(e:H a=some (.dK kvs))(hl:kvs.length<sizeLine):GB H a (kV k) v (upd H a (.dK (vY kvs k v))):=.inl ⟨kvs,k,e,rfl,hl,rfl⟩
variable {RP:V0 (Addr × Obj)}{Y:St}{y v:V}{u r:Vl}
section
variable {s:Sd}{o:Option V}{A:Ar}{E:QQX}
def Inv.big(I:Inv X RP Y H s):sysModules<s.heap.objs.size:=by have h:mainGlobals<s.heap.objs.size:=(I.mod.glob.keeps I.bk).lt;exact iJ (by decide) h
def Fx{Q:QQX}(hu:A.units+1<cLine)(I:Inv X RP Y H s)(g:BA H a y (some v))(ry:nW y u)(h:∀w' s',Inv X RP Y H s'->nW v w'->Q w' s'):
  wpAny (model X.prog X.w) A (getItem (.ref a) u) Q E s:=by
 rcases g with⟨kvs,k,e,ey,l⟩|⟨kvs,k,b,e,ey,eb,l⟩
 .subst ey;obtain⟨z,hd,vs,Td,dd⟩:=CH I.lb e;obtain⟨w',hw,TN⟩:=uj.some_of (v:=v) (o:=valueAt vs k) (by rw[l];exact Td.val k);exact wpAny_getItem_of (B' ry) dd.mapOf hw (h w' _ (I.tok _) TN)
 .subst ey;cases(show u=Value.ref b from ry);obtain⟨z,hd,xs,Td,dd⟩:=C1 I.lb e;obtain⟨w',hw,TN⟩:=uj.some_of (v:=v) (o:=(atKey xs k).map (·.2)) (by rw[l];exact Td.val k);obtain⟨p,hp,SL⟩:=Option.map_eq_some_iff.mp hw;refine wpAny_getItem_heap (ic hu) (Bu I.lb eb) dd hp ?_;rw[SL];exact h w' _ (I.tok _) TN
def E6{h':Heap}{t':Nat}{ob:HO}(I:Inv X RP Y H s)(mu:O4 (H a))(hs:Heap.SameBut a s.heap h')(he:∃q,h'.get? a=some q)(new:pj X.prog X.w (upd H a ob) h' a ob):
  Inv X RP Y (upd H a ob) {s with heap:=h',toks:=t'}:=
 I.write (x:=a) (e:=a) mu (.inl rfl) (λb q hb z=>(hs.2 b hb).trans z) he new
def zE{P:Pg}{w:Wo}{H':Hp}{h':Heap}{kvs:V0 (oK×V)}{vs:V0 (oK×Vl)}(z:kvs.length<=sizeLine)(hd:(a==sysModules)=false)(Td:KV kvs vs)(dd:h'.DictOf (oG P w) a vs):
  pj P w H' h' a (.dK kvs):=⟨z,hd,vs,Td,dd⟩
def Fw{H':Hp}{Q:Unit->Sd->Prop}(hu:A.units+1<cLine)(I:Inv X RP Y H s)(g:GB H a y v H')(ry:nW y u)(rv:nW v r)(h:∀s',Inv X RP Y H' s'->Q () s'):
  wpAny (model X.prog X.w) A (setItem (.ref a) u r) Q E s:=by
 rcases g with⟨kvs,k,e,ey,l,eH⟩|⟨kvs,k,b,e,ey,eb,l,eH⟩
 .subst ey eH;obtain⟨z,hd,vs,Td,dd⟩:=PJ I.lb e;have hz:vs.length<=sizeLine:=by rw[<-Td.length];exact z
  have hl:(vY kvs k v).length<=sizeLine:=by have:=xD kvs k v;lia
  refine wpAny_setItem_pairs (hsz:=hz) (B' ry) dd λh' dd' hs=>h _ ?_;have he:∃q,h'.get? a=some q:=let⟨q,_,_,hq,_⟩:=dd';⟨q,hq⟩;exact E6 I (by rw[e];exact True.intro) hs he (zE hl hd (Td.put k rv) dd')
 .subst ey eH;cases(show u=Value.ref b from ry);obtain⟨z,hd,xs,Td,dd⟩:=OI I.lb e;have hz:xs.length<=sizeLine:=by rw[<-ik Td];exact z
  have hl:(vY kvs k v).length<=sizeLine:=by have:=xD kvs k v;lia
  refine wpAny_setItem_heap (hsz:=hz) (ic hu) (Bu I.lb eb) dd λh' dd' hs=>h _ ?_;obtain⟨q,es,ep,hq,h2,h3,h4,_,h5⟩:=dd';refine E6 I (by rw[e];exact True.intro) hs ⟨q,hq⟩ ⟨hl,hd,_,(Td.put k eb rv).keeps λc ys ec=>?_,q,es,ep,hq,h2,h3,h4,h5⟩;rw[ni (Px ec e (λz=>nomatch z))];exact ec
end
variable {kvs:V0 (oK × V)}{k:oK}
section
variable {s:Sd}{A:Ar}{E:QQX}
end
def Cw{X:Cx}{RP:QQY}{Y:St}{H:Hp}{s:Sd}{a:Addr}{y:V}{o:Option V}(I:Inv X RP Y H s)(g:BA H a y o):s.TypeIs (.ref a) "dict":=by
 rcases g with⟨kvs,k,e,_,_⟩|⟨kvs,k,b,e,_,_,_⟩
 .obtain⟨_,_,vs,_,dd⟩:=CH I.lb e;exact dd.typeIs
 .obtain⟨_,_,xs,_,dd⟩:=C1 I.lb e;exact dd.typeIs
def PQ(td ty tv:TE):TS:=λD Y H=>tv Y H λv H1=>td Y H1 λx H2=>ty Y H2 λy H3=>∃a H4,x=.ref a/\GB H3 a y v H4/\D.nx Y H4
variable {i e value:Expr}{pos R1 tpos:Pos}{td ty tv:TE}
section
variable {o:Expr}
def Ld(hu:X.A.units+1<cLine)(ho:PE X o td)(hi:PE X i ty)(hv:PE X value tv)(hs:swapsWith value (some (.Subscript o i R1)) pos.line X.env=pure false):
  PS X (.Assign [.Subscript o i R1] value pos) (PQ td ty tv):=by
 intro RP s Y H D I h;refine wpAny_Assign_Subscript (pC (hv RP s Y H _ I h) λr s1 zz=>x5 zz λv H1 I1 rv q1=>pC (ho RP s1 Y H1 _ I1 q1) λu s2 zz=>x5 zz λx H2 I2 rx q2=>pC (hi RP s2 Y H2 _ I2 q2) λiv s3 zz=>?_) hs;obtain⟨y,H3,I3,ry,a,H4,ex,g,q3⟩:=zz;subst ex;obtain rfl:u=Value.ref a:=rx;exact Fw hu I3 g ry rv λs4 I4=>⟨Y,H4,I4,q3⟩
end
def IZ{P:Pg}{w:Wo}{H:Hp}(h:Heap)(hb:sysModules<h.objs.size):pj P w H (h.push {cls:=.type "dict",data:=.dict #[]}) h.objs.size (.dK []):=
 ⟨dY _,dN.mpr (cH (cI hb)),[],.nil,kB h⟩
def Nn:TE:=λ_ H Q=>∀p,H p=none->Q (.ref p) (upd H p (.dK []))
def ID:PE X (.Dict [] [] pos) Nn:=λRP s Y H Q I h=>wpAny_Dict_empty ⟨.ref s.heap.objs.size,_,I.laid (a:=s.heap.objs.size) (o:=.dK []) (t':=s.toks) (λ_ _ q=>bX _ q) (cq _) (IZ s.heap I.big),rfl,h _ (I.lb.fresh (cq _))⟩
structure M1(X:Cx)(o:Expr)(m:Str)(RT:Pos)(e:Expr)(RX:Pos):Prop where
 base:attributeBase o m X.env (eval o X.env)=eval o X.env
 lP:((backTo RX (starEach [e] X.env)).all (λx=>!x.1)&&(backToKw RX (keywordEach [] X.env)).all (λx=>x.1.isSome)
  &&decide (([e]:List Expr).length+([]:List Keyword).length+(if ([]:List Keyword).isEmpty then 0 else 1)<30))=true
 line:(RT.endLine==RX.line)=true
 trees:backTo RX (starEach [e] X.env)=[(false,eval e X.env)]
structure M2(X:Cx)(o:Expr)(m:Str)(RT:Pos)(e f:Expr)(RX:Pos):Prop where
 base:attributeBase o m X.env (eval o X.env)=eval o X.env
 lP:((backTo RX (starEach [e,f] X.env)).all (λx=>!x.1)&&(backToKw RX (keywordEach [] X.env)).all (λx=>x.1.isSome)
  &&decide (([e,f]:List Expr).length+([]:List Keyword).length+(if ([]:List Keyword).isEmpty then 0 else 1)<30))=true
 line:(RT.endLine==RX.line)=true
 trees:backTo RX (starEach [e,f] X.env)=[(false,eval e X.env),(false,eval f X.env)]
def Rr(H:Hp)(a:Addr):Prop:=(∃kvs,Rd H a (.dK kvs))\/∃kvs,Rd H a (.dT kvs)
def NY{X:Cx}{RP:QQY}{Y:St}{H:Hp}{s:Sd}{a:Addr}(I:Inv X RP Y H s)(d:Rr H a):
  s.TypeIs (.ref a) "dict"/\(∀b,Value.ref a=.ref b->∃ob,s.heap.get? b=some ob/\ob.dict=none)/\(a==sysModules)=false:=by
 rcases d with⟨kvs,e⟩|⟨kvs,e⟩
 .obtain⟨_,hd,vs,_,dd⟩:=CH I.lb e;refine⟨dd.typeIs,λb q=>?_,hd⟩;cases q;obtain⟨ob,_,_,h1,h2,_⟩:=dd;exact⟨ob,h1,h2.2.1⟩
 .obtain⟨_,hd,xs,_,dd⟩:=C1 I.lb e;refine⟨dd.typeIs,λb q=>?_,hd⟩;cases q;obtain⟨ob,_,_,h1,h2,_⟩:=dd;exact⟨ob,h1,h2.2.1⟩
variable {d:V}
section
variable {s:Sd}{o:Option V}{A:Ar}{E:QQX}
def NP{Q:QQX}(hu:A.units+1<cLine)(I:Inv X RP Y H s)(g:BA H a y o)(ry:nW y u)(rd:nW d r)(h:∀w' s',Inv X RP Y H s'->nW (o.getD d) w'->Q w' s'):
  wpAny (model X.prog X.w) A (call (.builtin "dict.get") [.ref a,u,r]) Q E s:=by
 rcases g with⟨kvs,k,e,ey,l⟩|⟨kvs,k,b,e,ey,eb,l⟩
 .subst ey;obtain⟨z,hd,vs,Td,dd⟩:=CH I.lb e;refine call_meetsIn gP dd.typeIs ja (iU _ _ _) (meets_dict_get_default (oG X.prog X.w) a (B' ry) hd r) ⟨_,dd.mapOf,h _ _ (I.tok _) ?_⟩;rw[l];exact(Td.val k).getD rd
 .subst ey;cases(show u=Value.ref b from ry);obtain⟨z,hd,xs,Td,dd⟩:=C1 I.lb e;refine call_meetsIn gP dd.typeIs ja (iU _ _ _) (meetsH_dict_get_default (tupleKind (oG X.prog X.w)) a b hd r) ⟨ic hu,k,xs,Bu I.lb eb,dd,h _ _ (I.tok _) ?_⟩;rw[l];exact(Td.val k).getD rd
end
def NT(td ty tx:TE):TE:=λY H Q=>td Y H λx H1=>∃a,x=.ref a/\Rr H1 a/\ty Y H1 λy H2=>tx Y H2 λz H3=>∃o,BA H3 a y o/\Q (o.getD z) H3
variable {f:Expr}{RT RX:Pos}{tx:TE}
section
variable {o:Expr}
def HZ(hu:X.A.units+1<cLine)(ho:PE X o td)(he:PE X e ty)(hf:PE X f tx)(m:M2 X o "get" RT e f RX):PE X (.Call (.Attribute o "get" RT) [e,f] [] RX) (NT td ty tx):=by
 intro RP s Y H Q I h;refine wpAny_Call_method m.base m.lP m.line PySem.F.plainAttrs_dict gP PySem.F.type_dict_get (pC (ho RP s Y H _ I h) λu s1 zz=>?_);obtain⟨x,H1,I1,rx,a,ex,d,q1⟩:=zz;subst ex;obtain rfl:u=Value.ref a:=rx;obtain⟨t1,t2,_⟩:=NY I1 d;refine⟨t1,t2,?_⟩;rw[m.trees];refine e8 rfl (fB (d9 (pC (he RP s1 Y H1 _ I1 q1) λiv s2 zz=>x5 zz λy H2 I2 ry q2=>
  d9 (pC (hf RP s2 Y H2 _ I2 q2) λfv s3 ⟨z,H3,I3,rz,ov,g,q3⟩=>ft ?_))))
 exact NP hu I3 g ry rz λw' s4 I4 TN=>⟨_,H3,I4,TN,q3⟩
end
section
variable {s:Sd}{A:Ar}{E:QQX}
end
section
variable {s:Sd}{A:Ar}{E:QQX}
end
section
variable {κ:Type}[DecidableEq κ]
end
noncomputable def xi(env:Env):V0 (Str×NameKind)->V0 (Str×Addr)->V0 (Str×Addr)
 | [],acc=>acc
 | (n,k)::r,acc=>xi env r (if k==.free then(n,(env.cells.lookup n).getD 0)::acc else acc)
theorem Cm{env:Env}{f:(Str×NameKind)->V0 (Str×Addr)->Sem (ForInStep (V0 (Str×Addr)))} (hf:∀x cs,(x.2=.free->∃c,env.cells.lookup x.1=some c)->f x cs=pure (.yield (if x.2==.free then(x.1,(env.cells.lookup x.1).getD 0)::cs else cs))):
  ∀(l:V0 (Str×NameKind)) (acc:V0 (Str×Addr)),(∀x∈l,x.2=.free->∃c,env.cells.lookup x.1=some c)->forIn l acc f=pure (xi env l acc)
 | [],acc,_=>by rw[jd];rfl
 | (n,k)::r,acc,h=>by rw[iW,hf (n,k) acc (h _ ck),pure_bind];exact Cm hf r _ λx hx=>h x (ci _ hx)
def sX{scope:Scope}{env:Env}(h:∀x∈scope.names,x.2=.free->∃c,env.cells.lookup x.1=some c):closureFor scope env=pure (xi env scope.names []):=by
 unfold closureFor;have e:=Cm (env:=env) (f:=λ(x:Str×NameKind) (cs:V0 (Str×Addr))=>(do
   if x.2==.free then
    let a<-cellOf env x.1
    pure (ForInStep.yield ((x.1,a)::cs))
   else pure (ForInStep.yield cs))) (λx cs hx=>by
  cases hk:x.2==NameKind.free with
  | false=>simp
  | true=>
   obtain⟨c,hc⟩:=hx (by simpa using hk);simp[cellOf,hc]) scope.names [] h
 first
  | exact(dJ (·>>=pure) e).trans (by simp)
  | (simp only[bind_pure];exact e)
  | (rw[<-e];rfl)
theorem Jh{env:Env}{x:Str}{c:Addr}:∀{l:V0 (Str×NameKind)} {acc:V0 (Str×Addr)},(∀x∈l,x.2=.free->∃c,env.cells.lookup x.1=some c)->(∀x c,acc.lookup x=some c->env.cells.lookup x=some c)->(xi env l acc).lookup x=some c->env.cells.lookup x=some c
 | [],acc,_,ha,h=>ha x c h
 | (n,k)::r,acc,hl,ha,h=>by
  refine Jh (l:=r) (acc:=if k==.free then(n,(env.cells.lookup n).getD 0)::acc else acc) (λy hy=>hl y (ci _ hy)) (λy d hd=>?_) h;cases hk:k==NameKind.free with
  | false=>rw[hk]at hd;exact ha y d (by simpa using hd)
  | true=>
   rw[hk,b9 rfl]at hd;obtain⟨e,he⟩:=hl (n,k) ck (by simpa using hk);rw[dg]at hd;cases hy:y==n with
   | true=>
    rw[hy]at hd;have yn:y=n:=by simpa using hy
    subst yn;have he:env.cells.lookup y=some e:=he;rw[he]at hd ⊢;exact hd
   | false=>rw[hy]at hd;exact ha y d hd
theorem IK{env:Env}{x:Str}:∀{l:V0 (Str×NameKind)} {acc:V0 (Str×Addr)},(∃c,acc.lookup x=some c)->∃c,(xi env l acc).lookup x=some c
 | [],_,h=>h
 | (n,k)::r,acc,h=>by
  refine IK (l:=r) ?_;cases hk:k==NameKind.free with
  | false=>simpa using h
  | true=>
   rw[b9 rfl,dg];cases hy:x==n with
   | true=>exact⟨_,rfl⟩
   | false=>exact h
theorem DU{env:Env}{x:Str}:∀{l:V0 (Str×NameKind)} {acc:V0 (Str×Addr)},l.lookup x=some .free->∃c,(xi env l acc).lookup x=some c
 | [],_,h=>by simp at h
 | (n,k)::r,acc,h=>by
  rw[dg]at h;cases hy:x==n with
  | true=>rw[hy]at h;have hk:k=.free:=ce h;subst hk;refine IK (l:=r) ⟨(env.cells.lookup n).getD 0,?_⟩;show List.lookup x (if NameKind.free==NameKind.free then(n,(env.cells.lookup n).getD 0)::acc else acc)=some ((env.cells.lookup n).getD 0);rw[b9 (by rfl),dg,hy]
  | false=>rw[hy]at h;exact DU (l:=r) h
theorem qQ{env:Env}{x:Str}:∀{l:V0 (Str×NameKind)},(l.map λ(n,k)=>if (k==NameKind.free&&env.scope.kind==.function&&env.kindOf n==some .cell)then(n,NameKind.cell)else(n,k)).lookup x
   = (l.lookup x).map λk=>if (k==NameKind.free&&env.scope.kind==.function&&env.kindOf x==some .cell)then NameKind.cell else k
 | []=>rfl
 | (n,k)::r=>by
  rw[cY];show List.lookup x ((if (k==NameKind.free&&env.scope.kind==.function&&env.kindOf n==some .cell)=true then(n,NameKind.cell)else(n,k))::_)=_;cases hy:x==n with
  | true=>
   have yn:x=n:=by simpa using hy
   subst yn;by_cases hc:(k==NameKind.free&&env.scope.kind==.function&&env.kindOf x==some .cell)=true
   .rw[b9 hc,dg,dg,hy];simp only[iX];rw[b9 hc]
   .rw[bV hc,dg,dg,hy];simp only[iX];rw[bV hc]
  | false=>
   by_cases hc:(k==NameKind.free&&env.scope.kind==.function&&env.kindOf n==some .cell)=true
   .rw[b9 hc,dg,dg,hy];exact qQ
   .rw[bV hc,dg,dg,hy];exact qQ
noncomputable def Kb(ix:V0 (Option Nat))(Y:St):St:=ix.map λo=>o.bind λi=>(Y[i]?).join
abbrev Cx.comp(X:Cx)(scope:Scope)(N':QQQ)(C:Addr)(s0:Sd)(H0:Hp)(ex:QXQ):Cx:=
 {X with N:=N',s₀:=s0,H₀:=H0,env:=compEnvC scope (xi X.env scope.names []) C X.env,outer:=X.stack,ex:=ex,fn:=λ_=>false,pn:=[],xe:=λ_ _=>False}
structure oQ(X:Cx)(scope:Scope)(ix:List (Option Nat))(N':QQQ):Prop where
 kind:scope.kind=.function
 me:∀y∈scope.names,y.2≠.cell
 nam:∀y∈scope.names,y.2=.local->scope.names.lookup y.1=some .local
 fre:∀y∈scope.names,y.2=.free->X.env.scope.names.lookup y.1=some .cell\/X.env.scope.names.lookup y.1=some .free
 len:ix.length=N'.length
 at_:∀(j i:Nat) (x:Str),ix[j]?=some (some i)->N'[j]?=some x->X.N[i]?=some x/\scope.names.lookup x=some .free
variable {scope:Scope}{ix:V0 (Option Nat)}{N':QQQ}{fp:QXQ}
section
variable {s:Sd}
def oQ.cells(S:oQ X scope ix N')(ok:X.Ok):∀x∈scope.names,x.2=.free->∃c,X.env.cells.lookup x.1=some c:=λx hx hk=>ok.has x.1 (S.fre x hx hk)
def oQ.sub(S:oQ X scope ix N')(ok:X.Ok){x:Str}{c:Addr}(h:(xi X.env scope.names []).lookup x=some c):X.env.cells.lookup x=some c:=Jh (S.cells ok) (λ_ _ z=>by simp at z) h
theorem r9{x:Str}{k:NameKind}:∀{l:V0 (Str×NameKind)},l.lookup x=some k->(x,k)∈l
 | [],h=>by simp at h
 | (n,j)::r,h=>by
  rw[dg]at h;cases hy:x==n with
  | true=>
   rw[hy]at h;have yn:x=n:=by simpa using hy
   subst yn;rw[ce h];exact ck
  | false=>rw[hy]at h;exact ci _ (r9 h)
def Inv.comp{C:Addr}{h1:Heap}{tk:Nat}(I:Inv X RP Y H s)(S:oQ X scope ix N')(hf:∀b∈fp,wm X RP H b)(Sf:∀b∈fp,b<s.heap.objs.size)(hC:s.heap.objs.size<=C) (k:∀b o,s.heap.get? b=some o->h1.get? b=some o) (hn:h1.Ns C (λ_=>none)):Inv (X.comp scope N' C s H fp) (X.pn++RP) (Kb ix Y) H {s with heap:=h1,toks:=tk}:=by
 have sub:∀{x:Str} {c:Addr},(xi X.env scope.names []).lookup x=some c->X.env.cells.lookup x=some c:=λh=>S.sub I.ok h;refine⟨⟨I.ok.mod,S.kind,I.ok.glob,I.ok.blt,hC,λx y c e1 e2=>I.ok.inj x y c (sub e1) (sub e2),λx hx=>?_,λ_ _ z=>(cg z).elim,I.ok.hd,I.ok.frames,.inl rfl,λb hb=>⟨cI (cF (Sf b hb) hC),λx c e=>(hf b hb).2.2.2.2.1 x c (sub e)⟩,I.bs,di I.ok.lV I.sz,λb o e hb=>?_,λb hb hfs=>?_,I.stack,I.lz⟩,rfl,I.bare,Un.kept k,⟨_,hn,λi x v e1 e2 e3=>?_⟩,λx c e=>?_,I.lb.fresh hC,λx c e=>I.lh x c (sub e),λp hp=>?_,I.lb.kept k,?_⟩
 .have hx:(relabel scope X.env).names.lookup x=some .cell\/(relabel scope X.env).names.lookup x=some .free:=hx;have e:(relabel scope X.env).names.lookup x=(scope.names.lookup x).map λk=>if (k==NameKind.free&&X.env.scope.kind==.function&&X.env.kindOf x==some .cell)then NameKind.cell else k:=qQ
  rw[e]at hx;cases q:scope.names.lookup x with
  | none=>rw[q]at hx;rcases hx with hx|hx<;>simp at hx
  | some kd=>
   cases kd with
   | free=>exact DU q
   | cell=>exact absurd rfl (S.me _ (r9 q))
   | _=>rw[q]at hx;rcases hx with hx|hx<;>simp at hx
 .rcases(hf b hb).2.2.2.1 with z|z
  .exact I.ok.lM b o e z
  .exact absurd (cF (cp e) (di I.ok.lV z)) (dv _)
 .rcases bT.mp (I.lB b hfs)with z|z
  .exact(hf b hb).2.1 z
  .exact(hf b hb).2.2.1 z
 .have S7:(ix[i]?).map (λo=>o.bind λi=>(Y[i]?).join)=some (some v):=by have z:(Kb ix Y)[i]?=some (some v):=e2;unfold Kb at z;rw[cD]at z;exact z
  cases q:ix[i]? with
  | none=>rw[q]at S7;cases S7
  | some o=>
   rw[q]at S7;cases o with
   | none=>cases S7
   | some j=>
    have Ul:(Y[j]?).join=some v:=ce S7;have e4:Y[j]?=some (some v):=by
     cases r:Y[j]? with
     | none=>rw[r]at Ul;cases Ul
     | some w=>rw[r]at Ul;exact dJ some Ul
    obtain⟨n1,n2⟩:=S.at_ i j x q e1;obtain⟨m,hm,hl⟩:=I.loc;have hk:=S.fre _ (r9 n2) rfl;have hv:L4 X.env.scope x:=by
     rcases hk with z|z
     .exact .inr (.inl z)
     .exact .inr (.inr z)
    obtain⟨u,ru,lk⟩:=hl j x v n1 e4 hv;refine⟨u,ru,?_⟩;have Um:X.env.kindOf x=some .cell\/X.env.kindOf x=some .free:=hk;rcases lk with⟨z,_⟩|⟨_,c,hc,hcell⟩
    .rcases Um with y|y<;>(rw[y]at z;cases z)
    .obtain⟨c',hc'⟩:=DU (env:=X.env) (acc:=[]) n2;have:=sub hc';rw[hc]at this;cases this;refine .inr ⟨?_,c,hc',hcell.keeps k⟩;show(relabel scope X.env).names.lookup x=some .cell\/(relabel scope X.env).names.lookup x=some .free;have e:(relabel scope X.env).names.lookup x=(scope.names.lookup x).map λk=>if (k==NameKind.free&&X.env.scope.kind==.function&&X.env.kindOf x==some .cell)then NameKind.cell else k:=qQ
     rw[e,n2];simp only[iX];split
     .exact .inl rfl
     .exact .inr rfl
 .obtain⟨v,q⟩:=I.cell x c (sub e);exact⟨v,q.keeps k⟩
 .obtain⟨e,n,ne,nf,d⟩:=I.pin p (by simpa using hp);refine⟨k _ _ e,n,cI (cF (cp e) hC),λz=>?_,d⟩;rcases bT.mp (I.lB p.1 z)with y|y
  .exact ne y
  .exact nf y
 .show(Kb ix Y).length=N'.length;unfold Kb;rw[bP];exact S.len
end
section
variable {prog:Pg}{w:Wo}{A:Ar}{R:Result→Sd→Prop}{s:Sd}
def uT{Sj Sr iter:Expr}{Sk:V0 Expr}{scope:Scope}{pos:Pos}{it acc:Vl}{env:Env}(I:Nat->Sd->Prop){EX:QQX}(hEX:∀e s',EX e s'->notedBy (model prog w) A env (λx s'=>R (.error x) s') e s') (SU:∀n s,I n s->wpAny (model prog w) A (pyNext it) (λr s₁=>match r with
   | none=>R (.ok .next) s₁
   | some v=>wpAny (model prog w) A (letOwnedTupleGo Sr it v) (λ_ s₁=>wpAny (model prog w) A (assign Sr env v) (λ_ s₂=>
     wpAny (model prog w) A (forIn Sk true λc r=>if r=true then do let ok<-isTrue c env (eval c env);pure (ForInStep.yield ok)else pure (ForInStep.yield r)) (λok s₃=>
      if ok=true then wpAny (model prog w) A (eval Sj env) (λx s₄=>
       wpAny (model prog w) A (call (.builtin "list.append") [acc,x]) (λ_ s₅=>∃m,m<n/\I m s₅) (λ_ _=>False) s₄) EX s₃
      else ∃m,m<n/\I m s₃) (λ_ _=>False) s₂) (λ_ _=>False) s₁) (λ_ _=>False) s₁) (λ_ _=>False) s)
  (n:Nat) (h:I n s):
  codeAny (model prog w) A (.compLoop (.ListComp Sj [⟨Sr,iter,Sk,0⟩] scope pos) 0 it acc env) R s:=by
 refine codeAny_loop rfl I (λn s hI=>?_) n h;show wpAny _ A ((compTurn (.ListComp Sj [⟨Sr,iter,Sk,0⟩] scope pos) 0 it acc env).onRaise (λx=>do noteFrame x env;theTreesLotGoes x)) _ _ s;refine wpAny_noted ?_;rw[compTurn_list];refine bQ (io (bQ (de (SU n s hI) (λr s₁ h₁=>?_) λ_ _ h'=>h'.elim)));cases r with
 | none=>exact cf h₁
 | some v=>
  refine bQ (de h₁ (λ_ s₁' h₁'=>?_) λ_ _ h'=>h'.elim);refine bQ (de h₁' (λ_ s₂ h₂=>bQ (de h₂ (λok s₃ h₃=>?_) λ_ _ h'=>h'.elim)) λ_ _ h'=>h'.elim);cases ok with
  | false=>exact cf ⟨rfl,h₃⟩
  | true=>exact bQ (bQ (de h₃ (λx s₄ h₄=>bQ (de h₄ (λ_ s₅ h₅=>cf (cf ⟨rfl,h₅⟩)) λ_ _ h'=>h'.elim)) hEX))
end
def PF(X:Cx)(Sk:V0 Expr)(t:TT):Prop:=
 ∀(RP:QQY) (s:Sd) (Y:St) (H:Hp) (Q:Bool->Hp->Prop),Inv X RP Y H s->t Y H Q->
  wpAny (model X.prog X.w) X.A (forIn Sk true λc r=>if r=true then do let ok<-isTrue c X.env (eval c X.env);pure (ForInStep.yield ok)else pure (ForInStep.yield r)) (TP X RP Y Q) X.xe s
def PC:TT:=λ_ H Q=>Q true H
def Of{X:Cx}:PF X [] PC:=λ_ _ _ H _ I h=>wpAny_tests_nil ⟨H,I,h⟩
def NE{X:Cx}{c:Expr}{t:TT}(h:PT X c t):PF X [c] t:=λRP s Y H Q I q=>wpAny_tests_one (h RP s Y H Q I q)
def Lv(ix:V0 (Option Nat))(g:TG)(tt:TT)(te:TE)(Y:St)(J:It)(Q:VK)(H:Hp):Prop:=
 ∃W:Nat->Nat->V0 V->St->Hp->Prop,(∃m,W 0 m [] (Kb ix Y) H)/\∀i m ys σ' H,W i m ys σ' H->
  (J.stop i H/\ys.length<=sizeLine/\∀D,H D=none->Q (.ref D) (upd H D (.lst ys)))\/
  (J.go i H/\ys.length<sizeLine/\∀x H',J.mv i H x H'->g x σ' H' λσ2 H2=>tt σ2 H2 λb H3=>if b=true then te σ2 H3 λy H4=>∃m',m'<m/\W (i+1) m' (ys++[y]) σ2 H4 else ∃m',m'<m/\W (i+1) m' ys σ2 H3)
def ET(ix:V0 (Option Nat))(wi:TI)(g:TG)(tt:TT)(te:TE):TE:=λY H Q=>wi Y H λJ H1=>Lv ix g tt te Y J Q H1
variable {tg iter Sj:Expr}{Sk:V0 Expr}{g:TG}{tt:TT}{te:TE}{J:It}{it:Addr}{tn:Nat→Heap→Prop}{Q:VK}
section
variable {s:Sd}
def vU{XP:Addr->Sd->Hp->QXQ->QQY->St->Vl->Sd->Prop}{RR:Vl->Addr->Result->Sd->Prop}{E:QQX}(hc:X.calm=true)(S:oQ X scope ix N')(I:Inv X RP Y H s)(T:Ai X.prog X.w X.K tg J fp it tn)(st:tn 0 s.heap)(hf:∀b∈fp,wm X RP H b) (hg:∀C s0 H0 ex,PG (X.comp scope N' C s0 H0 ex) tg g) (ht:∀C s0 H0 ex,PF (X.comp scope N' C s0 H0 ex) Sk tt) (he:∀C s0 H0 ex RP s Y H Q,Inv (X.comp scope N' C s0 H0 ex) RP Y H s->te Y H Q->wpAny (model X.prog X.w) X.A (eval Sj (X.comp scope N' C s0 H0 ex).env) (EP (X.comp scope N' C s0 H0 ex) RP Y Q) (XP C s0 H0 ex RP Y) s) (hx:∀C D e s',s.heap.objs.size<=C->(∃Sn σ',(∀b∈fp,∃o,(b,o)∈Sn)/\XP C s H fp Sn σ' e s')->notedBy (model X.prog X.w) X.A (compEnvC scope (xi X.env scope.names []) C X.env) (λx s'=>RR D C (.error x) s') e s') (hw:Lv ix g tt te Y J Q H) (RV:∀D C s' H' m,s.heap.objs.size<=C->H' C=none->s'.heap.Ns C m->Inv X RP Y H' s'->Q (.ref D) H'->RR (.ref D) C (.ok .next) s'):
  wpAny (model X.prog X.w) X.A (newList []) (λacc s₃=>wpAny (model X.prog X.w) X.A (newFunctionEnv scope X.env.globals (xi X.env scope.names []) [] X.env.qual none .none (some X.env)) (λSx s₄=>
   codeAny (model X.prog X.w) X.A (.compStart (.ListComp Sj [⟨tg,iter,Sk,0⟩] scope pos) 0 (.ref it) acc {Sx with scope:=relabel scope X.env}) (RR acc Sx.locals) s₄) E s₃) E s:=by
 obtain⟨W,⟨m0,w0⟩,SU⟩:=hw;have Sf:∀b∈fp,b<s.heap.objs.size:=λb hb=>by obtain⟨o,e,_⟩:=T.obj _ _ st b hb;exact cp e
 refine eE (wpAny_newFunctionEnv S.me (by intro y hy;simp at hy) (λh₁ TU Uo=>?_) S.kind);dsimp only at TU Uo ⊢;generalize hH2:s.heap.push {cls:=.type "list",dict:=none,data:=.seq ([]:V0 Vl).toArray}=H2 at TU Uo ⊢;have hC:H2.objs.size=s.heap.objs.size+1:=by rw[<-hH2,dz]
 have hDC:s.heap.objs.size≠H2.objs.size:=by rw[hC];exact cI (fZ _)
 have Uq:s.heap.objs.size<=H2.objs.size:=by rw[hC];exact gp _
 have UF:∀b,b<s.heap.objs.size->b≠H2.objs.size/\b≠s.heap.objs.size:=λb hb=>⟨by rw[hC];exact cI (iw hb),cI hb⟩;have Tf:∀b o,s.heap.get? b=some o->h₁.get? b=some o:=λb o e=>Uo.extBut b o (UF b (cp e)).1 (bX _ (hH2 ▸ bX _ e));have hacc:h₁.get? s.heap.objs.size=some {cls:=.type "list",data:=.seq ([]:V0 Vl).toArray 0}:=Uo.extBut _ _ hDC (bX _ (hH2 ▸ cz _ rfl));have TU:h₁.Ns H2.objs.size (λ_=>none):=TU;have Ta:∀{H':Hp} {pl:QQY},(∀b∈fp,H' b=none)->(∀p∈pl,p.1∉fp)->∀b∈fp,wm (X.comp scope N' H2.objs.size s H fp) (X.pn++RP++pl) H' b:=λ{H' pl} hn Se b hb=>by
  refine⟨hn b hb,cI (cF (Sf b hb) Uq),λz=>?_,.inl hb,λx c e=>(hf b hb).2.2.2.2.1 x c (S.sub I.ok e),λp hp=>?_⟩
  .rcases bT.mp (I.lB b z)with y|y
   .exact(hf b hb).2.1 y
   .exact(hf b hb).2.2.1 y
  .rcases c7.mp (show p∈X.pn++RP++pl by simpa using hp)with z|z
   .exact(hf b hb).2.2.2.2.2 p z
   .intro q;exact Se p z (q ▸ hb)
 have loop:∀s₃:Sd,s₃={s with heap:=h₁,toks:=s.toks+([]:V0 (Str×Vl)).length}->
   codeAny (model X.prog X.w) X.A (.compLoop (.ListComp Sj [⟨tg,iter,Sk,0⟩] scope pos) 0 (.ref it) (.ref s.heap.objs.size) (compEnvC scope (xi X.env scope.names []) H2.objs.size X.env))
    (RR (.ref s.heap.objs.size) H2.objs.size) s₃:=by
  rintro s₃ rfl
  refine uT (hEX:=λe s' z=>hx _ _ e s' Uq z) (λn s'=>∃(i:Nat) (ys:V0 V) (us:V0 Vl) (k:Nat) (σ':St) (H':Hp),Inv (X.comp scope N' H2.objs.size s H fp) (X.pn++RP) σ' H' s'/\tn i s'.heap/\(∀b∈fp,H' b=none)/\H' s.heap.objs.size=none/\
   s'.heap.get? s.heap.objs.size=some {cls:=.type "list",data:=.seq us.toArray k}/\nI ys us/\ys.length<=sizeLine/\W i n ys σ' H') ?_ m0
   ⟨0,[],[],0,Kb ix Y,H,I.comp S hf Sf Uq Tf TU,T.keep _ _ _ st λb _ o e=>Tf b o e,λb hb=>(hf b hb).1,I.lb.fresh (cq _),hacc,.nil,dY _,w0⟩
  rintro n s' ⟨i,ys,us,k,σ',H',I',Tt,fr',hD',Si,rv',hz',w'⟩
  have cellD:∀x c,(X.comp scope N' H2.objs.size s H fp).env.cells.lookup x=some c->c≠s.heap.objs.size:=λx c e=>by obtain⟨v,q⟩:=I.cell x c (S.sub I.ok e);exact cI q.lt
  have pinD:∀p∈X.pn++RP,p.1≠s.heap.objs.size:=λp hp=>cI (cp (I.pin p hp).1);have dfs:s.heap.objs.size∉(X.comp scope N' H2.objs.size s H fp).fs:=λz=>by
   rcases bT.mp (I.lB _ z)with y|y
   .exact absurd I.lt (by rw[<-y];exact dv _)
   .exact I.mq (cq _) y
  have dfp:s.heap.objs.size∉fp:=λz=>absurd (Sf _ z) (dv _);have IpD:Inv (X.comp scope N' H2.objs.size s H fp) (X.pn++RP++[(s.heap.objs.size,{cls:=.type "list",data:=.seq us.toArray k})]) σ' H' s':=I'.lJ λp hp=>by
   rcases c7.mp hp with z|z
   .exact I'.pin p (cV _ z)
   .have e:p=(s.heap.objs.size,{cls:=.type "list",data:=.seq us.toArray k}):=by simpa using z
    subst e;exact⟨Si,hD',hDC,dfs,λv z=>by cases z⟩
  have pfp:∀p∈[((s.heap.objs.size,{cls:=.type "list",data:=.seq us.toArray k}):Addr×Obj)],p.1∉fp:=λp hp=>by
   have e:p=(s.heap.objs.size,{cls:=.type "list",data:=.seq us.toArray k}):=by simpa using hp
   subst e;exact dfp
  rcases SU i n ys σ' H' w' with⟨stop,hz,q⟩|⟨go,hz,step⟩
  .refine de (T.done (X.comp scope N' H2.objs.size s H fp) rfl rfl rfl hc i _ s' σ' H' (λ_ _=>False) IpD (Ta fr' pfp) Tt stop) (λr s1 ⟨hr,I1⟩=>?_) λ_ _ z=>z;subst hr;show RR _ _ _ _;have U0:s1.heap.get? s.heap.objs.size=some {cls:=.type "list",data:=.seq us.toArray k}:=(I1.pin (s.heap.objs.size,{cls:=.type "list",data:=.seq us.toArray k}) (by simp)).1;obtain⟨m,hnC,_⟩:=id I1.loc;refine RV _ _ s1 (upd H' s.heap.objs.size (.lst ys)) m Uq (by rw[ni (cH hDC)];exact I1.free) hnC ?_ (q _ hD');have nD:∀b o,s.heap.get? b=some o->b≠s.heap.objs.size:=λb o e=>(UF b (cp e)).2;have hD0:H s.heap.objs.size=none:=I.lb.fresh (cq _);refine I.lW (s':=s1) (ch:=fp) I1.os ⟨λb o e n1 n2 n3=>?_,λb o e n1 n2 n3=>?_,λb o e n1 n2=>?_,λb o e n1=>?_,λb xs e=>?_,λb o u e=>?_,λb ps e=>?_⟩ (λb u e=>?_) I1.bare λb hb=>⟨(hf b hb).2.2.2.1,(hf b hb).2.1,(hf b hb).2.2.2.2.1,(hf b hb).2.2.2.2.2⟩
   .exact I1.base.keep b o e n1 n2 n3
   .exact I1.base.slot b o e n1 n2 n3
   .rw[ni (nD b o e)];exact I1.base.free b o e n1 n2
   .exact I1.base.there b o e n1
   .rw[ni (n9 e hD0)];exact I1.base.lD b xs e
   .rw[ni (n9 e hD0)];exact I1.base.lA b o u e
   .obtain⟨more,z⟩:=I1.base.lE b ps e;exact⟨more,by rw[ni (n9 e hD0)];exact z⟩
   .by_cases hb:b=s.heap.objs.size
    .subst hb;rw[m9]at e;cases e;exact⟨hz,us,k,rv',U0⟩
    .rw[ni hb]at e;exact(I1.lb b u e).ly (λc v _ z=>z) (λc z=>by rw[ni (n9 z hD')];exact z) (λc xs z=>by rw[ni (n9 z hD')];exact z)
  .refine de (T.item (X.comp scope N' H2.objs.size s H fp) rfl rfl rfl hc i _ s' σ' H' (λ_ _=>False) IpD (Ta fr' pfp) Tt go) (λr s1 ⟨v,hr,h4⟩=>?_) λ_ _ z=>z;subst hr;show wpAny _ _ (letOwnedTupleGo tg (.ref it) v) _ _ s1;refine de h4 (λ_ s2 zz=>?_) λ_ _ z=>z;obtain⟨x,H5,I5,r5,y5,UB,fr5⟩:=zz;have I5':=I5.pinned (Ta fr5 pfp) (T.obj _ _ UB);refine de (hg H2.objs.size s H fp _ s2 σ' H5 x v _ I5' r5 (step x H5 y5)) (λ_ s3 ⟨σ6,H6,I6,q6⟩=>?_) λ_ _ z=>z;refine de (ht H2.objs.size s H fp _ s3 σ6 H6 _ I6 q6) (λok s4 ⟨H7,I7,q7⟩=>?_) λ_ _ z=>z;have UG:∀{σ7:St} {H7:Hp} {s7:Sd},Inv (X.comp scope N' H2.objs.size s H fp) (X.pn++RP++[(s.heap.objs.size,{cls:=.type "list",data:=.seq us.toArray k})]++y6 fp s2.heap) σ7 H7 s7->
     tn (i+1) s7.heap/\(∀b∈fp,H7 b=none)/\H7 s.heap.objs.size=none/\s7.heap.get? s.heap.objs.size=some {cls:=.type "list",data:=.seq us.toArray k}:=λ{σ7 H7 s7} K7=>by
    have pd:=K7.pin (s.heap.objs.size,{cls:=.type "list",data:=.seq us.toArray k}) (by simp);refine⟨T.keep _ _ _ UB λb hb o e=>(K7.pin (b,o) (cV _ (cV _ (se hb e)))).1,λb hb=>?_,pd.2.1,pd.1⟩;obtain⟨o,e,d⟩:=T.obj _ _ UB b hb;exact(K7.pin (b,o) (cV _ (cV _ (se hb e)))).2.1
   cases ok with
   | false=>rw[bV cg]at q7 ⊢;obtain⟨m',hm,w7⟩:=q7;obtain⟨t7,f7,d7,o7⟩:=UG I7;exact⟨m',hm,i+1,ys,us,k,σ6,H7,I7.lc.lc,t7,f7,d7,o7,rv',hz',w7⟩
   | true=>
    rw[b9 rfl]at q7 ⊢;refine de (he H2.objs.size s H fp _ s4 σ6 H7 _ I7 q7) (λyv s5 ⟨y,H8,I8,r8,m',hm,w8⟩=>?_) λ_ _ z=>⟨_,_,λb hb=>(by
     obtain⟨o,e,_⟩:=T.obj _ _ UB b hb;exact⟨o,cV _ (se hb e)⟩),z⟩
    obtain⟨t8,f8,d8,o8⟩:=UG I8;have hsz:us.toArray.size<=sizeLine:=by rw[b7,<-rv'.length];exact hz'
    refine append_at (hsz:=hsz) o8 λh' sb od=>?_;refine⟨m',hm,i+1,ys++[y],us++[yv],k+1,σ6,H8,?_,T.keep _ _ _ t8 λb hb o e=>(sb.2 b λq=>dfp (q ▸ hb)).trans e,f8,d8,?_,rv'.append (.cons r8 .nil),?_,w8⟩
    .exact I8.lc.lc.turned (it:=s.heap.objs.size) (t':=s5.toks) (λb o hb e=>(sb.2 b hb).trans e) d8 hDC (.inr (cq _)) cellD (by simpa using pinD)
    .rw[od,List.push_toArray]
    .rw[bS,cC];exact hz
 exact codeAny_compStart_list (loop _ rfl) (T.self _ 0 _ _ _ (T.keep _ _ _ st λb _ o e=>Tf b o e) (loop _ rfl))
def Inv.letGo{C:Addr}{s':Sd}{H':Hp}{σ':St}{h':Heap}(I:Inv X RP Y H s)(I':Inv X RP σ' H' s')(hC:s.heap.objs.size<=C)(hn:H' C=none)(hs:Heap.SameBut C s'.heap h'):Inv X RP σ' H' {s' with heap:=h'}:=
 I'.turned (t':=s'.toks) (it:=C) (λb o hb e=>(hs.2 b hb).trans e) hn (λz=>absurd (cF I.lt hC) (by rw[z];exact dv _)) (.inr (di I.sz hC))
  (λx c e z=>by
   obtain⟨v,r⟩:=I.cell x c e;exact absurd (cF r.lt hC) (by rw[z];exact dv _))
  (λp hp z=>absurd (cF (cp (I.pin p hp).1) hC) (by rw[z];exact dv _))
def KQ{wi:TI}(hc:X.calm=true)(S:oQ X scope ix N')(hi:PI X tg iter wi)(hg:∀C s0 H0 ex,PG (X.comp scope N' C s0 H0 ex) tg g)(ht:∀C s0 H0 ex,PF (X.comp scope N' C s0 H0 ex) Sk tt)(he:∀C s0 H0 ex,PE (X.comp scope N' C s0 H0 ex) Sj te) (hs:∀x,foldedSetIterable iter X.env x=pure x:=by intro _;rfl):PE X (.ListComp Sj [⟨tg,iter,Sk,0⟩] scope pos) (ET ix wi g tt te):=by
 intro RP s Y H Q I h;rw[eval_ListComp];refine gz (use:=none) rfl hs (sX (S.cells I.ok)) S.kind S.nam (de (hi RP s Y H _ I h) (λxv s₁ h₁=>de h₁ (λitv s₂ h₂=>?_) λ_ _ e=>e) λ_ _ e=>e);obtain⟨it,fp,tn,J,H2,e,I2,T,S9,f2,hw⟩:=h₂;subst e;refine vU (RR:=λacc C=>compPost (model X.prog X.w) X.A X.xe none (EP X RP Y Q) acc C) hc S I2 T S9 f2 hg ht (XP:=λ_ _ _ _ _ _ _ _=>False) he (λ_ _ _ _ _ z=>by obtain⟨_,_,_,z⟩:=z;exact z.elim) hw λD C s' H' m Ur hCn hn I3 q=>?_;exact⟨m,hn,λh' Ub=>⟨.ref D,_,I2.letGo I3 Ur hCn Ub,rfl,q⟩⟩
def Ec{wi:TI}{i:Nat}{x:Str}{px SG:Pos}(hN:X.N.Nodup)(TH:X.N[i]?=some x)(hx:Bo X.env.scope x)(hc:X.calm=true)(S:oQ X scope ix N')(hi:PI X tg iter wi)(hg:∀C s0 H0 ex,PG (X.comp scope N' C s0 H0 ex) tg g)(ht:∀C s0 H0 ex,PF (X.comp scope N' C s0 H0 ex) Sk tt) (he:∀C s0 H0 ex,PE (X.comp scope N' C s0 H0 ex) Sj te) (SH:swapsWith (.ListComp Sj [⟨tg,iter,Sk,0⟩] scope pos) (some (.Name x px)) SG.line X.env=pure true) (hf:BP X x:=by first|exact .inl rfl|exact .inr rfl|assumption) (hs:∀x,foldedSetIterable iter X.env x=pure x:=by intro _;rfl):
  PS X (.Assign [.Name x px] (.ListComp Sj [⟨tg,iter,Sk,0⟩] scope pos) SG) (DZ (ET ix wi g tt te) (yR i)):=by
 intro RP s Y H D I h;rw[je _ _ _ _ SH];refine bQ (io (bQ ?_));show wpAny _ X.A (do let _<-comprehension (.ListComp Sj [⟨tg,iter,Sk,0⟩] scope pos) scope X.env _ (newList []) false (eval iter X.env) (some (assign (.Name x px) X.env))) _ _ s;refine bQ (de (gz (use:=some (assign (.Name x px) X.env)) (Q:=λ_ s'=>SP X RP D .next s') rfl hs (sX (S.cells I.ok)) S.kind S.nam
  (de (hi RP s Y H _ I h) (λxv s₁ h₁=>de h₁ (λitv s₂ h₂=>?_) λ_ _ e=>e) λ_ _ e=>e)) (λ_ s' hq=>cf (cf hq)) λ_ _ e=>e)
 obtain⟨it,fp,tn,J,H2,e,I2,T,S9,f2,hw⟩:=h₂;subst e;refine vU (RR:=λacc C=>compPost (model X.prog X.w) X.A X.xe (some (assign (.Name x px) X.env)) (λ_ s'=>SP X RP D .next s') acc C) hc S I2 T S9 f2 hg ht (XP:=λ_ _ _ _ _ _ _ _=>False) he (λ_ _ _ _ _ z=>by obtain⟨_,_,_,z⟩:=z;exact z.elim) hw λDa C s' H' m Ur hCn hn I3 q=>?_;show wpAny _ X.A (assign (.Name x px) X.env (.ref Da)) _ _ _;refine ir (xh I3 hN TH hx (v:=.ref Da) rfl (λs4 I4 ⟨a,sb,ha⟩=>?_) hf);have ca:C≠a:=λz=>by
  rcases ha with y|y
  .exact absurd (cF I2.lt Ur) (by rw[z,y];exact dv _)
  .obtain⟨v,r⟩:=I2.cell x a y;exact absurd (cF r.lt Ur) (by rw[z];exact dv _)
 exact⟨m,hn.sameBut sb ca,λh' Ub=>⟨_,H',I2.letGo I4 Ur hCn Ub,q⟩⟩
end
def yf:typeLookup (.type "list") "__getattr__"=pure none:=by rw[typeLookup_type,jf];kernel_rfl
def Bd:typeLookup (.type "list") "keys"=pure none:=by rw[typeLookup_type,jf];kernel_rfl
section
variable {prog:Pg}{w:Wo}{A:Ar}{E:QQX}
def Im(a:Addr)(u:Tok)(its:Array Vl)(n:Nat)(sl:Array (Option Vl)):
  Meets (Builtin.«object.__getattribute__» ⟨[.ref a,.str "keys" u],[]⟩) λA R s=>s.heap.get? a=some ⟨.type "list",none,.seq its n,sl⟩/\A.handled=none/\∀h' tk e,Heap.NewAttrErr s.heap h' e (.ref a) "keys"->R (.error (.ref e)) {s with heap:=h',toks:=tk}:=
 Meets.of_wp λprog w A R s hs=>by
  obtain⟨hp,g,d,tk,os⟩:=s;obtain⟨h1,h2,h3⟩:=hs;have hT:(⟨hp,g,d,tk,os⟩:Sd).TypeIs (.ref a) "list":=⟨_,h1,rfl⟩;have f1:=Bd;unfold Builtin.«object.__getattribute__»
  repeat (any_goals(first|assumption|wp_step))
  exact wpAny_raiseAttrError h2 h3 (attrMsg_fits (by decide+kernel) (by decide))
def BK{s:Sd}{a:Addr}{its:Array Vl}{n:Nat}{sl:Array (Option Vl)}{Q:Option Vl->Sd->Prop}(ha:s.heap.get? a=some ⟨.type "list",none,.seq its n,sl⟩)(hA:A.handled=none) (h:∀h' tk,(∀b o,s.heap.get? b=some o->h'.get? b=some o)->Q none {s with heap:=h',toks:=tk}):wpAny (model prog w) A (getAttr? (.ref a) "keys") Q E s:=by
 obtain⟨hp,g,d,tk,os⟩:=s;have hT:(⟨hp,g,d,tk,os⟩:Sd).TypeIs (.ref a) "list":=⟨_,ha,rfl⟩;have f1:=sub_AttributeError;have f3:=gA.lookup;have f4:=gA.bind (.ref a);have f5:=yf;unfold getAttr? getAttrBy? getAttrBy
 repeat (any_goals(first|assumption|((with_reducible show wpAny _ _ (call (Value.builtin "list.__getattribute__") _ _) _ _ _);refine fC gA hT F.entry_list_ga (F.args_list_getattribute_2 _ _) (Im a _ its n sl) ⟨ha,hA,λh' tk' e hx=>?_⟩)|wp_step))
 obtain⟨t',u',he⟩:=hx.there;show wpAny _ _ (getattributeRaised _ _ _ _ _ _ _) _ _ _;unfold getattributeRaised
 repeat (any_goals(first|assumption|wp_step))
 all_goals first|exact h _ _ hx.keeps|skip
end
def xK:entryFor table "dict.update.loop"=some Builtin.«dict.update.loop»:=entryFor_of_tree (by kernel_rfl)
def sC:plainId "dict.update.loop"=true:=by decide+kernel
section
variable {prog:Pg}{w:Wo}{A:Ar}{E:QQX}{R:Result→Sd→Prop}{κ:Type}[DecidableEq κ]{knd:PySem.KeyKind prog w κ}
 {I:Addr} {fp wr:QXQ} {G:Array GenState->Array GenState->Prop} {P:Nat->Vl->Prop} {St:Nat->Sd->Prop}
def JH{s:Sd}{t:Addr}{x y:Vl}{Q:V0 Vl->Sd->Prop}(h:s.heap.IsTuple t #[x,y])(q:Q [x,y] s):wpAny (model prog w) A (Builtin.Dict.pairItems (.ref t)) Q E s:=by
 obtain⟨⟨oc,od,oda,Tb⟩,h1,h2,n,h3⟩:=h;simp only at h2 h3;subst h2 h3;have hT:s.TypeIs (.ref t) "tuple":=⟨_,h1,rfl⟩;obtain⟨hp,g,d,tk,os⟩:=s;unfold Builtin.Dict.pairItems
 repeat (any_goals(first|assumption|wp_step))
def Fv{all:V0 (κ×Vl)}(W:WalksS prog w A.in1 I fp wr G all.length P St)(d:Addr)(UE:d∉fp)(kv:Nat->Vl)(tp:Nat->Addr)(hP:∀i v,P i v->v=.ref (tp i))(hw:∀j,j<all.length->tp j∉wr/\tp j≠d) (hk:∀j p,all[j]?=some p->knd.is p.1 (kv j)=true) (hz:all.length<=sizeLine):
  ∀(k i:Nat) (z:Int) (s:Sd),all.length - i=k->i<=all.length->St i s->(∀j p,all[j]?=some p->s.heap.IsTuple (tp j) #[kv j,p.2])->s.heap.DictOf knd d (merged [] (all.take i))->
   (∀s',Moved (d::wr) G s s'->s'.heap.DictOf knd d (merged [] all)->R (.ok (.ret .none)) s')->codeAny (model prog w) A (.builtin "dict.update.loop" ⟨[.ref d,.ref I,.int z 0,.none],[]⟩) R s:=by
 have hdw:d∉wr:=λh=>UE (W.sub _ h);have TV:∀b∈wr,b∈d::wr:=λb hb=>ci _ hb;intro k;induction k with
 | zero=>
  intro i z s Us hi Sv hT hD hR;have TX:i=all.length:=by lia
  subst TX;refine gw xK ?_;rw[gf sC _];show wpAny _ A.in1 (pyNext (.ref I)>>=_) _ _ s;refine bQ (W.done s _ _ Sv λs' hm=>?_);show wpAny _ A.in1 (Builtin.Dict.addKeywords d []>>=_) _ _ s';refine bQ (cf (cf (hR s' (hm.mono TV) ?_)));rw[dC]at hD;obtain⟨o,es,ep,ho,RU⟩:=hD;exact⟨o,es,ep,hm.heap d _ hdw ho,RU⟩
 | succ k ih=>
  intro i z s Us hi Sv hT hD hR;have Sf:i<all.length:=by lia
  have Tg:all[i]?=some all[i]:=bZ Sf;refine gw xK ?_;rw[gf sC _];show wpAny _ A.in1 (pyNext (.ref I)>>=_) _ _ s;refine bQ (W.item i s _ _ Sf Sv λv s' hPv U1 hm=>?_);obtain rfl:=hP i v hPv;have hT':∀j p,all[j]?=some p->s'.heap.IsTuple (tp j) #[kv j,p.2]:=λj p e=>by obtain⟨o,h1,h2⟩:=hT j p e;exact⟨o,hm.heap _ _ (hw j (bW.mp e).1).1 h1,h2⟩
  have hD':s'.heap.DictOf knd d (merged [] (all.take i)):=by obtain⟨o,es,ep,ho,RU⟩:=hD;exact⟨o,es,ep,hm.heap d _ hdw ho,RU⟩
  show wpAny _ A.in1 (holding [Value.ref (tp i)] _>>=_) _ _ s';refine bQ (dA (bQ (wpAny_tryCatch (JH (hT' i _ Tg) ?_))));show wpAny _ A.in1 (holding [kv i,all[i].2] (dictSet d (kv i) all[i].2)) _ _ s';refine dA ?_;unfold dictSet;refine dA (bQ (knd.pyHash (hk i _ Tg) ?_));have hl:(merged [] (all.take i)).length<=sizeLine:=by have:=merged_length_le [] (all.take i);rw[cQ]at this;simp only[cA]at this;lia
  refine wpAny_dictSetHashed_pairs (hsz:=hl) (hk i _ Tg) hD' λh' dd hs=>?_;rw[<-merged_take_succ [] all i _ Tg]at dd;refine cf ⟨jC sC _,ih (i+1) _ _ (by lia) Sf (W.frame _ s' _ _ U1 (gp _) λb hb o e=>?_) (λj p e=>?_) dd λUj U2 hD''=>?_⟩
  .rw[hs.2 b (λz:b=d=>UE (z ▸ hb))];exact e
  .obtain⟨o,h1,h2⟩:=hT' j p e;refine⟨o,?_,h2⟩;show h'.get? (tp j)=some o;rw[hs.2 _ (hw j (bW.mp e).1).2];exact h1
  .refine hR Uj (kS W.gtrans ((hm.mono TV).then_heap (gp _) λb o hb e=>?_) U2) hD'';rw[hs.2 b (λz:b=d=>hb (by rw[z];exact ck))];exact e
end
section
variable {prog:Pg}{w:Wo}{A:Ar}{E:QQX}{κ:Type}[DecidableEq κ]{knd:PySem.KeyKind prog w κ}{s:Sd}
def xX{l:Addr}{its:Array Vl}{n:Nat}{sl:Array (Option Vl)}{all:V0 (κ×Vl)}{Q:QQX}(kv:Nat->Vl)(tp:Nat->Addr)(hh:A.handled=none)(hl:s.heap.get? l=some ⟨.type "list",none,.seq its n,sl⟩) (hits:∀(j:Nat) (v:Vl),its[j]?=some v->v=.ref (tp j)) (R4:its.size=all.length) (hT:∀j p,all[j]?=some p->s.heap.IsTuple (tp j) #[kv j,p.2]) (hk:∀j p,all[j]?=some p->knd.is p.1 (kv j)=true) (hz:all.length<=sizeLine) (h:∀h' tk,h'.DictOf knd s.heap.objs.size (merged [] all)->(∀b o,s.heap.get? b=some o->h'.get? b=some o)->Q (.ref s.heap.objs.size) {s with heap:=h',toks:=tk}):
  wpAny (model prog w) A (call (.type "dict") [.ref l]) Q E s:=by
 refine callType_codes (Q₁:=λobj s₁=>obj=Value.ref s.heap.objs.size/\s₁={s with heap:=s.heap.push {cls:=.type "dict",data:=.dict #[]}}) PySem.F.kt_called_dict (PySem.F.kt_typeCall_dict_1 _) F.entry_dict_init (kt_code_dict_new _ ⟨rfl,rfl⟩) ?_
 rintro obj s₁ ⟨rfl,rfl⟩
 have TQ:(s.heap.push {cls:=.type "dict",data:=.dict #[]}).DictOf knd s.heap.objs.size []:=kB s.heap;have hl':(s.heap.push {cls:=.type "dict",data:=.dict #[]}).get? l=some ⟨.type "list",none,.seq its n,sl⟩:=bX _ hl;have hTl:Shared.TypeIs {s with heap:=s.heap.push {cls:=.type "dict",data:=.dict #[]}} (.ref l) "list":=⟨_,hl',rfl⟩;have lsz:l<s.heap.objs.size:=cp hl;refine⟨TQ.typeIs,F.args_dict_init_2 _ _,?_⟩;unfold Builtin.«dict.__init__»;refine bQ ?_;unfold Builtin.Dict.selfAndRest;refine bQ (wpAny_notOrdered_dict TQ.typeIs ?_);show wpAny _ _ (pure (s.heap.objs.size,[Value.ref l])) _ _ _;refine cf ?_;show wpAny _ _ (Builtin.Dict.updateFrom "dict.__init__" s.heap.objs.size (.ref l) [] .none) _ _ _;unfold Builtin.Dict.updateFrom;refine bQ (iH hTl ?_);rw[b9 (by decide)];refine bQ (BK hl' (by simpa using hh) λh' tk keep=>?_);have hl2:h'.IsList l its:=⟨_,keep _ _ hl',rfl,n,rfl⟩;show wpAny _ _ (rule _>>=_) _ _ _;refine bQ (jq (bQ (fu hl2 ?_)));have nd:h'.objs.size>s.heap.objs.size:=by have z:h'.get? s.heap.objs.size=some _:=keep _ _ (cz _ rfl);exact cp z
 have hDn:h'.DictOf knd s.heap.objs.size []:=by obtain⟨o,es,ep,ho,RU⟩:=TQ;exact⟨o,es,ep,keep _ _ ho,RU⟩
 have hTs:∀j p,all[j]?=some p->h'.IsTuple (tp j) #[kv j,p.2]:=λj p e=>by obtain⟨o,h1,h2⟩:=hT j p e;exact⟨o,keep _ _ (bX _ h1),h2⟩
 have SJ:l≠h'.objs.size:=cI (iJ lsz nd);have W:=(jr (prog:=prog) (w:=w) (A:=A.in1.in1) (by simpa using hh) h'.objs.size l SJ its).toS;rw[R4]at W;refine cf ⟨jC sC _,Fv (A:=A.in1) W s.heap.objs.size ?_ kv tp (λi v e=>hits i v e) (λj hj=>?_) hk hz all.length 0 0 _ (by lia) (dY _) ⟨⟨_,cz _ rfl,rfl,rfl⟩,hl2.push _⟩ (λj p e=>(hTs j p e).push _) ?_ λs' hm hD=>?_⟩
 .simp only[bT,bY,cM,dj];exact⟨cI nd,eU lsz⟩
 .have UH:all[j]?=some all[j]:=bZ hj;obtain⟨o,h1,_⟩:=hT j _ UH;have tsz:=cp h1;simp only[bT,bY,cM];exact⟨cI (iJ tsz nd),cI tsz⟩
 .obtain⟨o,es,ep,ho,RU⟩:=hDn;exact⟨o,es,ep,bX _ ho,RU⟩
 .obtain⟨h2,g2,d2,t2,o2⟩:=s';have eg:g2=s.gens:=hm.gens;have ed:d2=s.drawn:=hm.drawn;have eo:o2=s.os:=hm.os;subst eg ed eo;refine⟨rfl,h h2 t2 hD λb o e=>?_⟩;have hb:=cp e;refine hm.heap b o ?_ (bX _ (keep _ _ (bX _ e)));simp only[bT,bY,cM,dj];exact⟨cI hb,cI (iJ hb nd)⟩
end
noncomputable def qe{κ:Type}[DecidableEq κ](l:List κ):List κ:=l.foldl (λacc k=>if k∈acc then acc else acc++[k]) []
def vh{κ:Type}[DecidableEq κ](l:List κ)(k:κ):qe (l++[k])=if k∈qe l then qe l else qe l++[k]:=by unfold qe;rw[List.foldl_append];rfl
def Fo{κ:Type}[DecidableEq κ]:∀l:List κ,(qe l).length<=l.length:=by
 have go:∀(l acc:List κ),(l.foldl (λacc k=>if k∈acc then acc else acc++[k]) acc).length<=acc.length+l.length:=by
  intro l;induction l with
  | nil=>intro acc;simp
  | cons k r ih=>
   intro acc;rw[dQ];refine di (ih _) ?_;split
   .simp only[b8];lia
   .simp only[b8,bS,cA];lia
 intro l;have:=go l []
 simpa [qe]using this
def GE{κ:Type}[DecidableEq κ](x:κ):∀l:List κ,x∈qe l↔x∈l:=by
 have go:∀(l acc:List κ),x∈l.foldl (λacc k=>if k∈acc then acc else acc++[k]) acc↔x∈acc\/x∈l:=by
  intro l;induction l with
  | nil=>intro acc;simp
  | cons k r ih=>
   intro acc;rw[dQ,ih];by_cases h:k∈acc
   .rw[b9 h,bT];constructor
    .rintro (z|z)
     .exact .inl z
     .exact .inr (.inr z)
    .rintro (z|z|z)
     .exact .inl z
     .subst z;exact .inl h
     .exact .inr z
   .rw[bV h,c7,c8,bT,or_assoc]
 intro l;have:=go l []
 simpa [qe]using this
def Dt{κ:Type}[DecidableEq κ]:∀l:List κ,l.Nodup->qe l=l:=by
 have go:∀(l acc:List κ),(acc++l).Nodup->l.foldl (λacc k=>if k∈acc then acc else acc++[k]) acc=acc++l:=by
  intro l;induction l with
  | nil=>intro acc _;simp
  | cons k r ih=>
   intro acc h;have hk:k∉acc:=λz=>by rw[dZ]at h;exact h.2.2 k z k ck rfl
   rw[dQ,bV hk,ih]
   .rw[df];rfl
   .rw[df];exact h
 intro l h;have:=go l [] (by simpa using h)
 simpa [qe]using this
section
variable {prog:Pg}{w:Wo}{A:Ar}{E:QQX}{R:Result→Sd→Prop}{κ:Type}[DecidableEq κ][BEq κ][LawfulBEq κ]{knd:PySem.KeyKind prog w κ}
 {I:Addr} {fp wr:QXQ} {G:Array GenState->Array GenState->Prop} {P:Nat->Vl->Prop} {St:Nat->Sd->Prop}
def B7{all:List κ}(W:WalksS prog w A.in1 I fp wr G all.length P St)(S:Addr)(hSf:S∉fp)(hval:∀i v k,P i v->all[i]?=some k->knd.is k v=true/\v.scannable=true)(hb:all.length+1<scanBound):
  ∀(n i:Nat) (s:Sd),all.length - i=n->i<=all.length->St i s->s.heap.SetOf knd S (λx=>decide (x∈qe (all.take i))) (qe (all.take i)).length->
   (∀s',Moved (S::wr) G s s'->s'.heap.SetOf knd S (λx=>decide (x∈qe all)) (qe all).length->R (.ok (.ret .none)) s')->codeAny (model prog w) A (.builtin "set.update.loop" ⟨[.ref S,.ref I],[]⟩) R s:=by
 have hSw:S∉wr:=λh=>hSf (W.sub _ h);have up:∀b∈wr,b∈S::wr:=λb hb=>ci _ hb;have kept:∀{s s':Sd} {T:κ->Bool} {m:Nat},Moved wr G s s'->s.heap.SetOf knd S T m->s'.heap.SetOf knd S T m:=λhm ⟨o,es,ep,t,ho,RU⟩=>⟨o,es,ep,t,hm.heap S _ hSw ho,RU⟩;intro n;induction n with
 | zero=>
  intro i s h0 hi Sv hS hR;obtain rfl:i=all.length:=by lia
  refine gw gB ?_;rw[gf fg _];rw[dC]at hS;exact bQ (W.done s _ _ Sv λs' hm=>cf (hR s' (hm.mono up) (kept hm hS)))
 | succ n ih=>
  intro i s h0 hi Sv hS hR;have Sf:i<all.length:=by lia
  have Tg:all[i]?=some all[i]:=bZ Sf;refine gw gB ?_;rw[gf fg _];refine bQ (W.item i s _ _ Sf Sv λv s' hP U1 hm=>?_);obtain⟨k1,k2⟩:=hval i v _ hP Tg;have hS':=kept hm hS;show wpAny _ A.in1 (holding [v] (setAdd S v)>>=_) _ _ s';refine bQ (dA ?_);unfold setAdd;refine dA (bQ (knd.pyHash k1 ?_));have room:(qe (all.take i)).length+1<scanBound:=by have h1:=Fo (all.take i);rw[cQ]at h1;lia
  refine wpAny_setAddHashed_of (knd:=knd) (s:={s' with toks:=s'.toks+1}) k1 k2 hS' room λh' hsb hS2=>?_;have et:all.take (i+1)=all.take i++[all[i]]:=by rw[fz,Tg];rfl
  have hSi:h'.SetOf knd S (λx=>decide (x∈qe (all.take (i+1)))) (qe (all.take (i+1))).length:=by
   refine iK hS2 (λx=>?_) ?_
   .rw[et];by_cases RS:all[i]∈qe (all.take i)
    .rw[vh,b9 RS];by_cases hx:x=all[i]
     .subst hx;simp[RS]
     .simp[hx]
    .rw[vh,bV RS];by_cases hx:x=all[i]
     .subst hx;simp
     .simp[hx]
   .rw[et,vh];by_cases RS:all[i]∈qe (all.take i)
    .rw[b9 RS];simp[RS]
    .rw[bV RS];simp[RS]
  refine cf ⟨jC fg _,ih (i+1) _ (by lia) Sf (W.frame _ s' _ _ U1 (gp _) λb hb o e=>?_) hSi λUj U2 hS''=>?_⟩
  .rw[hsb.2 b (λz:b=S=>hSf (z ▸ hb))];exact e
  .refine hR Uj (kS W.gtrans ((hm.mono up).then_heap (gp _) λb o hb e=>?_) U2) hS'';rw[hsb.2 b (λz:b=S=>hb (by rw[z];exact ck))];exact e
end
def zT:isSubtype (.type "tuple") (.type "set")=pure false:=by rw[h9];kernel_rfl
def xB:isSubtype (.type "tuple") (.type "frozenset")=pure false:=by rw[h9];kernel_rfl
def BL:isSubtype (.type "list") (.type "set")=pure false:=by rw[h9];kernel_rfl
def ye:isSubtype (.type "list") (.type "frozenset")=pure false:=by rw[h9];kernel_rfl
section
variable {prog:Pg}{w:Wo}{A:Ar}{E:QQX}{κ:Type}[DecidableEq κ][BEq κ][LawfulBEq κ]{knd:PySem.KeyKind prog w κ}{s:Sd}
set_option maxHeartbeats 4000000 in
def wD{l:Addr}{RQ:Array Vl}{all:List κ}{Q:QQX}(hh:A.handled=none)(hl:s.heap.IsList l RQ\/s.heap.IsTuple l RQ)(hn:RQ.size=all.length)(hi:∀(i:Nat) (v:Vl) (k:κ),RQ[i]?=some v->all[i]?=some k->knd.is k v=true/\v.scannable=true)(hb:all.length+1<scanBound) (h:∀(h':Heap) (tk:Nat),h'.SetOf knd s.heap.objs.size (λx=>decide (x∈qe all)) (qe all).length->(∀b o,s.heap.get? b=some o->h'.get? b=some o)->Q (.ref s.heap.objs.size) {s with heap:=h',toks:=tk}):
  wpAny (model prog w) A (call (.type "set") [.ref l]) Q E s:=by
 obtain⟨c,tl,hmro⟩:=fE.mro;have hmade:=fE.made;have TV:=fE.sub;refine gT (codeAny_of_tree ?_);show wpAny _ _ (callAny (.type "set") _) _ _ _;refine cf ⟨Code.quiet_builtin _ (by decide+kernel),gw F.entry_type_call ?_⟩;rw[Around.under_plain (weight_type_call_type "set" [.ref l] []) rfl];have h1:=fE.notType;have h2:=fE.canCreate;have hct:=F.typeCall_set_1 (.ref l)
 repeat (any_goals(first|assumption|wp_step))
 have fresh:∀Tz:Bool,(s.heap.push {cls:=.type "set",dict:=none,data:=.set #[] 0 (.fresh 0 0 Tz)}).get? s.heap.objs.size=some {cls:=.type "set",dict:=none,data:=.set #[] 0 (.fresh 0 0 Tz)}:=λTz=>cz _ rfl;refine fS (code_set_new_1 (.ref l) (E:=E) (Q₁:=λobj s₁=>∃Tz:Bool,obj=Value.ref s.heap.objs.size/\s₁={s with heap:=s.heap.push {cls:=.type "set",dict:=none,data:=.set #[] 0 (.fresh 0 0 Tz)}}) λTz=>⟨Tz,rfl,rfl⟩) λr s₁ hr=>?_;cases r with
 | error e=>exact hr
 | ok fl=>
  cases fl with
  | ret obj=>
   obtain⟨Tz,rfl,rfl⟩:=hr;have hS:=fresh Tz;have hT:Shared.TypeIs {s with heap:=s.heap.push {cls:=.type "set",dict:=none,data:=.set #[] 0 (.fresh 0 0 Tz)}} (.ref s.heap.objs.size) "set":=⟨_,hS,rfl⟩;have hli:=fE.init.lookup;have hbi:=fE.init.bind (.ref s.heap.objs.size)
   repeat (any_goals(first|assumption|wp_step))
   refine fS (js (R:=wants (λr s₂=>r=.none/\∃h' tk,s₂={s with heap:=h',toks:=tk}/\h'.SetOf knd s.heap.objs.size (λx=>decide (x∈qe all)) (qe all).length/\(∀b o,s.heap.get? b=some o->h'.get? b=some o)) E) fE.init.plain F.entry_set_init (check_set_init_1 hT ?_)) λr₂ s₂ hr₂=>?_
   .rcases hl with⟨ol,hol,hcl,nl,hdl⟩|⟨ol,hol,hcl,nl,hdl⟩
    all_goals
     obtain⟨ocls,odict,odata,oslots⟩:=ol;simp only at hcl hdl;subst hcl;subst hdl;have Ut:=bX {cls:=.type "set",dict:=none,data:=.set #[] 0 (.fresh 0 0 Tz)} hol;have hsls:=BL;have hslf:=ye;have htls:=zT;have htlf:=xB;have hnd:(Value.type "list"==Value.type "dict")=false:=by decide
     have hnt:(Value.type "tuple"==Value.type "dict")=false:=by decide
     unfold Builtin.«set.__init__» noKeywords Builtin.Frozenset.updateFrom;generalize hPI:pyIter=PI
     wp_walk
     subst hPI
     first|refine fu ⟨_,Ut,rfl,nl,rfl⟩ ?_|refine fP ⟨_,Ut,rfl,nl,rfl⟩ ?_
     refine bQ (wpAny_runValue ?_);have lS:l<s.heap.objs.size:=cp hol;have hh3:A.in1.in1.in1.handled=none:=by simp[hh]
     have lI:l≠(s.heap.push {cls:=.type "set",dict:=none,data:=.set #[] 0 (.fresh 0 0 Tz)}).objs.size:=by rw[dz];exact cI (iw lS)
     first
     | refine B7 (hn ▸ (jr (prog:=prog) (w:=w) hh3 _ l lI RQ).toS) s.heap.objs.size ?hf (λi v k e1 e2=>hi i v k e1 e2) hb all.length 0 _ (by lia) (dY _) ⟨⟨_,cz _ rfl,rfl,rfl⟩,_,bX _ Ut,rfl,nl,rfl⟩ ?h0 ?hR
     | refine B7 (hn ▸ (Walks.tuple (prog:=prog) (w:=w) hh3 _ l lI RQ).toS) s.heap.objs.size ?hf (λi v k e1 e2=>hi i v k e1 e2) hb all.length 0 _ (by lia) (dY _) ⟨⟨_,cz _ rfl,rfl,rfl⟩,_,bX _ Ut,rfl,nl,rfl⟩ ?h0 ?hR
     case hf=>rw[dz];simp only[bT,bY,cM,dj];exact⟨cI (fZ _),eU lS⟩
     case h0=>exact iK ((PyProof.Rows.setObjOf_fresh (knd:=knd) Tz).setOf (bX _ hS) (by unfold scanBound;lia)) (λ_=>rfl) rfl
     case hR=>intro s' hm hS';obtain⟨h',g',d',tk',US⟩:=s';have eg:g'=s.gens:=hm.gens;have ed:d'=s.drawn:=hm.drawn;have eo:US=s.os:=hm.os;subst eg;subst ed;subst eo;refine cf ?_;show wpAny _ _ (ret Value.none) _ _ _;refine cf ⟨rfl,h',tk',rfl,hS',λb o e=>?_⟩;have hb:=cp e;refine hm.heap b o ?_ (bX _ (bX _ e));rw[dz];simp only[bT,bY,cM,dj];exact⟨cI hb,cI (iw hb)⟩
   .cases r₂ with
    | error e=>exact hr₂
    | ok fl₂=>
     cases fl₂ with
     | ret r=>
      obtain⟨rfl,h',tk,rfl,hS',Um⟩:=hr₂
      repeat (any_goals(first|assumption|wp_step))
      exact h _ _ hS' Um
     | _=>exact hr₂.elim
  | _=>exact hr.elim
end
end L2
namespace HT
open PySem PyProof.Rows
variable {prog:Pg}{w:Wo}{A:Ar}{E:QQX}{s:Sd}
def wH{t sl:Addr}{RQ:Array Vl}{vl vu:Vl}{lo hi:Option Int}{Q:QQX}(ht:IsTup s.heap t RQ)(hs:s.heap.IsSliceOf sl vl vu .none)(pl:IsPart vl lo)(pu:IsPart vu hi) (hw:pZ RQ.size 0 lo=0/\pZ RQ.size RQ.size hi=RQ.size) (h:Q (.ref t) s):wpAny (model prog w) A (getItem (.ref t) (.ref sl)) Q E s:=by
 obtain⟨os,UU,hcs,SF⟩:=id hs;have hTs:s.TypeIs (.ref sl) "slice":=⟨os,UU,hcs⟩;unfold getItem
 try with_reducible refine dA ?_
 first|refine bQ (cf ?_)|skip
 refine bQ (iu ht.typeIs (by decide) ?_);refine bQ (dS (name:=Str.ofString "__getitem__") ht.typeIs dH (eh dH ht.typeIs jE ?_ (jR _ _)));show wpAny _ _ (Builtin.Tuple.tupleItemsOf (.ref t)>>=_) _ _ s;refine bQ (tupleItemsOf_ ht ?_);refine bQ (iH hTs ?_);rw[b9 (by decide)];refine bQ (tF hs pl pu ?_);have yes:(((pZ RQ.size 0 lo:Nat):Int)==0&&(1:Int)==1&&(pZ RQ.size RQ.size hi - pZ RQ.size 0 lo)==RQ.size)=true:=by rw[hw.1,hw.2];simp
 show wpAny _ _ (if (((pZ RQ.size 0 lo:Nat):Int)==0&&(1:Int)==1&&(pZ RQ.size RQ.size hi - pZ RQ.size 0 lo)==RQ.size)=true then _ else _) _ _ s;rw[b9 yes];have hT:=ht.typeIs;obtain⟨hp,g,d,tk,o⟩:=s
 repeat (any_goals(first|assumption|wp_step))
 exact⟨_,rfl,cf h⟩
end HT
namespace L2
variable {X:Cx}{p p2 pos TY:Pos}{e:Expr}{te:TE}
section
def Rc(K:nz):V->Option Int->Option Int->Hp->VK->Prop:=λx lo hi H Q=>∃a xs,x=.ref a/\rc K H a xs/\(HT.pZ xs.length 0 lo=0/\HT.pZ xs.length xs.length hi=xs.length)/\Q (.ref a) H
def Ni:Ow X (Rc X.K):=by
 intro RP s Y H x v vl vu lo hi sl Q I rx hs pl pu h;obtain⟨a,xs,rfl,hx,hw,q⟩:=h;cases rx;obtain⟨its,r,ht,hz⟩:=I.tuple hx;have R4:its.toArray.size=xs.length:=by rw[b7];exact r.length.symm
 exact⟨"tuple",_,dH.lookup,ht.typeIs,HT.wH ht hs pl pu (by rw[R4];exact hw) ⟨.ref a,H,I,rfl,q⟩⟩
local instance (priority:=5000) keyBEq:BEq oK:=instBEqOfDecidableEq
local instance (priority:=5000) keyLaw:LawfulBEq oK:=inferInstanceAs (LawfulBEq (Sum Int Str))
def JW(K:nz)(te:TE):TE:=λY H Q=>te Y H λx H1=>∃a,∃ss:QQQ,x=.ref a/\(sO K H1 a (ss.map V.str)\/rc K H1 a (ss.map V.str))/\ss.length+1<scanBound/\Q (.int (qe ss).length) H1
def Ca{P:Pg}{w:Wo}{ss:QQQ}{us:V0 Vl}(r:nI (ss.map V.str) us):us.length=ss.length/\∀(i:Nat) (v:Vl) (k:oK),us[i]?=some v->(ss.map λx=>(Sum.inr x:oK))[i]?=some k->(oG P w).is k v=true/\v.scannable=true:=by
 refine⟨by rw[<-r.length,bP],λi v k e1 e2=>?_⟩;rw[cD]at e2;cases q:ss[i]? with
 | none=>rw[q]at e2;cases e2
 | some x=>rw[q]at e2;cases e2;obtain⟨u,e3,t,rfl⟩:=r.get (i:=i) (x:=V.str x) (by rw[cD,q];rfl);rw[e3]at e1;cases e1;exact⟨xM P w x t,rfl⟩
def H9{ss:QQQ}:(qe (ss.map λx=>(Sum.inr x:oK))).length=(qe ss).length:=by
 have go:∀(l acc:QQQ),(l.map λx=>(Sum.inr x:oK)).foldl (λacc k=>if k∈acc then acc else acc++[k]) (acc.map Sum.inr)=(l.foldl (λacc k=>if k∈acc then acc else acc++[k]) acc).map Sum.inr:=by
  intro l;induction l with
  | nil=>intro acc;rfl
  | cons k r ih=>
   intro acc;rw[cY,dQ,dQ];have hm:(Sum.inr k:oK)∈acc.map Sum.inr↔k∈acc:=by
    rw[cj];constructor
    .rintro ⟨y,h1,h2⟩;cases h2;exact h1
    .exact λh=>⟨k,h,rfl⟩
   by_cases h:k∈acc
   .rw[b9 h,b9 (hm.mpr h)];exact ih acc
   .rw[bV h,bV λz=>h (hm.mp z)];have:=ih (acc++[k]);rw[cy]at this;exact this
 have:=go ss [];unfold qe;rw[gW]at this;rw[this,bP]
def FI(hc:X.calm=true)(he:PE X e te)(hg1:Gl X "len")(RS:X.mg "len"=none)(hg2:Gl X "set")(R7:X.mg "set"=none)(b1:bootBuiltins "len"=some (.builtin "len"))(b2:bootBuiltins "set"=some (.type "set")) (hs:starEach [e] X.env=[(false,eval e X.env)]:=by rfl):PE X (.Call (.Name "len" p) [.Call (.Name "set" p2) [e] [] TY] [] pos) (JW X.K te):=by
 intro RP s Y H Q I h;refine eK (tq I hg1 RS b1 ?_);refine gU ?_ rfl rfl;show wpAny _ _ (spliced ((false,eval (.Call (.Name "set" p2) [e] [] TY) X.env)::backTo pos (starEach [] X.env))) _ _ s;refine d9 ?_;refine eK (tq I hg2 R7 b2 ?_);refine dF ?_ hs rfl;rw[hs];show wpAny _ _ (spliced ((false,eval e X.env)::backTo TY (starEach [] X.env))) _ _ s;refine d9 (pC (he RP s Y H _ I h) λu s1 ⟨x,H1,I1,r1,a,ss,ex,hq,hb,q⟩=>ft ?_);subst ex;obtain rfl:u=Value.ref a:=r1;have Ss:(ss.map λx=>(Sum.inr x:oK)).length+1<scanBound:=by rw[bP];exact hb
 have RV:∀(h':Heap) (tk:Nat),h'.SetOf (oG X.prog X.w) s1.heap.objs.size (λx=>decide (x∈qe (ss.map λx=>(Sum.inr x:oK)))) (qe (ss.map λx=>(Sum.inr x:oK))).length->(∀b o,s1.heap.get? b=some o->h'.get? b=some o)->
   wpAny (model X.prog X.w) X.A (spliced (backTo pos (starEach [] X.env))) (λvs s₁=>wpAny (model X.prog X.w) X.A (call (.builtin "len") (.ref s1.heap.objs.size::vs)) (EP X RP Y Q) X.xe s₁) X.xe {s1 with heap:=h',toks:=tk}:=λh' tk hS keep=>by
  refine ft ?_;obtain⟨o,es,ep,t,ho,hex,hd,_,_,hz,hf,hn⟩:=hS;have Sf:(es.size:Int)<2 ^ 63:=by have:scanBound=4096:=rfl;lia
  refine call_len_set ho hex hd hf Sf ?_;refine⟨.int es.size,H1,I1.kept keep,⟨_,rfl⟩,?_⟩;rw[hn,H9];exact q
 rcases hq with hq|hq
 .obtain⟨its,r,pl,hz⟩:=I1.list hq;obtain⟨k1,k2⟩:=Ca (P:=X.prog) (w:=X.w) r;exact L2.wD (knd:=oG X.prog X.w) (all:=ss.map λx=>(Sum.inr x:oK)) (I1.ok.hd hc) (.inl pl.isList) (by rw[b7,k1,bP]) (λi v k e1 e2=>k2 i v k (by simpa using e1) e2) Ss RV
 .obtain⟨its,r,pl,hz⟩:=I1.tuple hq;obtain⟨k1,k2⟩:=Ca (P:=X.prog) (w:=X.w) r;exact L2.wD (knd:=oG X.prog X.w) (all:=ss.map λx=>(Sum.inr x:oK)) (I1.ok.hd hc) (.inr pl) (by rw[b7,k1,bP]) (λi v k e1 e2=>k2 i v k (by simpa using e1) e2) Ss RV
end
variable {RP:V0 (Addr × Obj)}{Y:St}{H:Hp}{s:Sd}
theorem Ax(I:Inv X RP Y H s):∀(ts:QXQ) (kvs:V0 (oK×V)),ts.length=kvs.length->(∀(j:Nat) (t:Addr) (p:oK×V),ts[j]?=some t->kvs[j]?=some p->rc X.K H t [kV p.1,p.2])->
  ∃(us:V0 Vl) (all:V0 (oK×Vl)),us.length=kvs.length/\KV kvs all/\∀(j:Nat) (t:Addr) (p:oK×Vl),ts[j]?=some t->all[j]?=some p->∃u,us[j]?=some u/\s.heap.IsTuple t #[u,p.2]/\(oG X.prog X.w).is p.1 u=true
 | [],[],_,_=>⟨[],[],rfl,.nil,λj t p e=>by simp at e⟩
 | [],_::_,h,_=>by simp at h
 | _::_,[],h,_=>by simp at h
 | t::ts,(k,v)::kvs,h,hq=>by
  obtain⟨us,all,h1,h2,h3⟩:=Ax I ts kvs (by simpa using h) (λj t p e1 e2=>hq (j+1) t p (by simpa using e1) (by simpa using e2));obtain⟨its,r,pl,_⟩:=I.tuple (hq 0 t (k,v) (by simp) (by simp));cases r with
  | cons r1 r2=>
   cases r2 with
   | cons r3 r4=>
    cases r4;rename_i u w;refine⟨u::us,(k,w)::all,by simpa using h1,.cons ⟨rfl,r3⟩ h2,λj t' p e1 e2=>?_⟩;cases j with
    | zero=>
     have U3:t=t':=by simpa using e1
     have S7:(k,w)=p:=by simpa using e2
     subst U3 S7;exact⟨u,by simp,pl,B' r1⟩
    | succ j=>simpa using h3 j t' p (by simpa using e1) (by simpa using e2)
theorem Iy:∀{kvs:V0 (oK×V)} {all:V0 (oK×Vl)},KV kvs all->all.map (·.1)=kvs.map (·.1)
 | _,_,.nil=>rfl
 | _,_,.cons r rs=>by rw[cY,cY,Iy rs,r.1]
def D6(hc:X.calm=true):uC X (.type "dict") (λxs H Q=>∃l,∃ts:QXQ,∃kvs:V0 (oK×V),xs=[V.ref l]/\sO X.K H l (ts.map V.ref)/\ts.length=kvs.length/\
  (∀(j:Nat) (t:Addr) (p:oK×V),ts[j]?=some t->kvs[j]?=some p->rc X.K H t [kV p.1,p.2])/\(kvs.map (·.1)).Nodup/\∀d,H d=none->Q (.ref d) (upd H d (.dK kvs))):=by
 intro RP s Y H xs us Q I r h;obtain⟨l,ts,kvs,rfl,hl,R4,hq,hnd,q⟩:=h;obtain⟨u,rfl,ru⟩:=sf r;cases ru;obtain⟨its,rv,⟨⟨c1,d1,t1,sl1⟩,n,g1,e1,e2,e3⟩,hz⟩:=I.list hl;simp only at e1 e2 e3;subst e1 e2 e3;obtain⟨ks,all,h1,h2,h3⟩:=Ax I ts kvs R4 hq;have la:all.length=kvs.length:=(ik h2).symm;have li:its.length=kvs.length:=by rw[<-rv.length,bP,R4]
 have zl:all.length<=sizeLine:=by rw[la,<-R4];simpa using hz
 have at_:∀(j:Nat) (p:oK×Vl),all[j]?=some p->∃t,ts[j]?=some t:=λj p e=>by have:=(bW.mp e).1;exact⟨ts[j],bZ (by lia)⟩
 refine xX (knd:=oG X.prog X.w) (all:=all) (λj=>(ks[j]?).getD .none) (λj=>(ts[j]?).getD 0) (I.ok.hd hc) g1 (λj v e=>?_) (by rw[b7,li,la]) (λj p e=>?_) (λj p e=>?_) zl λh' tk hD keep=>?_
 .have e':its[j]?=some v:=by simpa using e
  have hj:=(bW.mp e').1;have hj2:j<ts.length:=by lia
  obtain⟨w,e4,e5⟩:=rv.get (i:=j) (x:=V.ref ts[j]) (by rw[cD,bZ hj2];rfl);rw[e']at e4;cases e4;show v=Value.ref ((ts[j]?).getD 0);rw[bZ hj2];exact e5
 .obtain⟨t,et⟩:=at_ j p e;obtain⟨u,e4,e5,_⟩:=h3 j t p et e;show s.heap.IsTuple ((ts[j]?).getD 0) #[(ks[j]?).getD .none,p.2];rw[et,e4];exact e5
 .obtain⟨t,et⟩:=at_ j p e;obtain⟨u,e4,_,e6⟩:=h3 j t p et e;show(oG X.prog X.w).is p.1 ((ks[j]?).getD .none)=true;rw[e4];exact e6
 .rw[merged_nil_of_nodup all (by rw[Iy h2];exact hnd)]at hD;have fr:=I.lb.fresh (cq s.heap.objs.size);exact⟨.ref s.heap.objs.size,_,I.laid (t':=tk) (o:=.dK kvs) keep (cq _) (zE (by rw[<-la];exact zl) (dN.mpr (cH (cI I.big))) h2 hD),rfl,q _ fr⟩
def Qn:R2:=λx y H Q=>∃a v,x=.ref a/\BA H a y (some v)/\Q v H
def Li(hu:X.A.units+1<cLine):Oq X Qn:=by
 intro value slice RP s Y H x y o i Q I rx ry h hs;obtain⟨a,v,rfl,g,q⟩:=h;obtain rfl:o=Value.ref a:=rx;have hT:=Cw I g;have h2:wpAny (model X.prog X.w) X.A (getItem (.ref a) i) (EP X RP Y Q) X.xe s:=Fx hu I g ry λw' s3 I3 TN=>⟨v,H,I3,TN,q⟩;unfold subscriptTail;refine bQ ?_;rw[jg hT.not_modules];refine bQ (iY hT iz.lookup ?_);have RV:wpAny (model X.prog X.w) X.A (subscripted slice false (.ref a) i) (λr s₃=>wpAny (model X.prog X.w) X.A (letTemporaryGo value (.ref a) r>>=λ_=>pure r) (EP X RP Y Q) X.xe s₃) X.xe s:=by rw[hs];exact wpAny_operating (de h2 (λr s₃ h₃=>bQ (ju (cf h₃))) λ_ _ x=>x)
 first
  | exact cf (bQ RV)
  | exact bQ (cf (bQ RV))
  | exact bQ RV
variable {prog:Pg}{w:Wo}{A:Ar}{E:QQX}{a:Addr}{U:Type}{k:Str}{tk:Tok}
section
variable {R:U→Vl→Prop}{D:V0 (Str × U)}
def vR(T:KTD.TabOf R s.heap a D):s.TypeIs (.ref a) "dict":=let⟨_,o,_,_,ho,hc,_⟩:=T;⟨o,ho,hc.1⟩
def Fg{Q:Option Vl->Sd->Prop}(T:KTD.TabOf R s.heap a D)(h1:∀d v,KTD.datumAt k D=some d->R d v->Q (some v) {s with toks:=s.toks+1})(h2:KTD.datumAt k D=none->Q none {s with toks:=s.toks+1}):
  wpAny (model prog w) A (dictGet a (.str k tk)) Q E s:=by
 obtain⟨_,o,es,ep,ho,hc,hd,hr⟩:=T;have hq:Q (findBy (λk v=>v.isStr k) es k) {s with toks:=s.toks+1}:=by
  have hf:findBy (λk v=>v.isStr k) es k=(es.toList.find? λe=>e.key.isStr k).map (·.val):=by obtain⟨l⟩:=es;simp[findBy]
  rw[hf];cases hat:KTD.datumAt k D with
  | none=>rw[hr.find_none hat];exact h2 hat
  | some d=>obtain⟨v,hv,hfl⟩:=hr.find_some hat;rw[hv];exact h1 d v hat hfl
 have Sl:(es.all λe=>isExactStrKey e.key)=true:=by
  obtain⟨l⟩:=es
  simpa using hr.exact
 unfold dictGet
 try with_reducible refine dA ?_
 refine bQ (ki (bQ (KTD.kt_dictFind_strs (s:={s with toks:=s.toks+1}) ho hd Sl ?_)));rw[findBy_of_findIdx?]at hq;cases hi:es.findIdx? λe=>e.key.isStr k with
 | none=>rw[hi]at hq;exact cf hq
 | some i=>rw[hi]at hq;exact bQ (wpAny_dictEntries (s:={s with toks:=s.toks+1}) ho hd (cf hq))
def MM{Q:QQX}(T:KTD.TabOf R s.heap a D)(h:Q (.bool (KTD.datumAt k D).isSome) {s with toks:=s.toks+1}):wpAny (model prog w) A (compareOp .In (.str k tk) (.ref a)) Q E s:=by
 have hT:=vR T;show wpAny _ _ (do return .bool (<-contains (.ref a) (.str k tk))) Q E s;refine bQ ?_;unfold contains
 try with_reducible refine dA ?_
 refine bQ (iY hT ie.lookup ?_);show wpAny _ _ (if (some (Value.builtin "dict.__contains__")==some Value.none)=true then _ else _) _ E s;rw[bV (by rw[beq_builtin_none];exact cg)];refine bQ (wpAny_callSpecialUnlessNone?_slot (name:=Str.ofString "__contains__") hT ie (eh ie hT entry_dict_contains ?_ (args_dict_contains _ _)));show wpAny _ _ (dictGet a (.str k tk)>>=_) _ _ s;refine bQ (Fg T (λd v ha _=>?_) λhn=>?_)
 .rw[ha]at h;show wpAny _ _ (ret (.bool true)) _ _ _;exact cf ⟨_,rfl,dB (cf h)⟩
 .rw[hn]at h;show wpAny _ _ (Builtin.Dict.pendingKey? a (.str k tk)>>=_) _ _ _;exact bQ (wpAny_pendingKey_other T.1 (cf ⟨_,rfl,dB (cf h)⟩))
def HL{Q:QQX}{d:U}(T:KTD.TabOf R s.heap a D)(hd:KTD.datumAt k D=some d)(h:∀v,R d v->Q v {s with toks:=s.toks+1}):wpAny (model prog w) A (getItem (.ref a) (.str k tk)) Q E s:=by
 have hT:=vR T;unfold getItem
 try with_reducible refine dA ?_
 refine bQ (iu hT (by decide) ?_);refine bQ (dS (name:=Str.ofString "__getitem__") hT j8 (eh j8 hT entry_dict_getitem ?_ (args_dict_getitem _ _)));show wpAny _ _ (dictGet a (.str k tk)>>=_) _ _ s;refine bQ (Fg T (λd' v ha hv=>cf ⟨v,rfl,cf (h v ?_)⟩) λhn=>?_)
 .rw[hd]at ha;cases ha;exact hv
 .rw[hd]at hn;cases hn
end
def Hu(K:nz)(mg:QQZ)(x:Str)(F:V0 (Str×QQQ)):Prop:=∃a o es ep,mg x=some (.ref a)/\(a==sysModules)=false/\K.lookup a=some o/\o.ExactDict/\o.data=.dict es ep/\
 KTD.Rows (λ(ss:QQQ) v=>∃t,v=Value.ref t/\rc K (λ_=>none) t (ss.map V.str)) es.toList F
variable {x:Str}{F:V0 (Str × QQQ)}
def Fe{K:nz}{t:Addr}{xs:V0 V}{H:Hp}(h:rc K (λ_=>none) t xs):rc K H t xs:=by
 rcases h with(h|⟨o,h⟩)|h
 .cases h
 .cases h
 .exact .inr h
def B8{K:nz}{mg:QQZ}(T:Hu K mg x F):∃a,mg x=some (.ref a)/\∀h:Heap,K.In h->KTD.TabOf (λ(ss:QQQ) v=>∃t,v=Value.ref t/\rc K (λ_=>none) t (ss.map V.str)) h a F:=by obtain⟨a,o,es,ep,h1,h2,h3,h4,h5,h6⟩:=T;exact⟨a,h1,λh hk=>⟨h2,o,es,ep,hk a o h3,h4,h5,h6⟩⟩
noncomputable def Qy(x:Str):It:=⟨λi _=>i<x.cps.size,λi H v H'=>H'=H/\∃c,x.cps[i]?=some c/\v=.str ⟨#[c]⟩,λi _=>i=x.cps.size⟩
def BV{P:Pg}{w:Wo}{K:nz}{tg:Expr}{ty:String}{x:Str}{t:Tok}(it:Addr)(W:∀A':Ar,A'.handled=none->Walks P w A' it [it] [it] x.cps.size (SignAt x) (λi h=>h.IsStrIter it ty x t i)) (hself:∀(A:Ar) (i:Nat) (s:Sd) (Q:QQX) (E:QQX),s.heap.IsStrIter it ty x t i->Q (.ref it) s->wpAny (model P w) A (pyIter (.ref it)) Q E s) (hn:["enumerate","zip","dict_itemiterator","dict_reverseitemiterator","odict_iterator","itertools.zip_longest","itertools.pairwise"].contains ty=false):Ai P w K tg (Qy x) [it] it (λi h=>h.IsStrIter it ty x t i) where
 mem:=by simp
 obj:=λi h st b hb=>by
  obtain rfl:b=it:=by simpa using hb
  obtain⟨o,e,c,d⟩:=st;exact⟨o,e,λv z=>by rw[d]at z;cases z⟩
 keep:=λi h h' st k=>by obtain⟨o,e,r⟩:=st;exact⟨o,k it (by simp) o e,r⟩
 item:=by intro X hP hw hK hc i RP s Y H E I hf st hg;subst hP hw hK;obtain⟨f0,f1,f2,f3,f4,f5⟩:=hf it (by simp);refine(W X.A (I.ok.hd hc)).item i s _ _ hg st λv h' tk hv Tt kp=>?_;obtain⟨c,u,e1,e2⟩:=hv;have I1:Inv X RP Y H {s with heap:=h',toks:=tk}:=I.turned (t':=tk) (λb o hb e=>kp b o (by simpa using hb) e) f0 f1 f3 f4 f5;obtain⟨o,e,cl,d⟩:=id Tt;exact⟨v,rfl,Ez (s:={s with heap:=h',toks:=tk}) e cl d hn ⟨.str ⟨#[c]⟩,H,I1,⟨u,e2⟩,⟨rfl,c,e1,rfl⟩,Tt,λb hb=>(hf b hb).1⟩⟩
 done:=by intro X hP hw hK hc i RP s Y H E I hf st hg;subst hP hw hK;obtain⟨f0,f1,f2,f3,f4,f5⟩:=hf it (by simp);obtain rfl:i=x.cps.size:=hg;exact(W X.A (I.ok.hd hc)).done s _ _ st λh' tk kp=>⟨rfl,I.turned (t':=tk) (λb o hb e=>kp b o (by simpa using hb) e) f0 f1 f3 f4 f5⟩
 self:=hself
variable {tg:Expr}
def K6{l:Expr}{tl:TE}(hc:X.calm=true)(hl:PE X l tl):PI X tg l (λY H R=>tl Y H λx H1=>(∃a,x=.ref a/\(((∃xs,sO X.K H1 a xs)/\R (PZ X.K a) H1)\/((∃xs,rc X.K H1 a xs)/\R (Qr X.K a) H1)))\/∃z,x=.str z/\R (Qy z) H1):=by
 intro RP s Y H R I h;refine pC (hl RP s Y H _ I h) λv s1 zz=>x5 zz λx H1 I1 r1 q1=>?_;rcases q1 with⟨a,e,q1⟩|⟨z,e,q⟩
 .subst e;cases r1;rcases q1 with⟨⟨xs,hq⟩,q⟩|⟨⟨xs,hq⟩,q⟩
  .obtain⟨its,rv,p,hz⟩:=I1.list hq;refine fu p.isList ?_;refine⟨s1.heap.objs.size,[s1.heap.objs.size],_,_,H1,rfl,I1.kept (t':=s1.toks) λb o e=>bX _ e,Gb a _,⟨_,cz _ rfl,rfl,rfl⟩,λb hb=>?_,q⟩;obtain rfl:b=s1.heap.objs.size:=by simpa using hb
   exact I1.lN (cq _) (I1.lb.fresh (cq _))
  .obtain⟨its,rv,p,hz⟩:=I1.tuple hq;refine fP (show s1.heap.IsTuple a its.toArray from p) ?_;refine⟨s1.heap.objs.size,[s1.heap.objs.size],_,_,H1,rfl,I1.kept (t':=s1.toks) λb o e=>bX _ e,DS a _,⟨_,cz _ rfl,rfl,rfl⟩,λb hb=>?_,q⟩;obtain rfl:b=s1.heap.objs.size:=by simpa using hb
   exact I1.lN (cq _) (I1.lb.fresh (cq _))
 .subst e;obtain⟨t,rfl⟩:=r1;have fp:∀b∈[s1.heap.objs.size],wm X RP H1 b:=λb hb=>by
   obtain rfl:b=s1.heap.objs.size:=by simpa using hb
   exact I1.lN (cq _) (I1.lb.fresh (cq _))
  cases ha:z.cps.all (·<128)
  .refine wpAny_pyIter_wide ha ?_;exact⟨s1.heap.objs.size,[s1.heap.objs.size],_,_,H1,rfl,I1.kept (t':=s1.toks) λb o e=>bX _ e,BV _ (λA' hA=>Walks.strWide hA _ z t) (λA i s Q E st h=>wpAny_pyIter_striter_wide st h) (by decide),⟨_,cz _ rfl,rfl,rfl⟩,fp,q⟩
  .refine wpAny_pyIter_ascii ha ?_;exact⟨s1.heap.objs.size,[s1.heap.objs.size],_,_,H1,rfl,I1.kept (t':=s1.toks) λb o e=>bX _ e,BV _ (λA' hA=>Walks.strAscii hA _ z t) (λA i s Q E st h=>wpAny_pyIter_striter_ascii st h) (by decide),⟨_,cz _ rfl,rfl,rfl⟩,fp,q⟩
end L2
namespace L2
inductive yZ{α0:Sort u}{α1:Sort v}(p:α0->α1->Prop):Prop
 | mk (a0:α0) (a1:α1) (h:p a0 a1):yZ p
inductive Ef{α0:Sort u}{α1:Sort v}{α2:Sort w}(p:α0->α1->α2->Prop):Prop
 | mk (a0:α0) (a1:α1) (a2:α2) (h:p a0 a1 a2):Ef p
def x7{α:Sort u}{β:Sort v}{γ:Sort w}{p q r s:α->β->γ->Prop}{C:Prop}(h:Ef λa b c=>p a b c/\q a b c/\r a b c/\s a b c)(f:∀a b c,p a b c->q a b c->r a b c->s a b c->C):C:=by obtain⟨a,b,c,h1,h2,h3,h4⟩:=h;exact f a b c h1 h2 h3 h4
def Bg{α:Sort u}{β:Sort v}{γ:Sort w}{p q r s s1 s2 s3:α->β->γ->Prop}{C:Prop}(h:Ef λa b c=>p a b c/\q a b c/\r a b c/\s a b c/\s1 a b c/\s2 a b c/\s3 a b c)(f:∀a b c,p a b c->q a b c->r a b c->s a b c->s1 a b c->s2 a b c->s3 a b c->C):C:=by obtain⟨a,b,c,h1,h2,h3,h4,h5,h6,h7⟩:=h;exact f a b c h1 h2 h3 h4 h5 h6 h7
inductive Gc{α0:Sort u}{α1:Sort v}{α2:Sort w}{α3:Sort u1}(p:α0->α1->α2->α3->Prop):Prop
 | mk (a0:α0) (a1:α1) (a2:α2) (a3:α3) (h:p a0 a1 a2 a3):Gc p
inductive Ju{α0:Sort u}{α1:Sort v}{α2:Sort w}{α3:Sort u1}{α4:Sort u2}(p:α0->α1->α2->α3->α4->Prop):Prop
 | mk (a0:α0) (a1:α1) (a2:α2) (a3:α3) (a4:α4) (h:p a0 a1 a2 a3 a4):Ju p
inductive QH{α0:Sort u}{α1:Sort v}{α2:Sort w}{α3:Sort u1}{α4:Sort u2}{α5:Sort u3}(p:α0->α1->α2->α3->α4->α5->Prop):Prop
 | mk (a0:α0) (a1:α1) (a2:α2) (a3:α3) (a4:α4) (a5:α5) (h:p a0 a1 a2 a3 a4 a5):QH p
inductive P8{α0:Sort u}{α1:Sort v}{α2:Sort w}{α3:Sort u1}{α4:Sort u2}{α5:Sort u3}{α6:Sort u4}(p:α0->α1->α2->α3->α4->α5->α6->Prop):Prop
 | mk (a0:α0) (a1:α1) (a2:α2) (a3:α3) (a4:α4) (a5:α5) (a6:α6) (h:p a0 a1 a2 a3 a4 a5 a6):P8 p
end L2
namespace L2
open PySem
def tH(a C:Addr)(h:Heap):Prop:=yZ λoe vs=>h.get? a=some oe/\oe.cls=.ref C/\oe.data=.fields vs/\oe.dict=none
def Q5(a C d:Addr)(h:Heap):Prop:=yZ λoe vs=>h.get? a=some oe/\oe.cls=.ref C/\oe.data=.fields vs/\oe.dict=some d
end L2
namespace L3
open L2
inductive D where
 | k9|bl (b:Bool)|int (i:Int)|str (x:Str)|tup (ds:List D)|ref (a:Addr)|ty (n:String)
 | rl (ds:List D)
def Kn(K:nz)(H:Hp)(a:Addr)(xs:V0 V):Prop:=(∃o,H a=some (.frz o (.lst xs)))\/
 ∃(o:Obj) (its:Array Vl) (n:Nat),K.lookup a=some o/\o.cls=.type "list"/\o.dict=none/\o.data=.seq its n/\its.size<=sizeLine/\nI xs its.toList
def Kn.sq{K:nz}{H:Hp}{a:Addr}{xs:V0 V}(h:Kn K H a xs):sO K H a xs:=by
 rcases h with⟨o,h⟩|h
 .exact .inl (.inr ⟨o,h⟩)
 .exact .inr h
mutual
def o9(K:nz)(H:Hp):D->V->Prop
 | .k9,v=>v=.k9
 | .bl b,v=>v=.bl b
 | .int i,v=>v=.int i
 | .str x,v=>v=.str x
 | .ref a,v=>v=.ref a
 | .ty n,v=>v=.ty n
 | .tup ds,v=>∃a xs,v=.ref a/\rc K H a xs/\nq K H ds xs
 | .rl ds,v=>∃a xs,v=.ref a/\Kn K H a xs/\nq K H ds xs
def nq(K:nz)(H:Hp):V0 D->V0 V->Prop
 | [],xs=>xs=[]
 | d::ds,xs=>∃x r,xs=x::r/\o9 K H d x/\nq K H ds r
end
structure nX(K:nz)(H H':Hp):Prop where
 t:∀a xs,rc K H a xs->rc K H' a xs
 f:∀a o xs,H a=some (.frz o (.lst xs))->H' a=some (.frz o (.lst xs))
def nX.refl{K:nz}{H:Hp}:nX K H H:=⟨λ_ _ h=>h,λ_ _ _ h=>h⟩
def nX.trans{K:nz}{H H1 H2:Hp}(a:nX K H H1)(b:nX K H1 H2):nX K H H2:=⟨λc xs h=>b.t c xs (a.t c xs h),λc o xs h=>b.f c o xs (a.f c o xs h)⟩
def nX.upd{K:nz}{H:Hp}{p:Addr}{o:HO}(h:∀xs,¬Rd H p (.tup xs))(h':∀u xs,H p≠some (.frz u (.lst xs))):nX K H (upd H p o):=⟨λa xs q=>by
 rcases q with q|q
 .have ne:a≠p:=λz=>h xs (z ▸ q);rcases q with q|⟨u,q⟩
  .exact .inl (.inl (by rw[ni ne];exact q))
  .exact .inl (.inr ⟨u,by rw[ni ne];exact q⟩)
 .exact .inr q,λa u xs q=>by
 have ne:a≠p:=λz=>h' u xs (z ▸ q);rw[ni ne];exact q⟩
def nX.new{K:nz}{H:Hp}{p:Addr}{o:HO}(h:H p=none):nX K H (L2.upd H p o):=.upd (λxs q=>by
 rcases q with q|⟨u,q⟩<;>(rw[h]at q;cases q)) λu xs q=>by rw[h]at q;cases q
def Kn.mono{K:nz}{H H':Hp}{a:Addr}{xs:V0 V}(e:nX K H H')(h:Kn K H a xs):Kn K H' a xs:=by
 rcases h with⟨o,h⟩|h
 .exact .inl ⟨o,e.f a o xs h⟩
 .exact .inr h
mutual
theorem o9.mono{K:nz}{H H':Hp}(e:nX K H H'):∀{d:D} {v:V},o9 K H d v->o9 K H' d v
 | .k9,_,h=>h
 | .bl _,_,h=>h
 | .int _,_,h=>h
 | .str _,_,h=>h
 | .ref _,_,h=>h
 | .ty _,_,h=>h
 | .tup ds,v,h=>by unfold o9 at h ⊢;obtain⟨a,xs,e1,e2,e3⟩:=h;exact⟨a,xs,e1,e.t _ _ e2,nq.mono e e3⟩
 | .rl ds,v,h=>by unfold o9 at h ⊢;obtain⟨a,xs,e1,e2,e3⟩:=h;exact⟨a,xs,e1,e2.mono e,nq.mono e e3⟩
theorem nq.mono{K:nz}{H H':Hp}(e:nX K H H'):∀{ds:V0 D} {xs:V0 V},nq K H ds xs->nq K H' ds xs
 | [],_,h=>h
 | d::ds,xs,h=>by unfold nq at h ⊢;obtain⟨x,r,e1,e2,e3⟩:=h;exact⟨x,r,e1,o9.mono e e2,nq.mono e e3⟩
end
variable {K:nz}{H H':Hp}
def nq.nil:nq K H [] []:=by unfold nq;rfl
def nq.cons{d:D}{ds:V0 D}{x:V}{xs:V0 V}(a:o9 K H d x)(b:nq K H ds xs):nq K H (d::ds) (x::xs):=by unfold nq;exact⟨x,xs,rfl,a,b⟩
def nq.inv{d:D}{ds:V0 D}{xs:V0 V}(h:nq K H (d::ds) xs):∃x r,xs=x::r/\o9 K H d x/\nq K H ds r:=by unfold nq at h;exact h
def nq.nil_inv{xs:V0 V}(h:nq K H [] xs):xs=[]:=by unfold nq at h;exact h
theorem nq.length:∀{ds:V0 D} {xs:V0 V},nq K H ds xs->ds.length=xs.length
 | [],_,h=>by rw[h.nil_inv];rfl
 | d::ds,_,h=>by obtain⟨x,r,rfl,_,e⟩:=h.inv;simp[nq.length e]
theorem nq.get:∀{ds:V0 D} {xs:V0 V} {i:Nat} {d:D},nq K H ds xs->ds[i]?=some d->∃x,xs[i]?=some x/\o9 K H d x
 | [],_,_,_,_,e=>by simp at e
 | d::ds,_,0,_,h,e=>by obtain⟨x,r,rfl,a,_⟩:=h.inv;simp at e;subst e;exact⟨x,by simp,a⟩
 | d::ds,_,i+1,_,h,e=>by obtain⟨x,r,rfl,_,b⟩:=h.inv;obtain⟨y,e1,e2⟩:=nq.get b (by simpa using e);exact⟨y,by simpa using e1,e2⟩
theorem nq.append:∀{ds es:V0 D} {xs ys:V0 V},nq K H ds xs->nq K H es ys->nq K H (ds++es) (xs++ys)
 | [],_,_,_,h,g=>by rw[h.nil_inv];exact g
 | d::ds,_,_,_,h,g=>by obtain⟨x,r,rfl,a,b⟩:=h.inv;exact .cons a (nq.append b g)
theorem nq.take:∀{ds:V0 D} {xs:V0 V} (n:Nat),nq K H ds xs->nq K H (ds.take n) (xs.take n)
 | _,_,0,_=>by simp only[List.take_zero];exact .nil
 | [],_,n+1,h=>by rw[h.nil_inv];exact .nil
 | d::ds,_,n+1,h=>by obtain⟨x,r,rfl,a,b⟩:=h.inv;exact .cons a (nq.take n b)
theorem nq.drop:∀{ds:V0 D} {xs:V0 V} (n:Nat),nq K H ds xs->nq K H (ds.drop n) (xs.drop n)
 | _,_,0,h=>h
 | [],_,n+1,h=>by rw[h.nil_inv];exact .nil
 | d::ds,_,n+1,h=>by obtain⟨x,r,rfl,a,b⟩:=h.inv;exact nq.drop n b
def nq.snoc{ds:V0 D}{xs:V0 V}{d:D}{x:V}(h:nq K H ds xs)(a:o9 K H d x):nq K H (ds++[d]) (xs++[x]):=h.append (.cons a .nil)
theorem nq.ints:∀{ns:V0 Int},nq K H (ns.map D.int) (ns.map V.int)
 | []=>.nil
 | n::r=>.cons (by unfold o9;rfl) nq.ints
def o9.tup{ds:V0 D}{a:Addr}{xs:V0 V}(q:rc K H a xs)(h:nq K H ds xs):o9 K H (.tup ds) (.ref a):=by unfold o9;exact⟨a,xs,rfl,q,h⟩
def o9.k8{ds:V0 D}{v:V}(h:o9 K H (.tup ds) v):∃a xs,v=.ref a/\rc K H a xs/\nq K H ds xs:=by unfold o9 at h;exact h
def o9.lj{ds:V0 D}{v:V}(h:o9 K H (.rl ds) v):∃a xs,v=.ref a/\Kn K H a xs/\nq K H ds xs:=by unfold o9 at h;exact h
def o9.int{i:Int}:o9 K H (.int i) (.int i):=by unfold o9;rfl
def o9.bl{i:Bool}:o9 K H (.bl i) (.bl i):=by unfold o9;rfl
def o9.str{i:Str}:o9 K H (.str i) (.str i):=by unfold o9;rfl
def o9.ref{i:Addr}:o9 K H (.ref i) (.ref i):=by unfold o9;rfl
def o9.k9:o9 K H .k9 .k9:=by unfold o9;rfl
def o9.int_inv{i:Int}{v:V}(h:o9 K H (.int i) v):v=.int i:=by unfold o9 at h;exact h
def o9.k7{i:Bool}{v:V}(h:o9 K H (.bl i) v):v=.bl i:=by unfold o9 at h;exact h
def o9.str_inv{i:Str}{v:V}(h:o9 K H (.str i) v):v=.str i:=by unfold o9 at h;exact h
def o9.kX{i:Addr}{v:V}(h:o9 K H (.ref i) v):v=.ref i:=by unfold o9 at h;exact h
def o9.lK{i:String}{v:V}(h:o9 K H (.ty i) v):v=.ty i:=by unfold o9 at h;exact h
def o9.kZ{v:V}(h:o9 K H .k9 v):v=.k9:=by unfold o9 at h;exact h
inductive s9 where
 | lst (ds:List D)
 | ins (C:Addr) (fs:List (Str×D))
 | dk (kvs:List (oK×D))
 | exc (φ:Heap->Prop)
 | fd (ob:Obj) (kvs:List (oK×D))
abbrev Mp:=Addr->Option s9
noncomputable def mS(M:Mp)(a:Addr)(c:s9):Mp:=λb=>if b=a then some c else M b
def m7{M:Mp}{a:Addr}{c:s9}:mS M a c a=some c:=by unfold mS;rw[b9 rfl]
def pL{M:Mp}{a b:Addr}{c:s9}(h:b≠a):mS M a c b=M b:=by unfold mS;rw[bV h]
def oF{M:Mp}{a:Addr}{c d:s9}:mS (mS M a c) a d=mS M a d:=by funext b;unfold mS;split<;>rfl
def HB{M:Mp}{a b:Addr}{c:s9}(h:M a=some c)(h':M b=none):a≠b:=by intro e;subst e;rw[h]at h';cases h'
def zy(K:nz)(H:Hp)(fs:V0 (Str×D))(vs:V0 (Str×V)):Prop:=vs.map (·.1)=fs.map (·.1)/\nq K H (fs.map (·.2)) (vs.map (·.2))
def uS(K:nz)(H:Hp)(a:Addr):s9->Prop
 | .lst ds=>∃xs,H a=some (.lst xs)/\nq K H ds xs
 | .ins C fs=>∃dx vs,H a=some (.ins C dx vs)/\Cls K C/\(∀f,f∈fs.map (·.1)->ra K C f)/\zy K H fs vs
 | .dk kvs=>∃vs,H a=some (.dK vs)/\vs.map (·.1)=kvs.map (·.1)/\nq K H (kvs.map (·.2)) (vs.map (·.2))
 | .exc φ=>H a=some (.ext φ)
 | .fd ob kvs=>∃vs,H a=some (.frz ob (.dK vs))/\vs.map (·.1)=kvs.map (·.1)/\nq K H (kvs.map (·.2)) (vs.map (·.2))
def HM(K:nz)(H:Hp)(M:Mp):Prop:=∀a c,M a=some c->uS K H a c
variable {M:Mp}
def zy.mono{fs:V0 (Str×D)}{vs:V0 (Str×V)}(e:nX K H H')(h:zy K H fs vs):zy K H' fs vs:=⟨h.1,h.2.mono e⟩
def uS.keep{a:Addr}{c:s9}(e:nX K H H')(k:H' a=H a)(h:uS K H a c):uS K H' a c:=by
 cases c with
 | lst ds=>obtain⟨xs,e1,e2⟩:=h;exact⟨xs,by rw[k];exact e1,e2.mono e⟩
 | ins C fs=>obtain⟨dx,vs,e1,c,n,e2⟩:=h;exact⟨dx,vs,by rw[k];exact e1,c,n,e2.mono e⟩
 | dk kvs=>obtain⟨vs,e1,e2,e3⟩:=h;exact⟨vs,by rw[k];exact e1,e2,e3.mono e⟩
 | exc C=>exact k.trans h
 | fd ob kvs=>obtain⟨vs,e1,e2,e3⟩:=h;exact⟨vs,by rw[k];exact e1,e2,e3.mono e⟩
def uS.there{a:Addr}{c:s9}(h:uS K H a c):∃o,H a=some o/\(∀xs,¬Rd H a (.tup xs))/\∀u xs,H a≠some (.frz u (.lst xs)):=by
 have go:∀o,H a=some o->(∀xs,o≠.tup xs)->(∀u v,o≠.frz u v)->∃o,H a=some o/\(∀xs,¬Rd H a (.tup xs))/\∀u xs,H a≠some (.frz u (.lst xs)):=λo e n1 n2=>⟨o,e,λxs q=>by
  rcases q with q|⟨u,q⟩
  .rw[e]at q;exact n1 xs (ce q)
  .rw[e]at q;exact n2 u _ (ce q),λu xs q=>by rw[e]at q;exact n2 u _ (ce q)⟩
 cases c with
 | lst ds=>obtain⟨xs,e1,e2⟩:=h;exact go _ e1 (λ_ z=>by cases z) λ_ _ z=>by cases z
 | ins C fs=>obtain⟨dx,vs,e1,e2⟩:=h;exact go _ e1 (λ_ z=>by cases z) λ_ _ z=>by cases z
 | dk kvs=>obtain⟨vs,e1,e2,e3⟩:=h;exact go _ e1 (λ_ z=>by cases z) λ_ _ z=>by cases z
 | exc C=>exact go _ h (λ_ z=>by cases z) λ_ _ z=>by cases z
 | fd ob kvs=>obtain⟨vs,e1,_⟩:=h;exact⟨_,e1,λxs q=>by rcases q with q|⟨u,q⟩<;>(rw[e1]at q;cases q),λu xs q=>by rw[e1]at q;cases q⟩
def HM.fresh(h:HM K H M){p:Addr}(n:H p=none):M p=none:=by
 cases e:M p with
 | none=>rfl
 | some c=>obtain⟨o,q,_⟩:=(h p c e).there;rw[n]at q;cases q
def HM.keep(h:HM K H M)(e:nX K H H')(k:∀a c,M a=some c->H' a=H a):HM K H' M:=λa c q=>(h a c q).keep e (k a c q)
def HM.add(h:HM K H M){p:Addr}{o:HO}(n:H p=none):HM K (upd H p o) M:=h.keep (.new n) λa c q=>by obtain⟨u,e,_⟩:=(h a c q).there;rw[ni (n9 e n)]
def HM.new(h:HM K H M){p:Addr}{o:HO}{c:s9}(n:H p=none)(ok:uS K (upd H p o) p c):HM K (upd H p o) (mS M p c):=λa d q=>by
 by_cases e:a=p
 .subst e;rw[m7]at q;cases q;exact ok
 .rw[pL e]at q;exact h.add n a d q
def HM.put(h:HM K H M){p:Addr}{o:HO}{c c0:s9}(e0:M p=some c0)(ok:nX K H (upd H p o)->uS K (upd H p o) p c):HM K (upd H p o) (mS M p c)/\nX K H (upd H p o):=by
 obtain⟨u,eu,nt,nf⟩:=(h p c0 e0).there;have x:nX K H (upd H p o):=.upd nt nf;refine⟨λa d q=>?_,x⟩;by_cases e:a=p
 .subst e;rw[m7]at q;cases q;exact ok x
 .rw[pL e]at q;exact(h a d q).keep x (ni e)
abbrev St:=L2.St
abbrev rH:=V0 (Option D)
abbrev DK:=D->Mp->Prop
abbrev T3:=rH->Mp->DK->Prop
abbrev xJ:=rH->Mp->(Bool->Mp->Prop)->Prop
abbrev rM:=rH->Mp->(V0 D->Mp->Prop)->Prop
structure yE where
 nx:rH->Mp->Prop
 rt:DK
 bk:rH->Mp->Prop:=λ_ _=>False
 ct:rH->Mp->Prop:=λ_ _=>False
abbrev rO:=yE->rH->Mp->Prop
def vO(K:nz)(H:Hp)(Y:St)(U:rH):Prop:=∀(i:Nat) (d:D),U[i]?=some (some d)->∃v,Y[i]?=some (some v)/\o9 K H d v
def vO.mono{K:nz}{H H':Hp}{Y:St}{U:rH}(e:nX K H H')(h:vO K H Y U):vO K H' Y U:=λi d q=>by obtain⟨v,e1,e2⟩:=h i d q;exact⟨v,e1,e2.mono e⟩
def vO.set{K:nz}{H:Hp}{Y:St}{U:rH}{i:Nat}{d:D}{v:V}(h:vO K H Y U)(hv:o9 K H d v)(hi:i<Y.length):vO K H (Y.set i (some v)) (U.set i (some d)):=λj e q=>by
 by_cases hj:j=i
 .subst hj;rw[dX hi];by_cases hl:j<U.length
  .rw[dX hl]at q;cases q;exact⟨v,rfl,hv⟩
  .rw[fT (by simpa using hl)]at q;cases q
 .rw[eQ (cH hj)]at q ⊢;exact h j e q
def lo(K:nz)(t:T3):TE:=λY H Q'=>Ef λU M Q=>vO K H Y U/\HM K H M/\t U M Q/\∀v H' d M',o9 K H' d v->HM K H' M'->nX K H H'->Q d M'->Q' v H'
def MT(K:nz)(t:xJ):TT:=λY H Q'=>Ef λU M Q=>vO K H Y U/\HM K H M/\t U M Q/\∀b H' M',HM K H' M'->nX K H H'->Q b M'->Q' b H'
def Rx(K:nz)(t:rM):TA:=λY H Q'=>Ef λU M Q=>vO K H Y U/\HM K H M/\t U M Q/\∀vs H' ds M',nq K H' ds vs->HM K H' M'->nX K H H'->Q ds M'->Q' vs H'
def GU(K:nz)(t:rO):TS:=λD' Y H=>Ef λU M D=>vO K H Y U/\HM K H M/\t D U M/\(∀σ' H' δ' M',vO K H' σ' δ'->HM K H' M'->nX K H H'->σ'.length=Y.length->D.nx δ' M'->D'.nx σ' H')/\
 (∀v H' d M',o9 K H' d v->HM K H' M'->nX K H H'->D.rt d M'->D'.rt v H')/\(∀σ' H' δ' M',vO K H' σ' δ'->HM K H' M'->nX K H H'->σ'.length=Y.length->D.bk δ' M'->D'.bk σ' H')/\
 (∀σ' H' δ' M',vO K H' σ' δ'->HM K H' M'->nX K H H'->σ'.length=Y.length->D.ct δ' M'->D'.ct σ' H')
def E3(X:Cx)(e:Expr)(t:T3):Prop:=PE X e (lo X.K t)
def B3(X:Cx)(e:Expr)(t:xJ):Prop:=PT X e (MT X.K t)
def A3(X:Cx)(es:V0 Expr)(t:rM):Prop:=PA X es (Rx X.K t)
def S3(X:Cx)(st:Stmt)(t:rO):Prop:=PS X st (GU X.K t)
def zP(X:Cx)(st:V0 Stmt)(t:rO):Prop:=yk X st (GU X.K t)
def PE.mono{X:Cx}{e:Expr}{t t':TE}(h:PE X e t)(m:∀Y H Q,t' Y H Q->t Y H Q):PE X e t':=λRP s Y H Q I q=>h RP s Y H Q I (m Y H Q q)
def PT.mono{X:Cx}{e:Expr}{t t':TT}(h:PT X e t)(m:∀Y H Q,t' Y H Q->t Y H Q):PT X e t':=λRP s Y H Q I q=>h RP s Y H Q I (m Y H Q q)
def PA.mono{X:Cx}{e:V0 Expr}{t t':TA}(h:PA X e t)(m:∀Y H Q,t' Y H Q->t Y H Q):PA X e t':=λpos RP s Y H Q I q=>h pos RP s Y H Q I (m Y H Q q)
def PS.mono{X:Cx}{e:Stmt}{t t':TS}(h:PS X e t)(m:∀D Y H,t' D Y H->t D Y H):PS X e t':=λRP s Y H D I q=>h RP s Y H D I (m D Y H q)
def yk.mono{X:Cx}{e:V0 Stmt}{t t':TS}(h:yk X e t)(m:∀D Y H,t' D Y H->t D Y H):yk X e t':=λRP s Y H D I q=>h RP s Y H D I (m D Y H q)
def PS.lG{X:Cx}{e:Stmt}{t t':TS}(h:PS X e t)(m:∀D Y H,Y.length=X.N.length->t' D Y H->t D Y H):PS X e t':=λRP s Y H D I q=>h RP s Y H D I (m D Y H I.len q)
def qK{K:nz}{H H1:Hp}{Q':VK}{Q:DK}(x:nX K H H1)(f:∀v H' d M',o9 K H' d v->HM K H' M'->nX K H H'->Q d M'->Q' v H'):∀v H' d M',o9 K H' d v->HM K H' M'->nX K H1 H'->Q d M'->Q' v H':=
 λv H' d M' a b c e=>f v H' d M' a b (x.trans c) e
variable {X:Cx}{pos:Pos}
def v3(i:Nat):T3:=λU M Q=>(U.getD i none).elim False λd=>Q d M
def FK{U:rH}{i:Nat}{P:D->Prop}(h:(U.getD i none).elim False P):∃d,U[i]?=some (some d)/\P d:=by
 cases e:U[i]? with
 | none=>rw[ip,e]at h;exact h.elim
 | some o=>
  rw[ip,e]at h;cases o with
  | none=>exact h.elim
  | some d=>exact⟨d,rfl,h⟩
def MZ(i:Nat){x:Str}(h:PE X (.Name x pos) (MO i)):E3 X (.Name x pos) (v3 i):=PE.mono h λY H Q' zz=>x7 zz λU M Q hs hm ht k=>by obtain⟨d,e,q⟩:=FK ht;obtain⟨v,e1,e2⟩:=hs i d e;exact⟨v,e1,k v H d M e2 hm .refl q⟩
def c3(d:D):T3:=λ_ M Q=>Q d M
def mE{i j}:E3 X (.Constant (.int i) j pos) (c3 (.int i)):=PE.mono MV λY H Q' zz=>x7 zz λU M Q hs hm ht k=>k _ H _ M .int hm .refl ht
def sH{i j}:E3 X (.Constant (.bool i) j pos) (c3 (.bl i)):=PE.mono PP λY H Q' zz=>x7 zz λU M Q hs hm ht k=>k _ H _ M .bl hm .refl ht
def mK{i j}:E3 X (.Constant (.str i) j pos) (c3 (.str i)):=PE.mono Ob λY H Q' zz=>x7 zz λU M Q hs hm ht k=>k _ H _ M .str hm .refl ht
def AU{j}:E3 X (.Constant .none j pos) (c3 .k9):=PE.mono N9 λY H Q' zz=>x7 zz λU M Q hs hm ht k=>k _ H _ M .k9 hm .refl ht
def Be{x:Str}{a:Addr}(hg:Gl X x)(hm:X.mg x=some (.ref a))(hd:vq x:=by decide):E3 X (.Name x pos) (c3 (.ref a)):=
 PE.mono (yq (v:=.ref a) hg hm rfl hd) λY H Q' zz=>x7 zz λU M Q hs hm ht k=>k _ H _ M .ref hm .refl ht
def ES{x:Str}{n:String}(hg:Gl X x)(hm:X.mg x=none)(hv:bootBuiltins x=some (.type n))(hn:x≠"__name__":=by decide)(hd:vq x:=by decide):E3 X (.Name x pos) (c3 (.ty n)):=
 PE.mono (JX (v:=.ty n) hg hm hv rfl hn hd) λY H Q' zz=>x7 zz λU M Q hs hm ht k=>k _ H _ M (by unfold o9;rfl) hm .refl ht
noncomputable def lO(M:Mp)(a:Addr):Option (V0 D):=match M a with
 | some (.lst ds)=>some ds
 | _=>none
noncomputable def vM(x:Str)(n:Int):Str:=⟨(List.replicate n.toNat x.cps).foldl (·++·) #[]⟩
def Q4(op:Operator)(x y:D)(M:Mp)(Q:DK):Prop:=match op,x,y with
 | .Add,.int i,.int j=>Q (.int (i+j)) M
 | .Add,.str i,.str j=>i.length+j.length<=sizeLine/\Q (.str (i++j)) M
 | .Add,.tup i,.tup j=>i≠[]/\i.length+j.length<=sizeLine/\Q (.tup (i++j)) M
 | .Add,.ref a,.ref b=>(lO M a).elim False λi=>(lO M b).elim False λj=>i.length+j.length<=sizeLine/\∀p,M p=none->Q (.ref p) (mS M p (.lst (i++j)))
 | .Add,.rl i,.ref b=>(lO M b).elim False λj=>i.length+j.length<=sizeLine/\∀p,M p=none->Q (.ref p) (mS M p (.lst (i++j)))
 | .Sub,.int i,.int j=>Q (.int (i - j)) M
 | .Mult,.int i,.int j=>zR i j/\Q (.int (i*j)) M
 | .Mult,.str i,.int j=>(j<4096/\-4096<j/\i.length<4096)/\Q (.str (vM i j)) M
 | .FloorDiv,.int i,.int j=>OP i j/\Q (.int (i / j)) M
 | .Mod,.int i,.int j=>0<j/\Q (.int (i % j)) M
 | _,_,_=>False
def o3(op:Operator)(ta tb:T3):T3:=λU M Q=>ta U M λx M1=>tb U M1 λy M2=>Q4 op x y M2 Q
def Up(K:nz)(H:Hp)(Q':VK)(Q:DK):Prop:=∀v H' d M',o9 K H' d v->HM K H' M'->nX K H H'->Q d M'->Q' v H'
variable {ta tb:T3}
section
def mU{K:nz}{H:Hp}{M:Mp}{a:Addr}{ds:V0 D}(hm:HM K H M)(h:lO M a=some ds):∃xs,sO K H a xs/\nq K H ds xs/\Rd H a (.lst xs):=by
 unfold lO at h;cases e:M a with
 | none=>rw[e]at h;cases h
 | some c=>
  rw[e]at h;have ok:=hm a c e;cases c with
  | lst es=>cases h;obtain⟨xs,e1,e2⟩:=ok;exact⟨xs,.inl (.inl e1),e2,.inl e1⟩
  | ins _ _=>cases h
  | dk _=>cases h
  | exc _=>cases h
  | fd _ _=>cases h
def nU{α:Type}{o:Option α}{P:α->Prop}(h:o.elim False P):∃a,o=some a/\P a:=by
 cases o with
 | none=>exact h.elim
 | some a=>exact⟨a,rfl,h⟩
def EY:ul X (binaryOp .Add) (λx y H Q=>∃l b xs zs,x=.ref l/\y=.ref b/\sO X.K H l xs/\sO X.K H b zs/\xs.length+zs.length<=sizeLine/\∀p,H p=none->Q (.ref p) (upd H p (.lst (xs++zs)))):=by
 intro RP s Y H x y v u Q I rx ry h;obtain⟨l,b,xs,zs,rfl,rfl,hH,hB,hz,q⟩:=h;cases rx;cases ry;obtain⟨its,r,⟨⟨c1,d1,t1,sl1⟩,n,g1,e1,_,f1⟩,_⟩:=I.list hH;obtain⟨Sy,r2,⟨⟨c2,d2,t2,sl2⟩,m,g2,e2,_,f2⟩,_⟩:=I.list hB;simp only at e1 f1 e2 f2;subst e1 f1 e2 f2;have hl:=r.length;have hl2:=r2.length;refine jQ ⟨_,g1,rfl⟩ ⟨_,g2,rfl⟩ noFill_list_add seq_list_add PySem.F.slot_list_add PySem.F.entry_list_add (PySem.F.args_list_add_2 _ _) (list_addW l b its.toArray Sy.toArray n m d1 d2 sl1 sl2 (by rw[b7,b7];lia)) ⟨g1,g2,?_⟩;have ea:its.toArray++Sy.toArray=(its++Sy).toArray:=by simp
 rw[ea];exact⟨.ref _,_,I.mh (t':=s.toks) (r.append r2) (by rw[bS];lia),rfl,q _ I.fresh⟩
def yw(x:Array Nat):∀k,((List.replicate k x).foldl (·++·) #[]:Array Nat).size=k*x.size:=by
 have go:∀(k:Nat) (acc:Array Nat),((List.replicate k x).foldl (·++·) acc).size=acc.size+k*x.size:=by
  intro k;induction k with
  | zero=>intro acc;simp
  | succ k ih=>intro acc;rw[dm,dQ,ih,j9,iI];lia
 intro k;rw[go];simp
def Ki:ul X (binaryOp .Mult) (λx y H Q=>∃i j,x=.str i/\y=.int j/\(j<4096/\-4096<j/\i.length<4096)/\Q (.str (vM i j)) H):=by
 intro RP s Y H x y v u Q I rx ry h;obtain⟨i,j,rfl,rfl,⟨h1,h2,h3⟩,q⟩:=h;obtain⟨t,rfl⟩:=rx;obtain⟨t',rfl⟩:=ry;refine PySem.P.mul_str ?_ ?_ ?_ ?_
 .rw[cS (by lia),cS (by lia)];rfl
 .intro h0 _;have:(4096:Int)<=(2 ^ 63 - 1) / j:=by
   have:(4096:Int)*j<=2 ^ 63 - 1:=by lia
   exact(Int.le_ediv_iff_mul_le (by lia)).mpr this
  lia
 .intro h0 _;have hm:i.length*j.toNat<=4096*4096:=gC (by lia) (by lia);have hz:=cP;unfold Builtin.Str.tooLong;exact cS (by lia)
 .by_cases h0:j<1
  .rw[b9 h0];have e:vM i j=Str.empty:=by unfold vM;rw[show j.toNat=0 by lia];rfl
   rw[e]at q;exact⟨by decide,⟨.str Str.empty,H,I.tok _,⟨_,rfl⟩,q⟩⟩
  .rw[bV h0];by_cases hj:(j==1||i.length==0)=true
   .rw[b9 hj];have e:vM i j=i:=by
     have UH:j=1\/i.length=0:=by simpa using hj
     unfold vM;rcases UH with z|z
     .subst z;show(⟨#[]++i.cps⟩:Str)=i;simp
     .have ec:i.cps=#[]:=Array.size_eq_zero_iff.mp z;have er:∀k:Nat,((List.replicate k (#[]:Array Nat)).foldl (·++·) #[]:Array Nat)=#[]:=by
       intro k;induction k with
       | zero=>rfl
       | succ k ih=>rw[dm,dQ];simpa using ih
      rw[ec,er,<-ec]
    rw[e]at q;exact⟨.str i,H,I,⟨t,rfl⟩,q⟩
   .rw[bV hj];refine⟨?_,⟨.str _,H,I.tok _,⟨_,rfl⟩,q⟩⟩;have hz:=cP;have hm:j.toNat*i.length<=4096*4096:=gC (by lia) (by lia);show((List.replicate j.toNat i.cps).foldl (·++·) #[]:Array Nat).size<=_;rw[yw];have Tw:j.toNat*i.cps.size<=4096*4096:=hm;lia
def R3(K:nz)(f:D->D->Mp->DK->Prop):R2:=λvx vy H Q'=>Gc λx y M Q=>o9 K H x vx/\o9 K H y vy/\HM K H M/\f x y M Q/\Up K H Q' Q
def RA(op:Operator):ul X (binaryOp op) (R3 X.K (Q4 op)):=by
 intro RP s Y H vx vy v u Q' I rx ry h;obtain⟨x,y,M,Q,hx,hy,hm,q,k⟩:=h;unfold Q4 at q;split at q
 .cases hx.int_inv;cases hy.int_inv;exact NL RP s Y H _ _ v u Q' I rx ry ⟨_,_,rfl,rfl,k _ _ _ _ .int hm .refl q⟩
 .cases hx.str_inv;cases hy.str_inv;exact De RP s Y H _ _ v u Q' I rx ry ⟨_,_,rfl,rfl,q.1,k _ _ _ _ .str hm .refl q.2⟩
 .rename_i i j;obtain⟨q1,q2,q3⟩:=q;obtain⟨a,xs,rfl,ha,TJ⟩:=hx.k8;obtain⟨b,ys,rfl,hb,Ss⟩:=hy.k8;have l1:=TJ.length;have l2:=Ss.length;refine J8 RP s Y H _ _ v u Q' I rx ry ⟨a,b,xs,ys,rfl,rfl,ha,hb,λz=>q1 (by rw[z]at l1;exact gF.mp l1),by lia,λz=>?_,λz p hp=>?_⟩
  .refine k _ _ _ _ (.tup ha ?_) hm .refl q3;rw[z]at Ss;have e0:j=[]:=gF.mp (by simpa using Ss.length);rw[e0,cJ];exact TJ
  .have e:nX X.K H (upd H p (.tup (xs++ys))):=.new hp;exact k _ _ _ _ (.tup (.of m9) ((TJ.append Ss).mono e)) (hm.add hp) e q3
 .obtain⟨i,ei,q⟩:=nU q;obtain⟨j,ej,q1,q2⟩:=nU q;cases hx.kX;cases hy.kX;obtain⟨xs,rx',U4,_⟩:=mU hm ei;obtain⟨ys,ry',So,_⟩:=mU hm ej;have l1:=U4.length;have l2:=So.length;refine EY RP s Y H _ _ v u Q' I rx ry ⟨_,_,xs,ys,rfl,rfl,rx',ry',by lia,λp hp=>?_⟩;have e:nX X.K H (upd H p (.lst (xs++ys))):=.new hp;exact k _ _ _ _ .ref (hm.new (c:=.lst (i++j)) hp ⟨_,m9,(U4.append So).mono e⟩) e (q2 p (hm.fresh hp))
 .obtain⟨j,ej,q1,q2⟩:=nU q;obtain⟨l,xs,rfl,rx',U4⟩:=hx.lj;cases hy.kX;obtain⟨ys,ry',So,_⟩:=mU hm ej;have l1:=U4.length;have l2:=So.length;refine EY RP s Y H _ _ v u Q' I rx ry ⟨_,_,xs,ys,rfl,rfl,rx'.sq,ry',by lia,λp hp=>?_⟩;have e:nX X.K H (upd H p (.lst (xs++ys))):=.new hp;exact k _ _ _ _ .ref (hm.new (c:=.lst (_++j)) hp ⟨_,m9,(U4.append So).mono e⟩) e (q2 p (hm.fresh hp))
 .cases hx.int_inv;cases hy.int_inv;exact Na RP s Y H _ _ v u Q' I rx ry ⟨_,_,rfl,rfl,k _ _ _ _ .int hm .refl q⟩
 .cases hx.int_inv;cases hy.int_inv;exact Nt RP s Y H _ _ v u Q' I rx ry ⟨_,_,rfl,rfl,q.1,k _ _ _ _ .int hm .refl q.2⟩
 .cases hx.str_inv;cases hy.int_inv;exact Ki RP s Y H _ _ v u Q' I rx ry ⟨_,_,rfl,rfl,q.1,k _ _ _ _ .str hm .refl q.2⟩
 .cases hx.int_inv;cases hy.int_inv;exact JI RP s Y H _ _ v u Q' I rx ry ⟨_,_,rfl,rfl,q.1,k _ _ _ _ .int hm .refl q.2⟩
 .cases hx.int_inv;cases hy.int_inv;exact MR RP s Y H _ _ v u Q' I rx ry ⟨_,_,rfl,rfl,q.1,k _ _ _ _ .int hm .refl q.2⟩
 .exact q.elim
variable {a b:Expr}
def CK{f:D->D->Mp->DK->Prop}:∀Y H Q',lo X.K (λU M Q=>ta U M λx M1=>tb U M1 λy M2=>f x y M2 Q) Y H Q'->Pd (R3 X.K f) (lo X.K ta) (lo X.K tb) Y H Q':=λY H Q' zz=>x7 zz λU M Q hs hm ht k=>⟨U,M,_,hs,hm,ht,λv H1 x M1 hx RS e1 q1=>⟨U,M1,_,hs.mono e1,RS,q1,λu H2 y M2 hy R7 e2 q2=>⟨x,y,M2,Q,hx.mono e2,hy,R7,q2,qK (e1.trans e2) k⟩⟩⟩
def mL{op:Operator}(ha:E3 X a ta)(hb:E3 X b tb):E3 X (.BinOp a op b pos) (o3 op ta tb):=PE.mono (Ig (RA op) ha hb) CK
end
noncomputable def qZ(f:D->D->Option Bool):V0 D->V0 D->Option Bool
 | x::a,y::b=>(f x y).bind λp=>(qZ f a b).map λq=>p&&q
 | _,_=>some true
noncomputable def E2(M:Mp):Nat->D->D->Option Bool
 | 0,_,_=>none
 | n+1,x,y=>match x,y with
  | .k9,.k9=>some true
  | .bl a,.bl b=>some (a==b)
  | .int a,.int b=>some (a==b)
  | .str a,.str b=>some (a==b)
  | .k9,.bl _=>some false
  | .k9,.int _=>some false
  | .k9,.str _=>some false
  | .bl _,.k9=>some false
  | .bl _,.str _=>some false
  | .int _,.k9=>some false
  | .int _,.str _=>some false
  | .str _,.k9=>some false
  | .str _,.bl _=>some false
  | .str _,.int _=>some false
  | .tup a,.tup b=>(qZ (E2 M n) a b).map λp=>p&&a.length==b.length
  | .ref a,.ref b=>(lO M a).bind λi=>(lO M b).bind λj=>if i.length=j.length then qZ (E2 M n) i j else some false
  | _,_=>none
variable {RP:V0 (Addr × Obj)}{Y:St}{s:Sd}
theorem vX{f:D->D->Option Bool}:∀{ds es:V0 D} {xs:V0 V} {b:Bool},nq X.K H ds xs->nq X.K H es xs->(∀x y v b,o9 X.K H x v->o9 X.K H y v->f x y=some b->b=true)->qZ f ds es=some b->b=true
 | [],[],_,_,_,_,_,e=>(ce e).symm
 | [],_::_,_,_,h,g,_,_=>by have h1:=h.length;have h2:=g.length;rw[<-h1]at h2;simp at h2
 | _::_,[],_,_,h,g,_,_=>by have h1:=h.length;have h2:=g.length;rw[<-h1]at h2;simp at h2
 | d::ds,e::es,xs,b,h,g,k,q=>by
  obtain⟨x,r,rfl,h1,h2⟩:=h.inv;obtain⟨x',r',e',g1,g2⟩:=g.inv;cases e';unfold qZ at q;cases p1:f d e with
  | none=>rw[p1]at q;cases q
  | some b1=>
   rw[p1]at q;cases p2:qZ f ds es with
   | none=>rw[p2]at q;cases q
   | some b2=>rw[p2]at q;have q':(b1&&b2)=b:=ce q;rw[<-q',k _ _ _ _ h1 g1 p1,vX h2 g2 k p2];rfl
theorem wb(I:Inv X RP Y H s)(hm:HM X.K H M):∀(n:Nat) (x y:D) (v:V) (b:Bool),o9 X.K H x v->o9 X.K H y v->E2 M n x y=some b->b=true
 | 0,_,_,_,_,_,_,e=>by cases e
 | n+1,x,y,v,b,hx,hy,e=>by
  unfold E2 at e;split at e
  .exact(ce e).symm
  .rw[hx.k7]at hy;cases hy.k7;exact(ce e).symm.trans (by simp)
  .rw[hx.int_inv]at hy;cases hy.int_inv;exact(ce e).symm.trans (by simp)
  .rw[hx.str_inv]at hy;cases hy.str_inv;exact(ce e).symm.trans (by simp)
  .rw[hx.kZ]at hy;cases hy.k7
  .rw[hx.kZ]at hy;cases hy.int_inv
  .rw[hx.kZ]at hy;cases hy.str_inv
  .rw[hx.k7]at hy;cases hy.kZ
  .rw[hx.k7]at hy;cases hy.str_inv
  .rw[hx.int_inv]at hy;cases hy.kZ
  .rw[hx.int_inv]at hy;cases hy.str_inv
  .rw[hx.str_inv]at hy;cases hy.kZ
  .rw[hx.str_inv]at hy;cases hy.k7
  .rw[hx.str_inv]at hy;cases hy.int_inv
  .obtain⟨a,xs,rfl,h1,h2⟩:=hx.k8;obtain⟨a',ys,e',g1,g2⟩:=hy.k8;cases e';rw[I.lm g1 h1]at g2;cases p:qZ (E2 M n) _ _ with
   | none=>rw[p]at e;cases e
   | some b1=>rw[p]at e;have e':=ce e;rw[<-e',vX h2 g2 (wb I hm n) p,h2.length,g2.length];simp
  .rw[hx.kX]at hy;cases hy.kX;cases p:lO M _ with
   | none=>rw[p]at e;cases e
   | some i=>rw[p]at e;have e:(if i.length=i.length then qZ (E2 M n) i i else some false)=some b:=e;rw[b9 rfl]at e;obtain⟨xs,_,h2,_⟩:=mU hm p;exact vX h2 h2 (wb I hm n) e
  .cases e
theorem yP{f:D->D->Option Bool}{A:Ar}:∀{ds es:V0 D} {xs ys:V0 V} {us ws:V0 Vl} {b:Bool},qZ f ds es=some b->nq X.K H ds xs->nq X.K H es ys->nI xs us->nI ys ws->
  (∀x y b vx vy u w,f x y=some b->o9 X.K H x vx->o9 X.K H y vy->nW vx u->nW vy w->SeqAt.EqAt A s u w b)->
  ∃e:Nat->Bool,(∀j (h1:j<us.length) (h2:j<ws.length),SeqAt.EqAt A s us[j] ws[j] (e j))/\(List.range (min us.length ws.length)).all e=b
 | [],es,xs,ys,us,ws,b,q,hx,hy,rx,ry,k=>by
  have e1:=hx.nil_inv;subst e1;cases rx;refine⟨λ_=>true,λj h1=>absurd h1 (by simp),?_⟩;have q':some true=some b:=by cases es<;>exact q
  simpa using(ce q')
 | d::ds,[],xs,ys,us,ws,b,q,hx,hy,rx,ry,k=>by
  have e1:=hy.nil_inv;subst e1;cases ry;refine⟨λ_=>true,λj _ h2=>absurd h2 (by simp),?_⟩;have q':some true=some b:=q
  simpa using(ce q')
 | d::ds,e::es,xs,ys,us,ws,b,q,hx,hy,rx,ry,k=>by
  obtain⟨x,r,rfl,h1,h2⟩:=hx.inv;obtain⟨y,r',rfl,g1,g2⟩:=hy.inv;cases rx with
  | cons r1 r2=>
   cases ry with
   | cons t1 t2=>
    unfold qZ at q;cases p1:f d e with
    | none=>rw[p1]at q;cases q
    | some b1=>
     rw[p1]at q;cases p2:qZ f ds es with
     | none=>rw[p2]at q;cases q
     | some b2=>
      rw[p2]at q;have q':(b1&&b2)=b:=ce q;obtain⟨e',he,ha⟩:=yP p2 h2 g2 r2 t2 k;refine⟨λj=>match j with|0=>b1|j+1=>e' j,λj l1 l2=>?_,?_⟩
      .cases j with
       | zero=>exact k _ _ _ _ _ _ _ p1 h1 g1 r1 t1
       | succ j=>exact he j (by simpa using l1) (by simpa using l2)
      .rw[<-q',<-ha];simp only[b8];rw[Nat.succ_min_succ,List.range_succ_eq_map,fL,kK];rfl
theorem BC(I:Inv X RP Y H s)(hm:HM X.K H M):∀(n:Nat) (A:Ar) (x y:D) (b:Bool) (vx vy:V) (u w:Vl),A.units+n<cLine->E2 M n x y=some b->o9 X.K H x vx->o9 X.K H y vy->nW vx u->nW vy w->
  SeqAt.RcAt A s u w b/\SeqAt.EqAt A s u w b/\SeqAt.RcNeAt A s u w (!b)
 | 0,_,_,_,_,_,_,_,_,_,e,_,_,_,_=>by cases e
 | n+1,A,x,y,b,vx,vy,u,w,hu,e,hx,hy,rx,ry=>by
  have hu1:A.units<cLine:=by lia
  have hui:A.in1.units+n<cLine:=by show A.units+1+n<cLine;lia
  unfold E2 at e;split at e
  .cases hx.kZ;cases hy.kZ;cases rx;cases ry;cases e;exact⟨.none_none,.same _,.none_none⟩
  .cases hx.k7;cases hy.k7;cases rx;cases ry;cases e;exact⟨.bool_bool _ _,.bool_bool _ _,.bool_bool _ _⟩
  .cases hx.int_inv;cases hy.int_inv;obtain⟨t,rfl⟩:=rx;obtain⟨t',rfl⟩:=ry;cases e;exact⟨.int_int _ _ _ _,.int_int _ _ _ _,.int_int _ _ _ _⟩
  .cases hx.str_inv;cases hy.str_inv;obtain⟨t,rfl⟩:=rx;obtain⟨t',rfl⟩:=ry;cases e;exact⟨.str_str _ _ _ _,.str_str _ _ _ _,.str_str _ _ _ _⟩
  .cases hx.kZ;cases hy.k7;cases rx;cases ry;cases e;exact⟨.none_bool _,.none_bool _,.none_bool _⟩
  .cases hx.kZ;cases hy.int_inv;cases rx;obtain⟨t',rfl⟩:=ry;cases e;exact⟨.none_int _ _,.none_int _ _,.none_int _ _⟩
  .cases hx.kZ;cases hy.str_inv;cases rx;obtain⟨t',rfl⟩:=ry;cases e;exact⟨.none_str _ _,.none_str _ _,.none_str _ _⟩
  .cases hx.k7;cases hy.kZ;cases rx;cases ry;cases e;exact⟨.bool_none _,.bool_none _,.bool_none _⟩
  .cases hx.k7;cases hy.str_inv;cases rx;obtain⟨t',rfl⟩:=ry;cases e;exact⟨.bool_str _ _ _,.bool_str _ _ _,.bool_str _ _ _⟩
  .cases hx.int_inv;cases hy.kZ;obtain⟨t,rfl⟩:=rx;cases ry;cases e;exact⟨.int_none _ _,.int_none _ _,.int_none _ _⟩
  .cases hx.int_inv;cases hy.str_inv;obtain⟨t,rfl⟩:=rx;obtain⟨t',rfl⟩:=ry;cases e;exact⟨.int_str _ _ _ _,.int_str _ _ _ _,.int_str _ _ _ _⟩
  .cases hx.str_inv;cases hy.kZ;obtain⟨t,rfl⟩:=rx;cases ry;cases e;exact⟨.str_none _ _,.str_none _ _,.str_none _ _⟩
  .cases hx.str_inv;cases hy.k7;obtain⟨t,rfl⟩:=rx;cases ry;cases e;exact⟨.str_bool _ _ _,.str_bool _ _ _,.str_bool _ _ _⟩
  .cases hx.str_inv;cases hy.int_inv;obtain⟨t,rfl⟩:=rx;obtain⟨t',rfl⟩:=ry;cases e;exact⟨.str_int _ _ _ _,.str_int _ _ _ _,.str_int _ _ _ _⟩
  .rename_i da db;obtain⟨a1,xs,rfl,h1,h2⟩:=hx.k8;obtain⟨a2,ys,rfl,g1,g2⟩:=hy.k8;cases rx;cases ry;obtain⟨us,r1,p1,_⟩:=I.tuple h1;obtain⟨ws,r2,p2,_⟩:=I.tuple g1;cases p:qZ (E2 M n) da db with
   | none=>rw[p]at e;cases e
   | some b1=>
    have e0:=e;rw[p]at e;have e':(b1&&da.length==db.length)=b:=ce e;obtain⟨f,hf,ha⟩:=yP (A:=A.in1) (s:=s) p h2 g2 r1 r2 λx y b vx vy u w q1 q2 q3 q4 q5=>(BC I hm n A.in1 x y b vx vy u w hui q1 q2 q3 q4 q5).2.1;have hb:((List.range (min us.toArray.size ws.toArray.size)).all f&&us.toArray.size==ws.toArray.size)=b:=by rw[b7,b7,ha,<-e',<-r1.length,<-r2.length,h2.length,g2.length]
    have hf':∀j (l1:j<us.toArray.size) (l2:j<ws.toArray.size),SeqAt.EqAt A.in1 s us.toArray[j] ws.toArray[j] (f j):=λj l1 l2=>by simpa using hf j (by simpa using l1) (by simpa using l2)
    have c1:SeqAt.RcAt A s (.ref a1) (.ref a2) b:=by rw[<-hb];exact .tuples p1 p2 hu1 hf'
    have c3:SeqAt.RcNeAt A s (.ref a1) (.ref a2) (!b):=by have:=SeqAt.RcNeAt.tuples p1 p2 hu1 hf';rw[hb]at this;exact this
    refine⟨c1,?_,c3⟩;by_cases ea:a1=a2
    .subst ea;have:b=true:=wb I hm (n+1) (.tup da) (.tup db) (.ref a1) b hx hy (by unfold E2;exact e0);rw[this];exact .same _
    .exact .of_refs ea c1
  .cases hx.kX;cases hy.kX;cases rx;cases ry;rename_i a1 a2;have e0:=e;cases p:lO M a1 with
   | none=>rw[p]at e;cases e
   | some i=>
    cases p':lO M a2 with
    | none=>rw[p,p']at e;cases e
    | some j=>
     rw[p,p']at e;have e:(if i.length=j.length then qZ (E2 M n) i j else some false)=some b:=e;obtain⟨xs,q1,h2,_⟩:=mU hm p;obtain⟨ys,q2,g2,_⟩:=mU hm p';obtain⟨us,r1,p1,_⟩:=I.list q1;obtain⟨ws,r2,p2,_⟩:=I.list q2;have RV:SeqAt.RcAt A s (.ref a1) (.ref a2) b/\SeqAt.RcNeAt A s (.ref a1) (.ref a2) (!b):=by
      by_cases hl:i.length=j.length
      .rw[b9 hl]at e;obtain⟨f,hf,ha⟩:=yP (A:=A.in1) (s:=s) e h2 g2 r1 r2 λx y b vx vy u w q1 q2 q3 q4 q5=>(BC I hm n A.in1 x y b vx vy u w hui q1 q2 q3 q4 q5).2.1;have hsz:us.toArray.size=ws.toArray.size:=by rw[b7,b7,<-r1.length,<-r2.length,<-h2.length,<-g2.length];exact hl
       have hf':∀j (l1:j<us.toArray.size) (l2:j<ws.toArray.size),SeqAt.EqAt A.in1 s us.toArray[j] ws.toArray[j] (f j):=λj l1 l2=>by simpa using hf j (by simpa using l1) (by simpa using l2)
       have hb:(List.range us.toArray.size).all f=b:=by rw[<-ha];rw[b7,b7]at hsz;rw[b7,<-hsz,Nat.min_self]
       rw[<-hb];exact⟨.lists p1.isList p2.isList hsz hu1 hf',.lists p1.isList p2.isList hsz hu1 hf'⟩
      .rw[bV hl]at e;cases e;have hsz:(us.toArray.size != ws.toArray.size)=true:=by
        rw[b7,b7,<-r1.length,<-r2.length,<-h2.length,<-g2.length]
        simpa using hl
       exact⟨.lists_lengths p1.isList p2.isList hsz hu1,.lists_lengths p1.isList p2.isList hsz hu1⟩
     refine⟨RV.1,?_,RV.2⟩;by_cases ea:a1=a2
     .subst ea;have:b=true:=wb I hm (n+1) (.ref a1) (.ref a1) (.ref a1) b .ref .ref (by unfold E2;exact e0);rw[this];exact .same _
     .exact .of_refs ea RV.1
  .cases e
noncomputable def uF:D->Bool
 | .k9=>true
 | .bl _=>true
 | .int _=>true
 | .str _=>true
 | _=>false
noncomputable def Ri:D->D->Bool
 | .k9,.k9=>true
 | .bl a,.bl b=>a==b
 | .bl a,.int b=>(if a then 1 else 0)==b
 | .int a,.bl b=>a==(if b then 1 else 0)
 | .int a,.int b=>a==b
 | .str a,.str b=>a==b
 | _,_=>false
noncomputable def inD(x:D)(ds:V0 D):Bool:=ds.any λy=>Ri y x
noncomputable def HQ(M:Mp):D->Option (V0 D)
 | .tup ds=>some ds
 | .ref a=>lO M a
 | .rl ds=>some ds
 | _=>none
noncomputable def qq(i j:Str):Bool:=!(Builtin.Str.occurrences j i 0 j.length 1).isEmpty
def Oy(UD:Bool)(x y:D)(M:Mp)(Q:DK):Prop:=match x,y with
 | .str i,.str j=>Q (.bl (if UD then !qq i j else qq i j)) M
 | _,_=>(HQ M y).elim False λds=>uF x=true/\ds.all uF=true/\Q (.bl (if UD then !inD x ds else inD x ds)) M
def Kc(op:CmpOp)(x y:D)(M:Mp)(Q:DK):Prop:=match op with
 | .Eq=>(E2 M 9 x y).elim False λb=>Q (.bl b) M
 | .NotEq=>(E2 M 9 x y).elim False λb=>Q (.bl (!b)) M
 | .Lt=>match x,y with|.int i,.int j=>Q (.bl (decide (i<j))) M|_,_=>False
 | .LtE=>match x,y with|.int i,.int j=>Q (.bl (decide (i<=j))) M|_,_=>False
 | .Gt=>match x,y with|.int i,.int j=>Q (.bl (decide (j<i))) M|_,_=>False
 | .GtE=>match x,y with|.int i,.int j=>Q (.bl (decide (j<=i))) M|_,_=>False
 | .Is=>match y with|.k9=>Q (.bl (match x with|.k9=>true|_=>false)) M|_=>False
 | .IsNot=>match y with|.k9=>Q (.bl (match x with|.k9=>false|_=>true)) M|_=>False
 | .In=>Oy false x y M Q
 | .NotIn=>Oy true x y M Q
def k3(op:CmpOp)(ta tb:T3):T3:=λU M Q=>ta U M λx M1=>tb U M1 λy M2=>Kc op x y M2 Q
def B5{d:D}{v:V}(h:o9 K H d v)(f:uF d=true):vv v=true:=by
 cases d with
 | k9=>rw[h.kZ];rfl
 | bl _=>rw[h.k7];rfl
 | int _=>rw[h.int_inv];rfl
 | str _=>rw[h.str_inv];rfl
 | _=>cases f
def Jy{d e:D}{v w:V}(h:o9 K H d v)(g:o9 K H e w)(f:uF d=true)(f':uF e=true):Jm v w=Ri d e:=by
 cases d with
 | k9=>
  rw[h.kZ];cases e with
  | k9=>rw[g.kZ];rfl
  | bl _=>rw[g.k7];rfl
  | int _=>rw[g.int_inv];rfl
  | str _=>rw[g.str_inv];rfl
  | _=>cases f'
 | bl _=>
  rw[h.k7];cases e with
  | k9=>rw[g.kZ];rfl
  | bl _=>rw[g.k7];rfl
  | int _=>rw[g.int_inv];rfl
  | str _=>rw[g.str_inv];rfl
  | _=>cases f'
 | int _=>
  rw[h.int_inv];cases e with
  | k9=>rw[g.kZ];rfl
  | bl _=>rw[g.k7];rfl
  | int _=>rw[g.int_inv];rfl
  | str _=>rw[g.str_inv];rfl
  | _=>cases f'
 | str _=>
  rw[h.str_inv];cases e with
  | k9=>rw[g.kZ];rfl
  | bl _=>rw[g.k7];rfl
  | int _=>rw[g.int_inv];rfl
  | str _=>rw[g.str_inv];rfl
  | _=>cases f'
 | _=>cases f
theorem Fb:∀{ds:V0 D} {xs:V0 V},nq K H ds xs->ds.all uF=true->xs.all vv=true
 | [],_,h,_=>by rw[h.nil_inv];rfl
 | d::ds,_,h,f=>by obtain⟨x,r,rfl,h1,h2⟩:=h.inv;rw[fL,bR]at f ⊢;exact⟨B5 h1 f.1,Fb h2 f.2⟩
theorem Hf{e:D}{w:V}(g:o9 K H e w)(f':uF e=true):∀{ds:V0 D} {xs:V0 V},nq K H ds xs->ds.all uF=true->inV w xs=inD e ds
 | [],_,h,_=>by rw[h.nil_inv];rfl
 | d::ds,_,h,f=>by obtain⟨x,r,rfl,h1,h2⟩:=h.inv;rw[fL,bR]at f;show(Jm x w||inV w r)=(Ri d e||inD e ds);rw[Jy h1 g f.1 f',Hf g f' h2 f.2]
def AY(hm:HM K H M){y:D}{v:V}{ds:V0 D}(h:o9 K H y v)(q:HQ M y=some ds):∃p xs,v=.ref p/\(sO K H p xs\/rc K H p xs)/\nq K H ds xs:=by
 cases y with
 | tup es=>cases q;obtain⟨a,xs,rfl,h1,h2⟩:=h.k8;exact⟨a,xs,rfl,.inr h1,h2⟩
 | ref a=>cases h.kX;obtain⟨xs,h1,h2,_⟩:=mU hm q;exact⟨a,xs,rfl,.inl h1,h2⟩
 | rl es=>cases q;obtain⟨a,xs,rfl,h1,h2⟩:=h.lj;exact⟨a,xs,rfl,.inl h1.sq,h2⟩
 | _=>cases q
variable {c:Expr}{tc:T3}
section
def Gz(op:CmpOp)(hu:X.A.units+9<cLine):ul X (compareOp op) (R3 X.K (Kc op)):=by
 intro RP s Y H vx vy v u Q' I rx ry h;obtain⟨x,y,M,Q,hx,hy,hm,q,k⟩:=h;have bk:∀b,Q (.bl b) M->EP X RP Y Q' (.bool b) s:=λb q=>⟨.bl b,H,I,rfl,k _ _ _ _ .bl hm .refl q⟩;have inn:∀UD:Bool,((HQ M y).elim False λds=>uF x=true/\ds.all uF=true/\Q (.bl (if UD then !inD x ds else inD x ds)) M)->QR X.K UD vx vy H Q':=λUD q=>by obtain⟨ds,e,f1,f2,q⟩:=nU q;obtain⟨p,xs,rfl,h1,h2⟩:=AY hm hy e;refine⟨p,xs,rfl,h1,B5 hx f1,Fb h2 f2,?_⟩;rw[Hf hx f1 h2 f2];exact k _ _ _ _ .bl hm .refl q
 cases op with
 | Eq=>obtain⟨b,e,q⟩:=nU q;exact(BC I hm 9 X.A x y b vx vy v u hu e hx hy rx ry).1 _ _ _ _ (bk b q)
 | NotEq=>obtain⟨b,e,q⟩:=nU q;exact(BC I hm 9 X.A x y b vx vy v u hu e hx hy rx ry).2.2 _ _ _ _ (bk _ q)
 | Lt=>
  cases x<;>first|exact q.elim|skip
  cases y<;>first|exact q.elim|skip
  cases hx.int_inv;cases hy.int_inv;exact O6 RP s Y H _ _ v u Q' I rx ry ⟨_,_,rfl,rfl,k _ _ _ _ .bl hm .refl q⟩
 | LtE=>
  cases x<;>first|exact q.elim|skip
  cases y<;>first|exact q.elim|skip
  cases hx.int_inv;cases hy.int_inv;exact Pl RP s Y H _ _ v u Q' I rx ry ⟨_,_,rfl,rfl,k _ _ _ _ .bl hm .refl q⟩
 | Gt=>
  cases x<;>first|exact q.elim|skip
  cases y<;>first|exact q.elim|skip
  cases hx.int_inv;cases hy.int_inv;exact OZ RP s Y H _ _ v u Q' I rx ry ⟨_,_,rfl,rfl,k _ _ _ _ .bl hm .refl q⟩
 | GtE=>
  cases x<;>first|exact q.elim|skip
  cases y<;>first|exact q.elim|skip
  cases hx.int_inv;cases hy.int_inv;exact OD RP s Y H _ _ v u Q' I rx ry ⟨_,_,rfl,rfl,k _ _ _ _ .bl hm .refl q⟩
 | Is=>
  cases y<;>first|exact q.elim|skip
  cases hy.kZ;refine N7 RP s Y H _ _ v u Q' I rx ry ⟨rfl,k _ _ _ _ ?_ hm .refl q⟩;cases x with
  | k9=>rw[hx.kZ];exact .bl
  | bl _=>rw[hx.k7];exact .bl
  | int _=>rw[hx.int_inv];exact .bl
  | str _=>rw[hx.str_inv];exact .bl
  | tup _=>obtain⟨a,xs,rfl,_⟩:=hx.k8;exact .bl
  | ref _=>rw[hx.kX];exact .bl
  | ty _=>rw[hx.lK];exact .bl
  | rl _=>obtain⟨a,xs,rfl,_⟩:=hx.lj;exact .bl
 | IsNot=>
  cases y<;>first|exact q.elim|skip
  cases hy.kZ;refine KC RP s Y H _ _ v u Q' I rx ry ⟨rfl,k _ _ _ _ ?_ hm .refl q⟩;cases x with
  | k9=>rw[hx.kZ];exact .bl
  | bl _=>rw[hx.k7];exact .bl
  | int _=>rw[hx.int_inv];exact .bl
  | str _=>rw[hx.str_inv];exact .bl
  | tup _=>obtain⟨a,xs,rfl,_⟩:=hx.k8;exact .bl
  | ref _=>rw[hx.kX];exact .bl
  | ty _=>rw[hx.lK];exact .bl
  | rl _=>obtain⟨a,xs,rfl,_⟩:=hx.lj;exact .bl
 | In=>
  have q:Oy false x y M Q:=q;unfold Oy at q;split at q
  .cases hx.str_inv;cases hy.str_inv;exact FG RP s Y H _ _ v u Q' I rx ry ⟨_,_,rfl,rfl,k _ _ _ _ .bl hm .refl q⟩
  .exact F' RP s Y H _ _ v u Q' I rx ry (inn false q)
 | NotIn=>
  have q:Oy true x y M Q:=q;unfold Oy at q;split at q
  .cases hx.str_inv;cases hy.str_inv;exact AW RP s Y H _ _ v u Q' I rx ry ⟨_,_,rfl,rfl,k _ _ _ _ .bl hm .refl q⟩
  .exact A0 RP s Y H _ _ v u Q' I rx ry (inn true q)
variable {a b:Expr}
def nY{op:CmpOp}(hu:X.A.units+9<cLine)(ha:E3 X a ta)(hb:E3 X b tb)(hm:behindInMarks op b=false:=by first|exact Ej _|with_unfolding_all rfl):E3 X (.Compare a [op] [b] pos) (k3 op ta tb):=PE.mono (Br (Gz op hu) ha hb hm) CK
def b3(t:T3):xJ:=λU M Q=>t U M λd M1=>match d with|.bl c=>Q c M1|_=>False
def qU{e:Expr}{t:T3}(h:E3 X e t)(he:∀SB,isTrue e X.env SB=(do let v<-SB;standAt e.pos;holding [v] (truthy v)):=by intro _;rfl):B3 X e (b3 t):=PT.mono (MA h he) λY H Q' zz=>x7 zz λU M Q hs hm ht k=>
 ⟨U,M,_,hs,hm,ht,λv H1 d M1 hd RS e1 q1=>by
  cases d with
  | bl c=>exact⟨c,hd.k7,k c H1 M1 RS e1 q1⟩
  | _=>exact q1.elim⟩
def mW{op:CmpOp}(hu:X.A.units+9<cLine)(ha:E3 X a ta)(hb:E3 X b tb)(hm:behindInMarks op b=false:=by first|exact Ej _|with_unfolding_all rfl):B3 X (.Compare a [op] [b] pos) (b3 (k3 op ta tb)):=PT.mono (JE (Gz op hu) ha hb hm) λY H Q' zz=>x7 zz λU M Q hs hm ht k=>
 CK Y H _ ⟨U,M,_,hs,hm,ht,λv H1 d M1 hd RS e1 q1=>by
  cases d with
  | bl c=>exact⟨c,hd.k7,k c H1 M1 RS e1 q1⟩
  | _=>exact q1.elim⟩
end
variable {tA tB:xJ}{RU:V0 Expr}
section
variable {a b:Expr}
def Q6(t u:xJ):xJ:=λU M Q=>t U M λc M1=>if c=true then u U M1 Q else Q false M1
def RK(t u:xJ):xJ:=λU M Q=>t U M λc M1=>if c=true then Q true M1 else u U M1 Q
def Qp(t:xJ):xJ:=λU M Q=>t U M λc M1=>Q (!c) M1
def W3(X:Cx)(e:Expr)(t:xJ):Prop:=PW X e (MT X.K t)
def PW.mono{X:Cx}{e:Expr}{t t':TT}(h:PW X e t)(m:∀Y H Q,t' Y H Q->t Y H Q):PW X e t':=λwh RP s Y H Q I q=>h wh RP s Y H Q I (m Y H Q q)
def W3.b3{e:Expr}{t:xJ}(h:W3 X e t):B3 X e t:=PW.pt h
def Fi(h:B3 X a tA):W3 X (.BoolOp .And [a] pos) tA:=JS h
def tU(h:B3 X a tA):W3 X (.BoolOp .Or [a] pos) tA:=NG h
def II(ha:B3 X a tA)(hb:W3 X (.BoolOp .And (b::RU) pos) tB):W3 X (.BoolOp .And (a::b::RU) pos) (Q6 tA tB):=PW.mono (NM ha hb) λY H Q' zz=>x7 zz λU M Q hs hm ht k=>
 ⟨U,M,_,hs,hm,ht,λc H1 M1 RS e1 q1=>by
  cases c with
  | true=>exact(b9 rfl).mpr ⟨U,M1,Q,hs.mono e1,RS,(b9 rfl).mp q1,λb H' M' x1 x2 x3=>k b H' M' x1 (e1.trans x2) x3⟩
  | false=>exact(bV cg).mpr (k false H1 M1 RS e1 ((bV cg).mp q1))⟩
def tL(ha:B3 X a tA)(hb:W3 X (.BoolOp .Or (b::RU) pos) tB):W3 X (.BoolOp .Or (a::b::RU) pos) (RK tA tB):=PW.mono (PM ha hb) λY H Q' zz=>x7 zz λU M Q hs hm ht k=>
 ⟨U,M,_,hs,hm,ht,λc H1 M1 RS e1 q1=>by
  cases c with
  | true=>exact(b9 rfl).mpr (k true H1 M1 RS e1 ((b9 rfl).mp q1))
  | false=>exact(bV cg).mpr ⟨U,M1,Q,hs.mono e1,RS,(bV cg).mp q1,λb H' M' x1 x2 x3=>k b H' M' x1 (e1.trans x2) x3⟩⟩
def rZ(ha:B3 X a tA):B3 X (.UnaryOp .Not a pos) (Qp tA):=PT.mono (Mj ha) λY H Q' zz=>x7 zz λU M Q hs hm ht k=>⟨U,M,_,hs,hm,ht,λc H1 M1 RS e1 q1=>k _ H1 M1 RS e1 q1⟩
def OS(ta tb:T3):T3:=λU M Q=>ta U M λd M1=>match d with|.bl c=>if c=true then tb U M1 Q else Q (.bl false) M1|_=>False
def QO(ta tb:T3):T3:=λU M Q=>ta U M λd M1=>match d with|.bl c=>if c=true then Q (.bl true) M1 else tb U M1 Q|_=>False
def OT(ta:T3):T3:=λU M Q=>ta U M λd M1=>match d with|.bl c=>Q (.bl (!c)) M1|_=>False
def qD{op}(h:E3 X a ta):E3 X (.BoolOp op [a] pos) ta:=Ml h
def qa(ha:E3 X a ta)(hb:E3 X (.BoolOp .And (b::RU) pos) tb):E3 X (.BoolOp .And (a::b::RU) pos) (OS ta tb):=PE.mono (N6 ha hb) λY H Q' zz=>x7 zz λU M Q hs hm ht k=>
 ⟨U,M,_,hs,hm,ht,λv H1 d M1 hd RS e1 q1=>by
  cases d with
  | bl c=>
   refine⟨c,hd.k7,?_⟩;cases c with
   | true=>exact(b9 rfl).mpr ⟨U,M1,Q,hs.mono e1,RS,(b9 rfl).mp q1,qK e1 k⟩
   | false=>exact(bV cg).mpr (k _ H1 _ M1 .bl RS e1 ((bV cg).mp q1))
  | _=>exact q1.elim⟩
def PH(ha:E3 X a ta)(hb:E3 X (.BoolOp .Or (b::RU) pos) tb):E3 X (.BoolOp .Or (a::b::RU) pos) (QO ta tb):=PE.mono (OX ha hb) λY H Q' zz=>x7 zz λU M Q hs hm ht k=>
 ⟨U,M,_,hs,hm,ht,λv H1 d M1 hd RS e1 q1=>by
  cases d with
  | bl c=>
   refine⟨c,hd.k7,?_⟩;cases c with
   | true=>exact(b9 rfl).mpr (k _ H1 _ M1 .bl RS e1 ((b9 rfl).mp q1))
   | false=>exact(bV cg).mpr ⟨U,M1,Q,hs.mono e1,RS,(bV cg).mp q1,qK e1 k⟩
  | _=>exact q1.elim⟩
def L7(ha:E3 X a ta):E3 X (.UnaryOp .Not a pos) (OT ta):=PE.mono (MJ ha) λY H Q' zz=>x7 zz λU M Q hs hm ht k=>
 ⟨U,M,_,hs,hm,ht,λv H1 d M1 hd RS e1 q1=>by
  cases d with
  | bl c=>exact⟨c,hd.k7,k _ H1 _ M1 .bl RS e1 q1⟩
  | _=>exact q1.elim⟩
def RM(t:xJ)(ta tb:T3):T3:=λU M Q=>t U M λc M1=>if c=true then ta U M1 Q else tb U M1 Q
def Pp(hc:B3 X c tA)(ha:E3 X a ta)(hb:E3 X b tb):E3 X (.IfExp c a b pos) (RM tA ta tb):=PE.mono (Ie hc ha hb) λY H Q' zz=>x7 zz λU M Q hs hm ht k=>
 ⟨U,M,_,hs,hm,ht,λc H1 M1 RS e1 q1=>by
  cases c with
  | true=>exact(b9 rfl).mpr ⟨U,M1,Q,hs.mono e1,RS,(b9 rfl).mp q1,qK e1 k⟩
  | false=>exact(bV cg).mpr ⟨U,M1,Q,hs.mono e1,RS,(bV cg).mp q1,qK e1 k⟩⟩
def Qw(x y:D)(M:Mp)(Q:DK):Prop:=match x,y with
 | .tup ds,.int i=>(tY ds i).elim False λd=>Q d M
 | .ref a,.int i=>(lO M a).elim False λds=>(tY ds i).elim False λd=>Q d M
 | .rl ds,.int i=>(tY ds i).elim False λd=>Q d M
 | .str z,.int i=>z.length<=sizeLine/\(tY z.cps.toList i).elim False λc=>Q (.str ⟨#[c]⟩) M
 | _,_=>False
def i3(ta tb:T3):T3:=λU M Q=>ta U M λx M1=>tb U M1 λy M2=>Qw x y M2 Q
def Bb{K:nz}{H:Hp}{ds:V0 D}{xs:V0 V}{i:Int}{d:D}(h:nq K H ds xs)(e:tY ds i=some d):∃v,tY xs i=some v/\o9 K H d v:=by
 unfold tY at e ⊢;rw[<-h.length];cases q:Eo ds.length i with
 | none=>rw[q]at e;cases e
 | some j=>rw[q]at e;exact h.get e
def RF:Oq X (R3 X.K Qw):=by
 intro value slice RP s Y H vx vy v u Q' I rx ry h hs;obtain⟨x,y,M,Q,hx,hy,hm,q,k⟩:=h;unfold Qw at q;split at q
 .obtain⟨d,e,q⟩:=nU q;obtain⟨p,xs,rfl,h1,h2⟩:=hx.k8;cases hy.int_inv;obtain⟨w,e1,e2⟩:=Bb h2 e;exact Oh value slice RP s Y H _ _ v u Q' I rx ry ⟨p,xs,_,w,rfl,rfl,h1,e1,k _ _ _ _ e2 hm .refl q⟩ hs
 .obtain⟨ds,e0,q⟩:=nU q;obtain⟨d,e,q⟩:=nU q;cases hx.kX;cases hy.int_inv;obtain⟨xs,h1,h2,_⟩:=mU hm e0;obtain⟨w,e1,e2⟩:=Bb h2 e;exact EZ value slice RP s Y H _ _ v u Q' I rx ry ⟨_,xs,_,w,rfl,rfl,h1,e1,k _ _ _ _ e2 hm .refl q⟩ hs
 .obtain⟨d,e,q⟩:=nU q;obtain⟨p,xs,rfl,h1,h2⟩:=hx.lj;cases hy.int_inv;obtain⟨w,e1,e2⟩:=Bb h2 e;exact EZ value slice RP s Y H _ _ v u Q' I rx ry ⟨p,xs,_,w,rfl,rfl,h1.sq,e1,k _ _ _ _ e2 hm .refl q⟩ hs
 .obtain⟨q1,q⟩:=q;obtain⟨c,e,q⟩:=nU q;cases hx.str_inv;cases hy.int_inv;exact Mc value slice RP s Y H _ _ v u Q' I rx ry ⟨_,_,c,rfl,rfl,q1,e,k _ _ _ _ .str hm .refl q⟩ hs
 .exact q.elim
def mX(ha:E3 X a ta)(hb:E3 X b tb)(hs:yj b:=by exact λ_ _=>rfl):E3 X (.Subscript a b pos) (i3 ta tb):=PE.mono (Jd RF ha hb hs) CK
noncomputable def qx(ds:V0 D)(lo hi:Option Int):V0 D:=(ds.drop (HT.pZ ds.length 0 lo)).take (HT.pZ ds.length ds.length hi - HT.pZ ds.length 0 lo)
def Bl{K:nz}{H:Hp}{ds:V0 D}{xs:V0 V}{l h:Option Int}(q:nq K H ds xs):nq K H (qx ds l h) (zi xs l h):=by unfold qx zi;rw[q.length];exact(q.drop _).take _
abbrev Lz:=rH->Mp->(Option Int->Mp->Prop)->Prop
def RG(K:nz)(t:Lz):TO:=λY H Q'=>Ef λU M Q=>vO K H Y U/\HM K H M/\t U M Q/\∀o H' M',HM K H' M'->nX K H H'->Q o M'->Q' o H'
def O3(X:Cx)(e:Option Expr)(t:Lz):Prop:=PO X e (RG X.K t)
def wz:Lz:=λ_ M Q=>Q none M
def CF(t:T3):Lz:=λU M Q=>t U M λd M1=>match d with|.int i=>Q (some i) M1|_=>False
def PO.mono{X:Cx}{e:Option Expr}{t t':TO}(h:PO X e t)(m:∀Y H Q,t' Y H Q->t Y H Q):PO X e t':=λRP s Y H Q I q=>h RP s Y H Q I (m Y H Q q)
def nA:O3 X none wz:=PO.mono KN λY H Q' zz=>x7 zz λU M Q hs hm ht k=>k none H M hm .refl ht
def nj{e:Expr}{t:T3}(h:E3 X e t):O3 X (some e) (CF t):=PO.mono (K9 h) λY H Q' zz=>x7 zz λU M Q hs hm ht k=>
 ⟨U,M,_,hs,hm,ht,λv H1 d M1 hd RS e1 q1=>by
  cases d with
  | int i=>exact⟨i,hd.int_inv,k (some i) H1 M1 RS e1 q1⟩
  | _=>exact q1.elim⟩
def Ro(x:D)(lo hi:Option Int)(M:Mp)(Q:DK):Prop:=match x with
 | .tup ds=>Q (.tup (qx ds lo hi)) M
 | .ref a=>(lO M a).elim False λds=>∀p,M p=none->Q (.ref p) (mS M p (.lst (qx ds lo hi)))
 | .rl ds=>∀p,M p=none->Q (.ref p) (mS M p (.lst (qx ds lo hi)))
 | _=>False
def s3(te:T3)(tl th:Lz):T3:=λU M Q=>te U M λx M1=>tl U M1 λl M2=>th U M2 λu M3=>Ro x l u M3 Q
def Re(K:nz):V->Option Int->Option Int->Hp->VK->Prop:=λvx l u H Q'=>Ef λx M Q=>o9 K H x vx/\HM K H M/\Ro x l u M Q/\Up K H Q' Q
def Lm{ds:V0 D}{lo hi:Option Int}(h:HT.pZ ds.length 0 lo=0/\HT.pZ ds.length ds.length hi=ds.length):qx ds lo hi=ds:=by unfold qx;rw[h.1,h.2,gD,iL,dC]
def QG:Ow X (Re X.K):=by
 intro RP s Y H vx v vl vu l u sl Q' I rx UI pl pu h;obtain⟨x,M,Q,hx,hm,q,k⟩:=h;cases x with
 | tup ds=>
  have q2:Q (.tup (qx ds l u)) M:=q;obtain⟨a,xs,rfl,h1,h2⟩:=hx.k8;by_cases q1:HT.pZ ds.length 0 l=0/\HT.pZ ds.length ds.length u=ds.length
  .rw[Lm q1]at q2;exact Ni RP s Y H _ v vl vu l u sl Q' I rx UI pl pu ⟨a,xs,rfl,h1,by rw[<-h2.length];exact q1,k _ _ _ _ hx hm .refl q2⟩
  refine Nb RP s Y H _ v vl vu l u sl Q' I rx UI pl pu ⟨a,xs,rfl,h1,by rw[<-h2.length];exact q1,λp hp=>?_⟩;have e:nX X.K H (upd H p (.tup (zi xs l u))):=.new hp;exact k _ _ _ _ (.tup (.of m9) ((Bl h2).mono e)) (hm.add hp) e q2
 | ref a=>obtain⟨ds,e0,q⟩:=nU q;cases hx.kX;obtain⟨xs,h1,h2,_⟩:=mU hm e0;refine ER RP s Y H _ v vl vu l u sl Q' I rx UI pl pu ⟨a,xs,rfl,h1,λp hp=>?_⟩;have e:nX X.K H (upd H p (.lst (zi xs l u))):=.new hp;exact k _ _ _ _ .ref (hm.new (c:=.lst (qx ds l u)) hp ⟨_,m9,(Bl h2).mono e⟩) e (q p (hm.fresh hp))
 | rl ds=>obtain⟨a,xs,rfl,h1,h2⟩:=hx.lj;refine ER RP s Y H _ v vl vu l u sl Q' I rx UI pl pu ⟨a,xs,rfl,h1.sq,λp hp=>?_⟩;have e:nX X.K H (upd H p (.lst (zi xs l u))):=.new hp;exact k _ _ _ _ .ref (hm.new (c:=.lst (qx ds l u)) hp ⟨_,m9,(Bl h2).mono e⟩) e (q p (hm.fresh hp))
 | _=>exact q.elim
def nE{e:Expr}{te:T3}{lo hi:Option Expr}{tl th:Lz}{p2:Pos}(he:E3 X e te)(hl:O3 X lo tl)(hu:O3 X hi th):E3 X (.Subscript e (.Slice lo hi none p2) pos) (s3 te tl th):=PE.mono (CB QG he hl hu) λY H Q' zz=>x7 zz λU M Q hs hm ht k=>⟨U,M,_,hs,hm,ht,λv H1 x M1 hx RS e1 q1=>⟨U,M1,_,hs.mono e1,RS,q1,λl H2 M2 R7 e2 q2=>⟨U,M2,_,hs.mono (e1.trans e2),R7,q2,λu H3 M3 Sz e3 q3=>⟨x,M3,Q,hx.mono (e2.trans e3),Sz,q3,qK (e1.trans (e2.trans e3)) k⟩⟩⟩⟩
def vw:rM:=λ_ M Q=>Q [] M
def rY(ta:T3)(tr:rM):rM:=λU M Q=>ta U M λx M1=>tr U M1 λxs M2=>Q (x::xs) M2
def rV:A3 X [] vw:=PA.mono Nv λY H Q' zz=>x7 zz λU M Q hs hm ht k=>k [] H [] M .nil hm .refl ht
def oW{e:Expr}{es:V0 Expr}{te:T3}{t:rM}(ha:E3 X e te)(hr:A3 X es t)(hs:wj X e es:=by rfl):A3 X (e::es) (rY te t):=PA.mono (JJ ha hr hs) λY H Q' zz=>x7 zz λU M Q hs hm ht k=>⟨U,M,_,hs,hm,ht,λv H1 x M1 hx RS e1 q1=>⟨U,M1,_,hs.mono e1,RS,q1,λvs H2 xs M2 U4 R7 e2 q2=>k _ H2 _ M2 (.cons (hx.mono e2) U4) R7 (e1.trans e2) q2⟩⟩
def Rf(t:rM):T3:=λU M Q=>t U M λds M1=>ds.length<=sizeLine/\Q (.tup ds) M1
def NN(t:rM):T3:=λU M Q=>t U M λds M1=>ds.length<=sizeLine/\∀p,M1 p=none->Q (.ref p) (mS M1 p (.lst ds))
def og{x1}{es:V0 Expr}{t:rM}(h:A3 X es t):E3 X (.Tuple es x1 pos) (Rf t):=PE.mono (MS h) λY H Q' zz=>x7 zz λU M Q hs hm ht k=>
 ⟨U,M,_,hs,hm,ht,λvs H1 ds M1 SF RS e1 q1=>⟨by rw[<-SF.length];exact q1.1,λp hp=>by
  have e:nX X.K H1 (upd H1 p (.tup vs)):=.new hp;exact k _ _ _ M1 (.tup (.of m9) (SF.mono e)) (RS.add hp) (e1.trans e) q1.2⟩⟩
def qv{es:V0 Expr}{t:rM}(h:A3 X es t):E3 X (.List es pos) (NN t):=PE.mono (Og h) λY H Q' zz=>x7 zz λU M Q hs hm ht k=>
 ⟨U,M,_,hs,hm,ht,λvs H1 ds M1 SF RS e1 q1=>⟨by rw[<-SF.length];exact q1.1,λp hp=>by
  have e:nX X.K H1 (upd H1 p (.lst vs)):=.new hp;exact k _ _ _ _ .ref (RS.new (c:=.lst ds) hp ⟨_,m9,SF.mono e⟩) (e1.trans e) (q1.2 p (RS.fresh hp))⟩⟩
def yT(t u:rO):rO:=λD U M=>t {D with nx:=u D} U M
def OM:rO:=λD U M=>D.nx U M
def mR:zP X [] OM:=yk.mono Lr λD' Y H zz=>Bg zz λU M D hs hm ht k1 k2 k3 k4=>k1 Y H U M hs hm .refl rfl ht
def mF{st:Stmt}{RU:V0 Stmt}{t u:rO}(h1:S3 X st t)(h2:zP X RU u):zP X (st::RU) (yT t u):=yk.mono (Iz h1 h2) λD' Y H zz=>Bg zz λU M D hs hm ht k1 k2 k3 k4=>
 ⟨U,M,{D with nx:=u D},hs,hm,ht,λσ1 H1 δ1 M1 TZ RS e1 l1 q1=>⟨δ1,M1,D,TZ,RS,q1,λσ' H' δ' M' x1 x2 x3 x4 x5=>k1 σ' H' δ' M' x1 x2 (e1.trans x3) (x4.trans l1) x5,λv H' d M' x1 x2 x3 x4=>k2 v H' d M' x1 x2 (e1.trans x3) x4,λσ' H' δ' M' x1 x2 x3 x4 x5=>k3 σ' H' δ' M' x1 x2 (e1.trans x3) (x4.trans l1) x5,λσ' H' δ' M' x1 x2 x3 x4 x5=>k4 σ' H' δ' M' x1 x2 (e1.trans x3) (x4.trans l1) x5⟩,k2,k3,k4⟩
def mG{st:Stmt}{t:rO}(h1:S3 X st t):zP X [st] t:=yk.mono (Kk h1) λD' Y H h=>h
def PU(te:T3):rO:=λD U M=>te U M λ_ M1=>D.nx U M1
def mV{e:Expr}{te:T3}(he:E3 X e te)(SH:swapsWith e none pos.line X.env=pure false:=by rfl):S3 X (.Expr e pos) (PU te):=PS.mono (KM he SH) λD' Y H zz=>Bg zz λU M D hs hm ht k1 k2 k3 k4=>⟨U,M,_,hs,hm,ht,λv H1 d M1 hd RS e1 q1=>k1 Y H1 U M1 (hs.mono e1) RS e1 rfl q1⟩
def ON(te:T3):rO:=λD U M=>te U M D.rt
def mM{e:Expr}{te:T3}(he:E3 X e te):S3 X (.Return (some e) pos) (ON te):=PS.mono (Mo he) λD' Y H zz=>Bg zz λU M D hs hm ht k1 k2 k3 k4=>⟨U,M,_,hs,hm,ht,λv H1 d M1 hd RS e1 q1=>k2 v H1 d M1 hd RS e1 q1⟩
def Nf(c:xJ)(t u:rO):rO:=λD U M=>c U M λb M1=>if b=true then t D U M1 else u D U M1
def nB{c:Expr}{as bs:V0 Stmt}{tc:xJ}{t u:rO}(hc:B3 X c tc)(ha:zP X as t)(hb:zP X bs u):S3 X (.If c as bs pos) (Nf tc t u):=PS.mono (O8 hc ha hb) λD' Y H zz=>Bg zz λU M D hs hm ht k1 k2 k3 k4=>
 ⟨U,M,_,hs,hm,ht,λb H1 M1 RS e1 q1=>by
  have up:∀t:rO,t D U M1->GU X.K t D' Y H1:=λt q=>⟨U,M1,D,hs.mono e1,RS,q,λσ' H' δ' M' x1 x2 x3 x4 x5=>k1 σ' H' δ' M' x1 x2 (e1.trans x3) x4 x5,λv H' d M' x1 x2 x3 x4=>k2 v H' d M' x1 x2 (e1.trans x3) x4,λσ' H' δ' M' x1 x2 x3 x4 x5=>k3 σ' H' δ' M' x1 x2 (e1.trans x3) x4 x5,λσ' H' δ' M' x1 x2 x3 x4 x5=>k4 σ' H' δ' M' x1 x2 (e1.trans x3) x4 x5⟩
  cases b with
  | true=>exact(b9 rfl).mpr (up t ((b9 rfl).mp q1))
  | false=>exact(bV cg).mpr (up u ((bV cg).mp q1))⟩
def NF:rO:=λ_ _ _=>False
def Hc{st:Stmt}:S3 X st NF:=PS.mono IX λD' Y H ⟨U,M,D,hs,hm,ht,_⟩=>ht
abbrev zK:=D->rH->Mp->(rH->Mp->Prop)->Prop
def PV(K:nz)(g:zK):TG:=λv Y H Q'=>Gc λd U M Q=>o9 K H d v/\vO K H Y U/\HM K H M/\g d U M Q/\∀σ' H' δ' M',vO K H' σ' δ'->HM K H' M'->nX K H H'->σ'.length=Y.length->Q δ' M'->Q' σ' H'
def G3(X:Cx)(e:Expr)(g:zK):Prop:=PG X e (PV X.K g)
def PG.lG{X:Cx}{e:Expr}{t t':TG}(h:PG X e t)(m:∀v Y H Q,Y.length=X.N.length->t' v Y H Q->t v Y H Q):PG X e t':=λRP s Y H v u Q I r q=>h RP s Y H v u Q I r (m v Y H Q I.len q)
noncomputable def pk(i:Nat):zK:=λd U M Q=>Q (U.set i (some d)) M
def EB{i:Nat}{x:Str}(hN:X.N.Nodup)(hi:X.N[i]?=some x)(hx:Bo X.env.scope x)(hf:BP X x:=by first|exact .inl rfl|exact .inr rfl|assumption):G3 X (.Name x pos) (pk i):=
 PG.lG (Lj hN hi hx hf) λv Y H Q' hl ⟨d,U,M,Q,hd,hs,hm,ht,k⟩=>k _ H _ M (hs.set hd (by rw[hl];exact(bW.mp hi).1)) hm .refl (by simp) ht
abbrev C0:=V0 D->rH->Mp->(rH->Mp->Prop)->Prop
def QY(K:nz)(g:C0):La:=λvs Y H Q'=>Gc λds U M Q=>nq K H ds vs/\vO K H Y U/\HM K H M/\g ds U M Q/\∀σ' H' δ' M',vO K H' σ' δ'->HM K H' M'->nX K H H'->σ'.length=Y.length->Q δ' M'->Q' σ' H'
def P'(X:Cx)(es:V0 Expr)(g:C0):Prop:=Jn X es (QY X.K g)
def Jn.mono{X:Cx}{e:V0 Expr}{t t':La}(h:Jn X e t)(m:∀v Y H Q,t' v Y H Q->t v Y H Q):Jn X e t':=λRP s Y H v u Q I r q=>h RP s Y H v u Q I r (m v Y H Q q)
def PG.mono{X:Cx}{e:Expr}{t t':TG}(h:PG X e t)(m:∀v Y H Q,t' v Y H Q->t v Y H Q):PG X e t':=λRP s Y H v u Q I r q=>h RP s Y H v u Q I r (m v Y H Q q)
def Ce:C0:=λds U M Q=>match ds with|[]=>Q U M|_=>False
def ze(t:zK)(u:C0):C0:=λds U M Q=>match ds with|d::r=>t d U M λδ' M'=>u r δ' M' Q|[]=>False
def oY:P' X [] Ce:=Jn.mono KP λvs Y H Q' ⟨ds,U,M,Q,hd,hs,hm,ht,k⟩=>by
 cases ds with
 | nil=>exact⟨hd.nil_inv,k Y H U M hs hm .refl rfl ht⟩
 | cons _ _=>exact ht.elim
def mQ{e:Expr}{es:V0 Expr}{t:zK}{u:C0}(h1:G3 X e t)(h2:P' X es u)(hs:(assignEach (e::es) X.env).map (·.2)=assign e X.env::(assignEach es X.env).map (·.2):=by rfl):P' X (e::es) (ze t u):=
 Jn.mono (Hz h1 h2 hs) λvs Y H Q' ⟨ds,U,M,Q,hd,hs,hm,ht,k⟩=>by
 cases ds with
 | nil=>exact ht.elim
 | cons d r=>obtain⟨x,xr,rfl,hx,hr⟩:=hd.inv;exact⟨x,xr,rfl,d,U,M,_,hx,hs,hm,ht,λσ1 H1 δ1 M1 TZ RS e1 l1 q1=>⟨r,δ1,M1,Q,hr.mono e1,TZ,RS,q1,λσ' H' δ' M' x1 x2 x3 x4 x5=>k σ' H' δ' M' x1 x2 (e1.trans x3) (x4.trans l1) x5⟩⟩
def Pa(n:Nat)(t:C0):zK:=λd U M Q=>match d with|.tup ds=>ds.length=n/\t ds U M Q|_=>False
def pT{es:V0 Expr}{k:Nat}{t:C0}{n:Nat}(hc:X.calm=true)(h:P' X es t)(hn:(assignEach es X.env).length=n:=by rfl)(Sv:(assignEach es X.env).findIdx? (·.1)=none:=by rfl):G3 X (.Tuple es k pos) (Pa n t):=
 PG.mono (Nh hc h hn Sv) λv Y H Q' ⟨d,U,M,Q,hd,hs,hm,ht,k⟩=>by
 cases d with
 | tup ds=>obtain⟨a,xs,rfl,h1,h2⟩:=hd.k8;exact⟨a,xs,rfl,h1,by rw[<-h2.length];exact ht.1,ds,U,M,Q,h2,hs,hm,ht.2,k⟩
 | _=>exact ht.elim
def rm(te:T3)(g:zK):rO:=λD U M=>te U M λx M1=>g x U M1 D.nx
def Bk{tg e:Expr}{te:T3}{g:zK}(he:E3 X e te)(hg:G3 X tg g)(hs:swapsWithSole [tg] e pos.line X.env=pure false:=by rfl)(hw:swappedStores [tg] e X.env=pure none:=by rfl)
  (h1:(assignEach [tg] X.env).map (·.2)=[assign tg X.env]:=by rfl):S3 X (.Assign [tg] e pos) (rm te g):=PS.mono (NH he hg hs hw h1) λD' Y H zz=>Bg zz λU M D hs hm ht k1 k2 k3 k4=>
 ⟨U,M,_,hs,hm,ht,λv H1 d M1 hd RS e1 q1=>⟨d,U,M1,_,hd,hs.mono e1,RS,q1,λσ' H' δ' M' x1 x2 x3 x4 x5=>k1 σ' H' δ' M' x1 x2 (e1.trans x3) x4 x5⟩⟩
def IF{i:Nat}{x:Str}{e:Expr}{te:T3}{R1:Pos}(hN:X.N.Nodup)(hi:X.N[i]?=some x)(hx:Bo X.env.scope x)(he:E3 X e te)(SH:swapsWith e (some (.Name x R1)) pos.line X.env=pure false:=by rfl)
  (hf:BP X x:=by first|exact .inl rfl|exact .inr rfl|assumption):S3 X (.Assign [.Name x R1] e pos) (rm te (pk i)):=PS.lG (Mm hN hi hx he SH hf) λD' Y H hl zz=>Bg zz λU M D hs hm ht k1 k2 k3 k4=>
 ⟨U,M,_,hs,hm,ht,λv H1 d M1 hd RS e1 q1=>k1 _ H1 _ M1 ((hs.mono e1).set hd (by rw[hl];exact(bW.mp hi).1)) RS e1 (by simp) q1⟩
end
abbrev rf:=V0 D->Mp->DK->Prop
def Ot(K:nz)(sp:rf):Sp:=λvs H Q' _=>Ef λds M Q=>nq K H ds vs/\HM K H M/\sp ds M Q/\Up K H Q' Q
noncomputable def ug(N:QQQ)(ds:V0 D):rH:=ds.map some++List.replicate (N.length - ds.length) none
def Ao{K:nz}{H:Hp}{N:QQQ}{ds:V0 D}{vs:V0 V}(h:nq K H ds vs):vO K H (L2.vA N vs) (ug N ds):=λi d q=>by
 unfold ug at q;unfold L2.vA;by_cases hi:i<ds.length
 .rw[dM (by simpa using hi),cD]at q;cases e:ds[i]? with
  | none=>rw[e]at q;cases q
  | some d'=>rw[e]at q;cases q;obtain⟨v,e1,e2⟩:=h.get e;refine⟨v,?_,e2⟩;rw[dM (by rw[bP,<-h.length];exact hi),cD,e1];rfl
 .rw[dW (by simpa using hi),iS]at q;split at q<;>cases q
variable {P:Pg}{w:Wo}{mg:QQZ}{base:Heap}
abbrev Ov(P:Pg)(w:Wo)(K:nz)(mg:QQZ)(base:Heap)(k:Nat)(f:Addr)(fd:FuncData)(ps:QQQ)(sp:rf):Prop:=xg P w K mg base Jj k f fd ps (Ot K sp)
variable {k:Nat}{f C:Addr}{fd:FuncData}{ps:QQQ}{sp:rf}{x m fn:Str}{p RT:Pos}{e o:Expr}{es:V0 Expr}{t:rM}
def AJ(sp:rf)(t:rM):T3:=λU M Q=>t U M λds M1=>sp ds M1 Q
def K8(F:Ov X.prog X.w X.K X.mg X.base k f fd ps sp)(hr:pJ k X.A)(hg:Gl X x)(hm:X.mg x=some (.ref f))(hk:W.keepIn X.K (.ref f)=true)(hb:rq X.K fd ps [])(ha:A3 X (e::es) t) (Sa:vq x:=by decide) (he:wj X e es:=by rfl) (Se:wX X pos es:=by rfl):
  E3 X (.Call (.Name x p) (e::es) [] pos) (AJ sp t):=PE.mono (EH F hr hg hm hk hb .nil (EC (X:=X)) ha Sa he Se) λY H Q' zz=>x7 zz λU M Q hs hm ht k=>
 ⟨U,M,_,hs,hm,ht,λvs H1 ds M1 hd RS e1 q1=>⟨ds,M1,Q,by rw[cJ];exact hd,RS,q1,qK e1 k⟩⟩
def C3(X:Cx)(f:Vl)(r:rf):Prop:=uC X f λvs H Q'=>∃ds M Q,nq X.K H ds vs/\HM X.K H M/\r ds M Q/\Up X.K H Q' Q
def mJ{id:String}{r:rf}(hc:C3 X (.builtin id) r)(hg:Gl X x)(hm:X.mg x=none)(hv:bootBuiltins x=some (.builtin id))(ha:A3 X (e::es) t)(hn:x≠"__name__":=by decide)(Sa:vq x:=by decide)
  (he:wj X e es:=by rfl) (Se:wX X pos es:=by rfl):E3 X (.Call (.Name x p) (e::es) [] pos) (AJ r t):=
 PE.mono (GW hc hg hm hv ha hn Sa he Se) λY H Q' zz=>x7 zz λU M Q hs hm ht k=>⟨U,M,_,hs,hm,ht,λvs H1 ds M1 hd RS e1 q1=>⟨ds,M1,Q,hd,RS,q1,qK e1 k⟩⟩
def nK{T:String}{r:rf}(hc:C3 X (.type T) r)(hg:Gl X x)(hm:X.mg x=none)(hv:bootBuiltins x=some (.type T))(ha:A3 X (e::es) t)(hn:x≠"__name__":=by decide)(Sa:vq x:=by decide)
  (he:wj X e es:=by rfl) (Se:wX X pos es:=by rfl):E3 X (.Call (.Name x p) (e::es) [] pos) (AJ r t):=
 PE.mono (FP hc hg hm hv ha hn Sa he Se) λY H Q' zz=>x7 zz λU M Q hs hm ht k=>⟨U,M,_,hs,hm,ht,λvs H1 ds M1 hd RS e1 q1=>⟨ds,M1,Q,hd,RS,q1,qK e1 k⟩⟩
def OB(ds:V0 D)(M:Mp)(Q:DK):Prop:=match ds with
 | [.str z]=>z.length<=sizeLine/\Q (.int z.length) M
 | [.tup es]=>Q (.int es.length) M
 | [.ref a]=>(lO M a).elim False λes=>Q (.int es.length) M
 | [.rl es]=>Q (.int es.length) M
 | _=>False
def oy{K:nz}{H:Hp}{d:D}{vs:V0 V}(h:nq K H [d] vs):∃v,vs=[v]/\o9 K H d v:=by obtain⟨x,r,rfl,a,b⟩:=h.inv;rw[b.nil_inv];exact⟨x,rfl,a⟩
def tT{K:nz}{H:Hp}{d e:D}{vs:V0 V}(h:nq K H [d,e] vs):∃v u,vs=[v,u]/\o9 K H d v/\o9 K H e u:=by obtain⟨x,r,rfl,a,b⟩:=h.inv;obtain⟨y,rfl,c⟩:=oy b;exact⟨x,y,rfl,a,c⟩
def mZ:C3 X (.builtin "len") OB:=by
 intro RP s Y H vs us Q' I rv h;obtain⟨ds,M,Q,hd,hm,q,k⟩:=h;unfold OB at q;split at q
 .obtain⟨v,rfl,hv⟩:=oy hd;cases hv.str_inv;exact BB RP s Y H _ us Q' I rv ⟨_,rfl,q.1,k _ _ _ _ .int hm .refl q.2⟩
 .obtain⟨v,rfl,hv⟩:=oy hd;obtain⟨a,xs,rfl,h1,h2⟩:=hv.k8;exact tP RP s Y H _ us Q' I rv ⟨a,xs,rfl,.inr h1,k _ _ _ _ (by rw[<-h2.length];exact .int) hm .refl q⟩
 .obtain⟨v,rfl,hv⟩:=oy hd;obtain⟨es,e0,q⟩:=nU q;cases hv.kX;obtain⟨xs,h1,h2,_⟩:=mU hm e0;exact tP RP s Y H _ us Q' I rv ⟨_,xs,rfl,.inl h1,k _ _ _ _ (by rw[<-h2.length];exact .int) hm .refl q⟩
 .obtain⟨v,rfl,hv⟩:=oy hd;obtain⟨a,xs,rfl,h1,h2⟩:=hv.lj;exact tP RP s Y H _ us Q' I rv ⟨a,xs,rfl,.inl h1.sq,k _ _ _ _ (by rw[<-h2.length];exact .int) hm .refl q⟩
 .exact q.elim
def Pj(ds:V0 D)(M:Mp)(Q:DK):Prop:=match ds with
 | [.int i,.int j]=>Q (.int (if j<i then j else i)) M
 | _=>False
def On(hc:X.calm=true):C3 X (.builtin "min") Pj:=by
 intro RP s Y H vs us Q' I rv h;obtain⟨ds,M,Q,hd,hm,q,k⟩:=h;unfold Pj at q;split at q
 .obtain⟨v,u,rfl,hv,hw⟩:=tT hd;cases hv.int_inv;cases hw.int_inv;exact Gs hc RP s Y H _ us Q' I rv ⟨_,_,rfl,k _ _ _ _ .int hm .refl q⟩
 .exact q.elim
def Hg(ds:V0 D)(M:Mp)(Q:DK):Prop:=match ds with
 | [.tup es]=>Q (.tup es) M
 | [.ref a]=>(lO M a).elim False λes=>Q (.tup es) M
 | [.rl es]=>Q (.tup es) M
 | _=>False
def tz:C3 X (.type "tuple") Hg:=by
 intro RP s Y H vs us Q' I rv h;obtain⟨ds,M,Q,hd,hm,q,k⟩:=h;unfold Hg at q;split at q
 .obtain⟨v,rfl,hv⟩:=oy hd;obtain⟨a,xs,rfl,h1,h2⟩:=id hv.k8;exact sW RP s Y H _ us Q' I rv ⟨a,xs,rfl,.inr ⟨h1,k _ _ _ _ hv hm .refl q⟩⟩
 .obtain⟨v,rfl,hv⟩:=oy hd;obtain⟨es,e0,q⟩:=nU q;cases hv.kX;obtain⟨xs,h1,h2,_⟩:=mU hm e0;refine sW RP s Y H _ us Q' I rv ⟨_,xs,rfl,.inl ⟨h1,λl hl=>?_⟩⟩;have e:nX X.K H (upd H l (.tup xs)):=.new hl;exact k _ _ _ _ (.tup (.of m9) (h2.mono e)) (hm.add hl) e q
 .obtain⟨v,rfl,hv⟩:=oy hd;obtain⟨a,xs,rfl,h1,h2⟩:=hv.lj;refine sW RP s Y H _ us Q' I rv ⟨_,xs,rfl,.inl ⟨h1.sq,λl hl=>?_⟩⟩;have e:nX X.K H (upd H l (.tup xs)):=.new hl;exact k _ _ _ _ (.tup (.of m9) (h2.mono e)) (hm.add hl) e q
 .exact q.elim
def Lu(ds:V0 D)(M:Mp)(Q:DK):Prop:=match ds with
 | [d]=>(HQ M d).elim False λes=>∀p,M p=none->Q (.ref p) (mS M p (.lst es))
 | _=>False
def wU:C3 X (.type "list") Lu:=by
 intro RP s Y H vs us Q' I rv h;obtain⟨ds,M,Q,hd,hm,q,k⟩:=h;unfold Lu at q;split at q
 .obtain⟨v,rfl,hv⟩:=oy hd;obtain⟨es,e0,q⟩:=nU q;obtain⟨p,xs,rfl,h1,h2⟩:=AY hm hv e0;refine AX RP s Y H _ us Q' I rv ⟨p,xs,rfl,h1,λl hl=>?_⟩;have e:nX X.K H (upd H l (.lst xs)):=.new hl;exact k _ _ _ _ .ref (hm.new (c:=.lst es) hl ⟨_,m9,h2.mono e⟩) e (q l (hm.fresh hl))
 .exact q.elim
theorem vZ{K:nz}{H:Hp}{f:Str}:∀{fs:V0 (Str×D)} {vs:V0 (Str×V)},zy K H fs vs->(∀d,fs.lookup f=some d->∃v,vs.lookup f=some v/\o9 K H d v)/\(fs.lookup f=none->vs.lookup f=none)
 | [],[],_=>⟨λd e=>by simp at e,λ_=>rfl⟩
 | [],_::_,h=>by have:=h.1;simp at this
 | _::_,[],h=>by have:=h.1;simp at this
 | (g,d)::fs,(g',v)::vs,h=>by
  have h1:g'=g/\vs.map (·.1)=fs.map (·.1):=by
   have:=h.1
   simpa using this
  obtain⟨x,r,e,a,b⟩:=h.2.inv;have e':v::vs.map (·.2)=x::r:=e;cases e';obtain⟨i1,i2⟩:=vZ (f:=f) (fs:=fs) (vs:=vs) ⟨h1.2,b⟩;rw[h1.1];refine⟨λd' e=>?_,λe=>?_⟩
  .rw[dg]at e ⊢;cases q:f==g with
   | true=>rw[q]at e;cases e;exact⟨v,rfl,a⟩
   | false=>rw[q]at e;exact i1 d' e
  .rw[dg]at e ⊢;cases q:f==g with
   | true=>rw[q]at e;cases e
   | false=>rw[q]at e;exact i2 e
theorem Ey{f:Str}{d:D}:∀{fs:V0 (Str×D)},fs.lookup f=some d->f∈fs.map (·.1)
 | [],h=>by simp at h
 | (g,e)::r,h=>by
  rw[dg]at h;cases q:f==g with
  | true=>
   have z:f=g:=by simpa using q
   rw[z,cY];exact ck
  | false=>rw[q]at h;simp[Ey h]
def F9(o:Option s9)(F:Addr->V0 (Str×D)->Prop):Prop:=match o with
 | some (.ins C fs)=>F C fs
 | _=>False
def oZ{o:Option s9}{F:Addr->V0 (Str×D)->Prop}{C:Addr}{fs:V0 (Str×D)}(e:o=some (.ins C fs))(h:F C fs):F9 o F:=by rw[e];exact h
def yS{o:Option s9}{F:Addr->V0 (Str×D)->Prop}(h:F9 o F):∃C fs,o=some (.ins C fs)/\F C fs:=by
 unfold F9 at h;split at h
 .exact⟨_,_,rfl,h⟩
 .exact h.elim
def Rh(f:Str)(ta:T3):T3:=λU M Q=>ta U M λx M1=>match x with
 | .ref a=>F9 (M1 a) λ_ fs=>(fs.lookup f).elim False λd=>Q d M1
 | _=>False
def yz{f:Str}(he:E3 X o ta)(hb:attributeBase o f X.env (eval o X.env)=eval o X.env:=by rfl):E3 X (.Attribute o f pos) (Rh f ta):=PE.mono (MP he hb) λY H Q' zz=>x7 zz λU M Q hs hm ht k=>
 ⟨U,M,_,hs,hm,ht,λv H1 d M1 hd RS e1 q1=>by
  cases d with
  | ref a=>cases hd.kX;obtain⟨C,fs,e,q1⟩:=yS q1;obtain⟨d,e2,q⟩:=nU q1;obtain⟨dx,vs,h1,cl,na,fo⟩:=RS a _ e;obtain⟨v,e3,hv⟩:=(vZ fo).1 d e2;exact⟨a,C,dx,vs,v,rfl,h1,cl,na f (Ey e2),e3,k v H1 d M1 hv RS e1 q⟩
  | _=>exact q1.elim⟩
noncomputable def yK(f:Str)(v:D):V0 (Str×D)->V0 (Str×D)
 | []=>[(f,v)]
 | (g,u)::r=>if g=f then(g,v)::r else(g,u)::yK f v r
theorem EV{K:nz}{H:Hp}{f:Str}{d:D}{v:V}(hv:o9 K H d v):∀{fs:V0 (Str×D)} {vs:V0 (Str×V)},zy K H fs vs->zy K H (yK f d fs) (tK f v vs)
 | [],[],_=>⟨rfl,.cons hv .nil⟩
 | [],_::_,h=>by have:=h.1;simp at this
 | _::_,[],h=>by have:=h.1;simp at this
 | (g,e)::fs,(g',u)::vs,h=>by
  have h1:g'=g/\vs.map (·.1)=fs.map (·.1):=by
   have:=h.1
   simpa using this
  obtain⟨x,r,e1,a,b⟩:=h.2.inv;have e':u::vs.map (·.2)=x::r:=e1;cases e';obtain⟨hg,ht⟩:=h1;subst hg;rw[show yK f d ((g',e)::fs)=(if g'=f then(g',d)::fs else(g',e)::yK f d fs)from rfl,show tK f v ((g',u)::vs)=(if g'=f then(g',v)::vs else(g',u)::tK f v vs)from rfl];by_cases q:g'=f
  .rw[b9 q,b9 q];exact⟨by simpa using ht,.cons hv b⟩
  .rw[bV q,bV q];obtain⟨i1,i2⟩:=EV hv (fs:=fs) (vs:=vs) ⟨ht,b⟩;exact⟨by simpa using i1,.cons a i2⟩
theorem CO{f:Str}{d:D}:∀{fs:V0 (Str×D)} {g:Str},g∈(yK f d fs).map (·.1)->g=f\/g∈fs.map (·.1)
 | [],g,h=>.inl (by simpa [yK]using h)
 | (k,e)::r,g,h=>by
  rw[show yK f d ((k,e)::r)=(if k=f then(k,d)::r else(k,e)::yK f d r)from rfl]at h;by_cases q:k=f
  .rw[b9 q]at h;exact .inr (by simpa using h)
  .rw[bV q]at h;rw[cY,bT]at h;rcases h with h|h
   .exact .inr (by simp[h])
   .rcases CO h with z|z
    .exact .inl z
    .exact .inr (by simp;right;simpa using z)
def OU(K:nz)(f:Str)(ta tv:T3):rO:=λD U M=>tv U M λy M1=>ta U M1 λx M2=>match x with
 | .ref a=>F9 (M2 a) λC fs=>ra K C f/\fs.length<1000/\D.nx U (mS M2 a (.ins C (yK f y fs)))
 | _=>False
def p9{f:Str}{value:Expr}{tv:T3}{R1:Pos}(ha:E3 X o ta)(hv:E3 X value tv)(SH:swapsWith value (some (.Attribute o f R1)) pos.line X.env=pure false:=by rfl):S3 X (.Assign [.Attribute o f R1] value pos) (OU X.K f ta tv):=
 PS.mono (Oa ha hv SH) λD' Y H zz=>Bg zz λU M D hs hm ht k1 k2 k3 k4=>
 ⟨U,M,_,hs,hm,ht,λy H1 dy M1 hy RS e1 q1=>⟨U,M1,_,hs.mono e1,RS,q1,λv H2 d M2 hd R7 e2 q2=>by
  cases d with
  | ref a=>
   cases hd.kX;obtain⟨C,fs,e,q2⟩:=yS q2;obtain⟨na,hl,q⟩:=q2;obtain⟨dx,vs,h1,cl,nn,fo⟩:=R7 a _ e;have R4:vs.length=fs.length:=by have:=dJ List.length fo.1;simpa using this
   refine⟨a,C,dx,vs,rfl,h1,cl,na,by lia,?_⟩;obtain⟨Sz,e3⟩:=R7.put (p:=a) (o:=.ins C dx (tK f y vs)) (c:=.ins C (yK f dy fs)) e λx=>⟨dx,_,m9,cl,λg hg=>by
    rcases CO hg with z|z
    .rw[z];exact na
    .exact nn g z,EV ((hy.mono e2).mono x) (fo.mono x)⟩
   exact k1 Y _ U _ (hs.mono (e1.trans (e2.trans e3))) Sz (e1.trans (e2.trans e3)) rfl q
  | _=>exact q2.elim⟩⟩
def LD(C:Addr)(sp:rf)(t:rM):T3:=λU M Q=>t U M λds M1=>∀x,M1 x=none->sp (.ref x::ds) (mS M1 x (.ins C [])) λd M2=>d=.k9/\Q (.ref x) M2
def BZ{K:nz}{H:Hp}{M:Mp}{xa dx:Addr}(hm:HM K H M)(cl:Cls K C)(h1:H xa=none)(h2:H dx=none)(ne:dx≠xa):HM K (upd (upd H dx (.own xa)) xa (.ins C dx [])) (mS M xa (.ins C []))/\nX K H (upd (upd H dx (.own xa)) xa (.ins C dx [])):=by
 have Th:upd H dx (.own xa) xa=none:=by rw[ni (cH ne)];exact h1
 exact⟨(hm.add (p:=dx) (o:=.own xa) h2).new Th ⟨dx,[],m9,cl,λg hg=>by simp at hg,rfl,.nil⟩,nX.trans (.new h2) (.new Th)⟩
def Jw(cl:Cls X.K C)(Mk':Mk X.K C f)(F:Ov X.prog X.w X.K X.mg X.base k f fd ps sp)(hr:pJ (k+1) X.A)(hg:Gl X x)(hm:X.mg x=some (.ref C))(hb:rq X.K fd ps [])(ha:A3 X (e::es) t) (Sa:vq x:=by decide) (he:wj X e es:=by rfl) (Se:wX X pos es:=by rfl):
  E3 X (.Call (.Name x p) (e::es) [] pos) (LD C sp t):=PE.mono (Fm Mk' F hr hg hm hb .nil (EC (X:=X)) ha Sa he Se) λY H Q' zz=>x7 zz λU M Q hs hm ht k=>
 ⟨U,M,_,hs,hm,ht,λvs H1 ds M1 hd RS e1 q1=>λxa dx n1 n2 ne=>by
  obtain⟨R7,e2⟩:=BZ RS cl n1 n2 ne;refine⟨.ref xa::ds,_,_,?_,R7,q1 xa (RS.fresh n1),λv H3 d M3 hd3 Sz e3 q3=>?_⟩
  .rw[cJ];exact .cons .ref (hd.mono e2)
  .obtain⟨z,q3⟩:=q3;subst z;exact⟨hd3.kZ,k _ H3 _ M3 .ref Sz (e1.trans (e2.trans e3)) q3⟩⟩
def HJ(m:Str)(R:Addr->Sp->Prop)(ta:TE)(t:TA):TE:=λY H Q=>ta Y H λx H1=>∃a C dx fs sp,x=.ref a/\H1 a=some (.ins C dx fs)/\fs.lookup m=none/\R C sp/\t Y H1 λvs H2=>sp (x::vs) H2 Q E0
def DO(P:Pg)(w:Wo)(K:nz)(mg:QQZ)(base:Heap)(k:Nat)(m:Str)(C:Addr)(sp:Sp):Prop:=Cls K C/\∃f fd ps,zV K C m f/\xg P w K mg base Jj k f fd ps sp/\rq K fd ps []
def FZ{R:Addr->Sp->Prop}{ta:TE}{pl:Sem Bool}(he:PE X o ta)(hR:∀C sp,R C sp->DO X.prog X.w X.K X.mg X.base k m C sp)(hr:pJ k X.A) (ht:eval (.Call (.Attribute o m RT) [] [] pos) X.env=(do
   let ov<-eval o X.env
   standAt RT.atName
   let(f,first)<-holding [ov] (getMethod ov m pl)
   callWith pos f first (backTo pos (starEach [] X.env)) (backToKw pos (keywordEach [] X.env))):=by rfl):
  PE X (.Call (.Attribute o m RT) [] [] pos) (HJ m R ta Ms):=by
 intro RP s Y H Q I h;refine kC (pl:=pl) (pC (he RP s Y H _ I h) λu s1 zz=>?_) ht;obtain⟨x,H1,I1,rx,a,C,dx,fs,sp,ex,ea,l,hRC,q⟩:=zz;obtain⟨c,f,fd,ps,hm,F,hb⟩:=hR C sp hRC;subst ex;obtain rfl:u=Value.ref a:=rx;refine Dq I1 ea c hm l ?_;exact W.callWith_K0 (first:=[.ref a]) I1.ls hm.kp (Dl (us:=[.ref a]) (vs:=[.ref a]) F hr hb .nil (EC (X:=X)) I1 (.cons rfl .nil) (by rw[cJ];exact q))
def LP(m:Str)(R:Addr->rf->Prop)(ta:T3)(t:rM):T3:=λU M Q=>ta U M λx M1=>match x with
 | .ref a=>F9 (M1 a) λC fs=>fs.lookup m=none/\∃sp,R C sp/\t U M1 λds M2=>sp (x::ds) M2 Q
 | _=>False
def Rl(K:nz)(R:Addr->rf->Prop):Addr->Sp->Prop:=λC sp'=>∃sp,R C sp/\sp'=Ot K sp
def KA{R:Addr->rf->Prop}:∀Y H Q',lo X.K (LP m R ta t) Y H Q'->HJ m (Rl X.K R) (lo X.K ta) (Rx X.K t) Y H Q':=λY H Q' zz=>x7 zz λU M Q hs hm ht k=>
 ⟨U,M,_,hs,hm,ht,λv H1 d M1 hd RS e1 q1=>by
  cases d with
  | ref a=>cases hd.kX;obtain⟨C,fs,e,q1⟩:=yS q1;obtain⟨hn,sp,hR,q⟩:=q1;obtain⟨dx,vs,h1,cl,na,fo⟩:=RS a _ e;exact⟨a,C,dx,vs,_,rfl,h1,(vZ fo).2 hn,⟨sp,hR,rfl⟩,U,M1,_,hs.mono e1,RS,q,λus H2 ds M2 SF R7 e2 q2=>⟨.ref a::ds,M2,Q,.cons .ref SF,R7,q2,qK (e1.trans e2) k⟩⟩
  | _=>exact q1.elim⟩
def GG{R:Addr->rf->Prop}{pl:Sem Bool}(he:E3 X o ta)(hR:∀C sp,R C sp->DO X.prog X.w X.K X.mg X.base k m C (Ot X.K sp))(hr:pJ k X.A) (ht:eval (.Call (.Attribute o m RT) [] [] pos) X.env=(do
   let ov<-eval o X.env
   standAt RT.atName
   let(f,first)<-holding [ov] (getMethod ov m pl)
   callWith pos f first (backTo pos (starEach [] X.env)) (backToKw pos (keywordEach [] X.env))):=by rfl):
  E3 X (.Call (.Attribute o m RT) [] [] pos) (LP m R ta vw):=PE.mono (FZ (R:=Rl X.K R) he (λC sp' ⟨sp,h,z⟩=>by rw[z];exact hR C sp h) hr ht) λY H Q' h=>by
 obtain⟨U,M,Q,hs,hm,ht,k⟩:=KA (t:=vw) Y H Q' h;refine⟨U,M,Q,hs,hm,ht,λv H' d M' x1 x2 x3 x4=>?_⟩;obtain⟨a,C,dx,fs,sp,e1,e2,e3,e4,δ',RW,Q'',y1,y2,y3,y4⟩:=k v H' d M' x1 x2 x3 x4;exact⟨a,C,dx,fs,sp,e1,e2,e3,e4,y4 [] H' [] RW .nil y2 .refl y3⟩
structure zS(K:nz)(H1:Hp)(J:It)(ds:List D)(ok:Mp->Prop):Prop where
 go:∀i H M,i<ds.length->HM K H M->ok M->nX K H1 H->J.go i H
 mv:∀i d H M x H',ds[i]?=some d->HM K H M->ok M->nX K H1 H->J.mv i H x H'->o9 K H' d x/\HM K H' M/\nX K H H'
 stop:∀H M,HM K H M->ok M->nX K H1 H->J.stop ds.length H
abbrev Gg:=rH->Mp->(V0 D->(Mp->Prop)->Mp->Prop)->Prop
def Ru(K:nz)(wi:Gg):TI:=λY H R'=>Ef λU M R=>vO K H Y U/\HM K H M/\wi U M R/\∀J H1 ds ok M1,zS K H1 J ds ok->HM K H1 M1->nX K H H1->ok M1->R ds ok M1->R' J H1
def I3(X:Cx)(tg iter:Expr)(wi:Gg):Prop:=PI X tg iter (Ru X.K wi)
def PI.mono{X:Cx}{tg e:Expr}{t t':TI}(h:PI X tg e t)(m:∀Y H Q,t' Y H Q->t Y H Q):PI X tg e t':=λRP s Y H Q I q=>h RP s Y H Q I (m Y H Q q)
variable {H1:Hp}
def IM{a:Addr}{ds:V0 D}:zS K H1 (PZ K a) ds (λM=>lO M a=some ds) where
 go:=λi H M hi hm ok _=>by obtain⟨xs,h1,h2,_⟩:=mU hm ok;obtain⟨x,e,_⟩:=h2.get (bZ hi);exact⟨xs,x,h1,e⟩
 mv:=λi d H M x H' hd hm ok _ y=>by obtain⟨xs,h1,h2,_⟩:=mU hm ok;obtain⟨e,y⟩:=y;subst e;obtain⟨x',e,hx⟩:=h2.get hd;have:=y xs h1;rw[e]at this;cases this;exact⟨hx,hm,.refl⟩
 stop:=λH M hm ok _=>by obtain⟨xs,h1,h2,_⟩:=mU hm ok;exact⟨xs,h1,by rw[h2.length];exact cq _⟩
def K5{a:Addr}{ds:V0 D}{xs:V0 V}(h1:rc K H1 a xs)(h2:nq K H1 ds xs):zS K H1 (Qr K a) ds (λ_=>True) where
 go:=λi H M hi hm ok e1=>by obtain⟨x,e,_⟩:=h2.get (bZ hi);exact⟨xs,x,e1.t _ _ h1,e⟩
 mv:=λi d H M x H' hd hm ok e1 y=>by obtain⟨e,y⟩:=y;subst e;obtain⟨x',e,hx⟩:=h2.get hd;have:=y xs (e1.t _ _ h1);rw[e]at this;cases this;exact⟨hx.mono e1,hm,.refl⟩
 stop:=λH M hm ok e1=>⟨xs,e1.t _ _ h1,by rw[h2.length];exact cq _⟩
def My{a:Addr}{ds:V0 D}{xs:V0 V}(h1:Kn K H1 a xs)(h2:nq K H1 ds xs):zS K H1 (PZ K a) ds (λ_=>True) where
 go:=λi H M hi hm ok e1=>by obtain⟨x,e,_⟩:=h2.get (bZ hi);exact⟨xs,x,(h1.mono e1).sq,e⟩
 mv:=λi d H M x H' hd hm ok e1 y=>by obtain⟨e,y⟩:=y;subst e;obtain⟨x',e,hx⟩:=h2.get hd;have:=y xs (h1.mono e1).sq;rw[e]at this;cases this;exact⟨hx.mono e1,hm,.refl⟩
 stop:=λH M hm ok e1=>⟨xs,(h1.mono e1).sq,by rw[h2.length];exact cq _⟩
def Gi{n:Nat}{lo:Int}:zS K H1 (P4 lo n) ((List.range n).map λi=>D.int (lo+(i:Nat))) (λ_=>True) where
 go:=λi H M hi hm ok e1=>by
  have z:i<n:=by simpa using hi
  exact z
 mv:=λi d H M x H' hd hm ok e1 y=>by
  obtain⟨e,y⟩:=y;subst e;subst y;have hi:i<n:=by
   have:=(bW.mp hd).1
   simpa using this
  have UQ:d=D.int (lo+(i:Nat)):=by rw[cD,hV hi]at hd;exact(ce hd).symm
  subst UQ;exact⟨.int,hm,.refl⟩
 stop:=λH M hm ok e1=>by show n<=_;simp
variable {scope:Scope}{ix:V0 (Option Nat)}{N':QQQ}{iter Sj:Expr}{Sk:V0 Expr}{wi:Gg}{g:zK}{tt:xJ}{te:T3}{tg:Expr}
def PL(t:T3):Gg:=λU M R=>t U M λx M1=>match x with
 | .tup ds=>R ds (λ_=>True) M1
 | .ref a=>(lO M1 a).elim False λds=>R ds (λM=>lO M a=some ds) M1
 | .rl ds=>R ds (λ_=>True) M1
 | .str z=>R (z.cps.toList.map λc=>D.str ⟨#[c]⟩) (λ_=>True) M1
 | _=>False
def K'{K:nz}{H1:Hp}{z:Str}:zS K H1 (Qy z) (z.cps.toList.map λc=>D.str ⟨#[c]⟩) (λ_=>True) where
 go:=λi H M hi hm ok _=>by
  show i<z.cps.size
  simpa using hi
 mv:=λi d H M x H' hd hm ok _ y=>by obtain⟨e,c,e1,e2⟩:=y;subst e e2;rw[cD,Array.getElem?_toList,e1]at hd;cases hd;exact⟨.str,hm,.refl⟩
 stop:=λH M hm ok _=>by show _=z.cps.size;simp
def nR{l:Expr}{t:T3}(h:E3 X l t)(hc:X.calm=true:=by rfl):I3 X tg l (PL t):=PI.mono (K6 hc h) λY H R' zz=>x7 zz λU M R hs hm ht k=>
 ⟨U,M,_,hs,hm,ht,λv H1 d M1 hd RS e1 q1=>by
  cases d with
  | tup ds=>obtain⟨a,xs,rfl,h1,h2⟩:=hd.k8;exact .inl ⟨a,rfl,.inr ⟨⟨xs,h1⟩,k _ H1 ds _ M1 (K5 h1 h2) RS e1 trivial q1⟩⟩
  | ref a=>cases hd.kX;obtain⟨ds,e0,q⟩:=nU q1;obtain⟨xs,h1,h2,_⟩:=mU RS e0;exact .inl ⟨a,rfl,.inl ⟨⟨xs,h1⟩,k _ H1 ds _ M1 IM RS e1 e0 q⟩⟩
  | str z=>exact .inr ⟨z,hd.str_inv,k _ H1 _ _ M1 K' RS e1 trivial q1⟩
  | rl ds=>obtain⟨a,xs,rfl,h1,h2⟩:=hd.lj;exact .inl ⟨a,rfl,.inl ⟨⟨xs,h1.sq⟩,k _ H1 ds _ M1 (My h1 h2) RS e1 trivial q1⟩⟩
  | _=>exact q1.elim⟩
def OY(t:rM):Gg:=λU M R=>t U M λds M1=>match ds with
 | [.int j]=>(-(2 ^ 62)<=j/\j<2 ^ 62)/\R ((List.range j.toNat).map λi=>D.int (0+(i:Nat))) (λ_=>True) M1
 | [.int i,.int j]=>(-(2 ^ 62)<=i/\i<2 ^ 62/\-(2 ^ 62)<=j/\j<2 ^ 62)/\R ((List.range (j - i).toNat).map λn=>D.int (i+(n:Nat))) (λ_=>True) M1
 | _=>False
def vn{a:Expr}{ta:rM}(hg:Gl X "range")(hm:X.mg "range"=none)(ha:A3 X [a] ta)(hs:starEach [a] X.env=[(false,eval a X.env)]:=by rfl):I3 X tg (.Call (.Name "range" p) [a] [] pos) (OY λU M Q=>ta U M λds M1=>ds.length=1/\Q ds M1):=
 PI.mono (F2 hg hm ha hs) λY H R' zz=>x7 zz λU M R hs hm ht k=>⟨U,M,_,hs,hm,ht,λvs H1 ds M1 hd RS e1 q1=>by
  obtain⟨hl,q1⟩:=q1;split at q1
  .obtain⟨v,rfl,hv⟩:=oy hd;cases hv.int_inv;exact⟨_,rfl,q1.1.1,q1.1.2,k _ H1 _ _ M1 Gi RS e1 trivial q1.2⟩
  .simp at hl
  .exact q1.elim⟩
def zQ(g:zK)(tb:rO)(ok:Mp->Prop)(E:yE):V0 D->rH->Mp->Prop
 | [],U,M=>E.nx U M
 | d::r,U,M=>g d U M λδ2 M2=>tb {E with nx:=λδ' M'=>ok M'/\zQ g tb ok E r δ' M',ct:=λδ' M'=>ok M'/\zQ g tb ok E r δ' M',bk:=E.nx} δ2 M2
def JD(wi:Gg)(g:zK)(tb:rO):rO:=λE U M=>wi U M λds ok M1=>zQ g tb ok E ds U M1
def qM{iter:Expr}{body:V0 Stmt}{wi:Gg}{g:zK}{tb:rO}(hp:PassesOwn (model X.prog X.w) X.A X.env X.xe)(hc:X.calm=true)(hi:I3 X tg iter wi)(hg:G3 X tg g)(hb:zP X body tb) (hs:∀x,foldedSetIterable iter X.env x=pure x:=by intro _;rfl):S3 X (.For tg iter body [] pos) (JD wi g tb):=PS.mono (Nx hp hc hi hg hb hs) λD' Y H zz=>Bg zz λU M E hs hm ht k1 k2 k3 k4=>
 ⟨U,M,_,hs,hm,ht,λJ H1 ds ok M1 S RS e1 ok1 q1=>by
  refine⟨λi m σ' H'=>m=ds.length - i/\i<=ds.length/\∃δ' M',vO X.K H' σ' δ'/\HM X.K H' M'/\ok M'/\nX X.K H1 H'/\σ'.length=Y.length/\zQ g tb ok E (ds.drop i) δ' M',⟨ds.length,by simp,dY _,U,M1,hs.mono e1,RS,ok1,.refl,rfl,by simpa using q1⟩,?_⟩
  rintro i m σ' H' ⟨rfl,hi,δ',M',Ub,Tw,U5,e',l',q'⟩
  by_cases Sf:i<ds.length
  .rw[eN Sf]at q';refine .inr ⟨S.go i H' M' Sf Tw U5 e',λσ2 H2=>∃δ2 M2,vO X.K H2 σ2 δ2/\HM X.K H2 M2/\ok M2/\nX X.K H1 H2/\σ2.length=Y.length/\zQ g tb ok E (ds.drop (i+1)) δ2 M2,λσ2 H2 z=>⟨ds.length - (i+1),by lia,rfl,Sf,z⟩,λx H2 y=>?_⟩;obtain⟨hx,R7,e2⟩:=S.mv i ds[i] H' M' x H2 (bZ Sf) Tw U5 e' y;refine⟨ds[i],δ',M',_,hx,Ub.mono e2,R7,q',λσ3 H3 δ3 M3 x1 x2 x3 x4 x5=>?_⟩;refine⟨δ3,M3,_,x1,x2,x5,λσ4 H4 δ4 M4 y1 y2 y3 y4 y5=>?_,λv H4 d M4 y1 y2 y3 y4=>?_,λσ4 H4 δ4 M4 y1 y2 y3 y4 y5=>?_,λσ4 H4 δ4 M4 y1 y2 y3 y4 y5=>?_⟩
   .exact⟨δ4,M4,y1,y2,y5.1,e'.trans (e2.trans (x3.trans y3)),by rw[y4,x4,l'],y5.2⟩
   .exact k2 v H4 d M4 y1 y2 (e1.trans (e'.trans (e2.trans (x3.trans y3)))) y4
   .exact k1 σ4 H4 δ4 M4 y1 y2 (e1.trans (e'.trans (e2.trans (x3.trans y3)))) (by rw[y4,x4,l']) y5
   .exact⟨δ4,M4,y1,y2,y5.1,e'.trans (e2.trans (x3.trans y3)),by rw[y4,x4,l'],y5.2⟩
  .have e:i=ds.length:=by lia
   subst e;rw[ko]at q';exact .inl ⟨S.stop H' M' Tw U5 e',k1 σ' H' δ' M' Ub Tw (e1.trans e') l' q'⟩⟩
noncomputable def Ls(ix:V0 (Option Nat))(U:rH):rH:=ix.map λo=>o.bind λi=>(U[i]?).join
def K4{K:nz}{H:Hp}{Y:St}{U:rH}{ix:V0 (Option Nat)}(h:vO K H Y U):vO K H (Kb ix Y) (Ls ix U):=λi d q=>by
 unfold Ls at q;unfold Kb;rw[cD]at q ⊢;cases e:ix[i]? with
 | none=>rw[e]at q;cases q
 | some o=>
  rw[e]at q;cases o with
  | none=>cases q
  | some j=>
   have q':(U[j]?).join=some d:=ce q;have e4:U[j]?=some (some d):=by
    cases r:U[j]? with
    | none=>rw[r]at q';cases q'
    | some w=>rw[r]at q';exact dJ some q'
   obtain⟨v,e5,hv⟩:=h j d e4;refine⟨v,?_,hv⟩;show some ((Y[j]?).join)=some (some v);rw[e5];rfl
def tI(g:zK)(tt:xJ)(te:T3)(ok:Mp->Prop)(Q:DK):V0 D->V0 D->rH->Mp->Prop
 | [],acc,_,M=>acc.length<=sizeLine/\∀p,M p=none->Q (.ref p) (mS M p (.lst acc))
 | d::r,acc,U,M=>acc.length<sizeLine/\g d U M λδ2 M2=>tt δ2 M2 λb M3=>if b=true then te δ2 M3 λy M4=>ok M4/\tI g tt te ok Q r (acc++[y]) δ2 M4 else ok M3/\tI g tt te ok Q r acc δ2 M3
def E5(ix:V0 (Option Nat))(wi:Gg)(g:zK)(tt:xJ)(te:T3):T3:=λU M Q=>wi U M λds ok M1=>tI g tt te ok Q ds [] (Ls ix U) M1
def F3(X:Cx)(Sk:V0 Expr)(t:xJ):Prop:=PF X Sk (MT X.K t)
def PF.mono{X:Cx}{e:V0 Expr}{t t':TT}(h:PF X e t)(m:∀Y H Q,t' Y H Q->t Y H Q):PF X e t':=λRP s Y H Q I q=>h RP s Y H Q I (m Y H Q q)
def As:xJ:=λ_ M Q=>Q true M
def oz:F3 X [] As:=PF.mono Of λY H Q' zz=>x7 zz λU M Q hs hm ht k=>k true H M hm .refl ht
def Dj{c:Expr}{t:xJ}(h:B3 X c t):F3 X [c] t:=NE h
def BE:∀Y H Q',lo X.K (E5 ix wi g tt te) Y H Q'->ET ix (Ru X.K wi) (PV X.K g) (MT X.K tt) (lo X.K te) Y H Q':=λY H Q' zz=>x7 zz λU M Q hs hm ht k=>
 ⟨U,M,_,hs,hm,ht,λJ H1 ds ok M1 S RS e1 ok1 q1=>by
  refine⟨λi m ys σ' H'=>m=ds.length - i/\i<=ds.length/\∃δ' M' acc,vO X.K H' σ' δ'/\HM X.K H' M'/\nq X.K H' acc ys/\ok M'/\nX X.K H1 H'/\tI g tt te ok Q (ds.drop i) acc δ' M',⟨ds.length,by simp,dY _,Ls ix U,M1,[],K4 (hs.mono e1),RS,.nil,ok1,.refl,by simpa using q1⟩,?_⟩
  rintro i m ys σ' H' ⟨rfl,hi,δ',M',acc,Ub,Tw,TJ,U5,e',q'⟩
  by_cases Sf:i<ds.length
  .rw[eN Sf]at q';obtain⟨hz,q'⟩:=q';refine .inr ⟨S.go i H' M' Sf Tw U5 e',by rw[<-TJ.length];exact hz,λx H2 y=>?_⟩;obtain⟨hx,R7,e2⟩:=S.mv i ds[i] H' M' x H2 (bZ Sf) Tw U5 e' y;refine⟨ds[i],δ',M',_,hx,Ub.mono e2,R7,q',λσ3 H3 δ3 M3 x1 x2 x3 x4 x5=>?_⟩;refine⟨δ3,M3,_,x1,x2,x5,λb H4 M4 y2 y3 y5=>?_⟩;cases b with
   | true=>rw[b9 rfl]at y5 ⊢;refine⟨δ3,M4,_,x1.mono y3,y2,y5,λv H5 d M5 z1 z2 z3 z4=>⟨ds.length - (i+1),by lia,rfl,Sf,δ3,M5,acc++[d],x1.mono (y3.trans z3),z2,(TJ.mono (e2.trans (x3.trans (y3.trans z3)))).snoc z1,z4.1,e'.trans (e2.trans (x3.trans (y3.trans z3))),z4.2⟩⟩
   | false=>rw[bV cg]at y5 ⊢;exact⟨ds.length - (i+1),by lia,rfl,Sf,δ3,M4,acc,x1.mono y3,y2,TJ.mono (e2.trans (x3.trans y3)),y5.1,e'.trans (e2.trans (x3.trans y3)),y5.2⟩
  .have e:i=ds.length:=by lia
   subst e;rw[ko]at q';refine .inl ⟨S.stop H' M' Tw U5 e',by rw[<-TJ.length];exact q'.1,λp hp=>?_⟩;have e5:nX X.K H' (upd H' p (.lst ys)):=.new hp;exact k _ _ _ _ .ref (Tw.new (c:=.lst acc) hp ⟨_,m9,TJ.mono e5⟩) (e1.trans (e'.trans e5)) (q'.2 p (Tw.fresh hp))⟩
def oI(hc:X.calm=true)(S:oQ X scope ix N')(hi:I3 X tg iter wi)(hg:∀{C s0 H0 ex},G3 (X.comp scope N' C s0 H0 ex) tg g)(ht:∀{C s0 H0 ex},F3 (X.comp scope N' C s0 H0 ex) Sk tt)(he:∀{C s0 H0 ex},E3 (X.comp scope N' C s0 H0 ex) Sj te) (hs:∀x,foldedSetIterable iter X.env x=pure x:=by intro _;rfl):E3 X (.ListComp Sj [⟨tg,iter,Sk,0⟩] scope pos) (E5 ix wi g tt te):=PE.mono (KQ (g:=PV X.K g) (tt:=MT X.K tt) (te:=lo X.K te) hc S hi (λ_ _ _ _=>hg) (λ_ _ _ _=>ht) (λ_ _ _ _=>he) hs) BE
def qh{i:Nat}{x:Str}{px SG:Pos}(hN:X.N.Nodup)(TH:X.N[i]?=some x)(hx:Bo X.env.scope x)(hc:X.calm=true)(S:oQ X scope ix N')(hi:I3 X tg iter wi)(hg:∀{C s0 H0 ex},G3 (X.comp scope N' C s0 H0 ex) tg g)(ht:∀{C s0 H0 ex},F3 (X.comp scope N' C s0 H0 ex) Sk tt) (he:∀{C s0 H0 ex},E3 (X.comp scope N' C s0 H0 ex) Sj te) (SH:swapsWith (.ListComp Sj [⟨tg,iter,Sk,0⟩] scope pos) (some (.Name x px)) SG.line X.env=pure true:=by rfl)
  (hf:BP X x:=by first|exact .inl rfl|exact .inr rfl|assumption) (hs:∀x,foldedSetIterable iter X.env x=pure x:=by intro _;rfl):
  S3 X (.Assign [.Name x px] (.ListComp Sj [⟨tg,iter,Sk,0⟩] scope pos) SG) (rm (E5 ix wi g tt te) (pk i)):=PS.lG (Ec (g:=PV X.K g) (tt:=MT X.K tt) (te:=lo X.K te) hN TH hx hc S hi (λ_ _ _ _=>hg) (λ_ _ _ _=>ht) (λ_ _ _ _=>he) SH hf hs) λD' Y H hl zz=>Bg zz λU M D hs hm ht k1 k2 k3 k4=>
 BE Y H _ ⟨U,M,_,hs,hm,ht,λv H1 d M1 hd RS e1 q1=>k1 _ H1 _ M1 ((hs.mono e1).set hd (by rw[hl];exact(bW.mp TH).1)) RS e1 (by simp) q1⟩
def yi{A:Ar}{k:Nat}(hr:pJ k A):A.units+9<cLine:=by have:=hr.units;lia
noncomputable def DL(sc:Scope)(N:QQQ)(scope:Scope)(ix:V0 (Option Nat))(N':QQQ):Bool:=
 (scope.kind==.function)&&(scope.names.all λy=>!(y.2==.cell))&&(scope.names.all λy=>!(y.2==.local)||(scope.names.lookup y.1==some .local))&&
 (scope.names.all λy=>!(y.2==.free)||(sc.names.lookup y.1==some .cell)||(sc.names.lookup y.1==some .free))&&(ix.length==N'.length)&&
 ((ix.zip N').all λp=>match p.1 with|none=>true|some i=>(N[i]?==some p.2)&&(scope.names.lookup p.2==some .free))
def tM{X:Cx}{scope:Scope}{ix:V0 (Option Nat)}{N':QQQ}(h:DL X.env.scope X.N scope ix N'=true):oQ X scope ix N':=by
 unfold DL at h;simp only[bR]at h;obtain⟨⟨⟨⟨⟨h1,h2⟩,h3⟩,h4⟩,h5⟩,h6⟩:=h;refine⟨by simpa using h1,λy hy e=>?_,λy hy e=>?_,λy hy e=>?_,by simpa using h5,λj i x e1 e2=>?_⟩
 .have:=cL.mp h2 y hy;rw[e]at this;simp at this
 .have:=cL.mp h3 y hy;rw[e]at this
  simpa using this
 .have:=cL.mp h4 y hy;rw[e]at this
  simpa using this
 .have hm:(some i,x)∈ix.zip N':=by
   have:(ix.zip N')[j]?=some (some i,x):=by rw[iA];exact⟨e1,e2⟩
   exact dt this
  have:=cL.mp h6 _ hm
  simpa using this
section
variable {a b:Expr}
def Fh(op SV:CmpOp)(ta tb tc:T3):T3:=λU M Q=>ta U M λx M1=>tb U M1 λy M2=>Kc op x y M2 λz M3=>match z with
 | .bl k=>if k=true then tc U M3 λw M4=>Kc SV y w M4 Q else Q (.bl false) M3
 | _=>False
def qj{op SV:CmpOp}(hu:X.A.units+9<cLine)(ha:E3 X a ta)(hb:E3 X b tb)(hc:E3 X c tc)(hmk:lastMarks [op,SV] [b,c]=false:=by rfl):
  E3 X (.Compare a [op,SV] [b,c] pos) (Fh op SV ta tb tc):=PE.mono (He (Gz op hu) (Gz SV hu) ha hb hc hmk) λY H Q' zz=>x7 zz λU M Q hs hm ht k=>
 ⟨U,M,_,hs,hm,ht,λv H1 x M1 hx RS e1 q1=>⟨U,M1,_,hs.mono e1,RS,q1,λu H2 y M2 hy R7 e2 q2=>⟨x,y,M2,_,hx.mono e2,hy,R7,q2,λw H3 z M3 hz Sz e3 q3=>by
  cases z with
  | bl c=>
   refine⟨c,hz.k7,?_⟩;cases c with
   | true=>refine(b9 rfl).mpr ⟨U,M3,_,hs.mono (e1.trans (e2.trans e3)),Sz,(b9 rfl).mp q3,λw' H4 d M4 hd hm4 e4 q4=>⟨y,d,M4,Q,hy.mono (e3.trans e4),hd,hm4,q4,qK (e1.trans (e2.trans (e3.trans e4))) k⟩⟩
   | false=>exact(bV cg).mpr (k _ H3 _ M3 .bl Sz (e1.trans (e2.trans e3)) ((bV cg).mp q3))
  | _=>exact q3.elim⟩⟩⟩
def yV{op SV:CmpOp}(hu:X.A.units+9<cLine)(ha:E3 X a ta)(hb:E3 X b tb)(hc:E3 X c tc)(hmk:lastMarks [op,SV] [b,c]=false:=by rfl):
  B3 X (.Compare a [op,SV] [b,c] pos) (b3 (Fh op SV ta tb tc)):=PT.mono (Ir (Gz op hu) (Gz SV hu) ha hb hc hmk) λY H Q' zz=>x7 zz λU M Q hs hm ht k=>
 ⟨U,M,_,hs,hm,ht,λv H1 x M1 hx RS e1 q1=>⟨U,M1,_,hs.mono e1,RS,q1,λu H2 y M2 hy R7 e2 q2=>⟨x,y,M2,_,hx.mono e2,hy,R7,q2,λw H3 z M3 hz Sz e3 q3=>by
  cases z with
  | bl c=>
   refine⟨c,hz.k7,?_⟩;cases c with
   | true=>
    refine(b9 rfl).mpr ⟨U,M3,_,hs.mono (e1.trans (e2.trans e3)),Sz,(b9 rfl).mp q3,λw' H4 d M4 hd hm4 e4 q4=>⟨y,d,M4,_,hy.mono (e3.trans e4),hd,hm4,q4,λw5 H5 d5 M5 hd5 hm5 e5 q5=>?_⟩⟩;cases d5 with
    | bl c5=>exact⟨c5,hd5.k7,k c5 H5 M5 hm5 (e1.trans (e2.trans (e3.trans (e4.trans e5)))) q5⟩
    | _=>exact q5.elim
   | false=>exact(bV cg).mpr ⟨false,rfl,k false H3 M3 Sz (e1.trans (e2.trans e3)) ((bV cg).mp q3)⟩
  | _=>exact q3.elim⟩⟩⟩
structure Qv(K:nz)(C:Addr):Prop where
 ha:W.findIn K (.ref C) "__class__"=some (some (.builtin "object.__class__"))
 hn:W.specialIn K (.builtin "object.__class__") "__get__"=some (some (.builtin "getset_descriptor.__get__"))
 mC:W.takesIn K (.builtin "object.__class__")=some true
 hm:W.mroIn K C (.type "object")=some true
noncomputable def Hy:Option s9->Option Vl
 | some (.lst _)=>some (.type "list")
 | some (.ins C _)=>some (.ref C)
 | some (.dk _)=>some (.type "dict")
 | some (.exc _)=>none
 | some (.fd _ _)=>none
 | none=>none
noncomputable def RD(M:Mp):D->Option Vl
 | .k9=>some (.type "NoneType")
 | .bl _=>some (.type "bool")
 | .int _=>some (.type "int")
 | .str _=>some (.type "str")
 | .tup _=>some (.type "tuple")
 | .ref a=>Hy (M a)
 | .ty _=>none
 | .rl _=>some (.type "list")
noncomputable def Nl:D->Option Vl
 | .ref C=>some (.ref C)
 | .ty n=>some (.type n)
 | _=>none
def LM(K:nz)(ds:V0 D)(M:Mp)(Q:DK):Prop:=match ds with
 | [x,c]=>(RD M x).elim False λt=>(Nl c).elim False λcv=>(∀C,t=.ref C->Qv K C)/\(W.kitOne K t cv).elim False λb=>Q (.bl b) M
 | _=>False
def xj:C3 X (.builtin "isinstance") (LM X.K):=by
 intro RP s Y H vs us Q' I rv h;obtain⟨ds,M,Q,hd,hm,q,k⟩:=h;unfold LM at q;split at q
 .rename_i x c;obtain⟨v,u,rfl,hv,hw⟩:=tT hd;obtain⟨t,et,q⟩:=nU q;obtain⟨cv,ec,hC,q⟩:=nU q;obtain⟨b,eb,qb⟩:=nU q;obtain⟨uv,uw,rfl,T1,rv2⟩:=yM rv;have ecv:uw=cv:=by
   cases c with
   | ref C=>cases hw.kX;cases ec;exact rv2
   | ty n=>cases hw.lK;cases ec;exact rv2
   | _=>cases ec
  subst ecv;have RV:∀tk,EP X RP Y Q' (.bool b) {s with toks:=tk}:=λtk=>⟨.bl b,H,I.tok tk,rfl,k _ _ _ _ .bl hm .refl qb⟩;cases x with
  | k9=>cases hv.kZ;cases et;exact qY I T1 .k9 eb RV
  | bl y=>cases hv.k7;cases et;exact qY I T1 (.bl y) eb RV
  | int y=>cases hv.int_inv;cases et;exact qY I T1 (.int y) eb RV
  | str y=>cases hv.str_inv;cases et;exact qY I T1 (.str y) eb RV
  | tup ds=>obtain⟨a,xs,rfl,h1,h2⟩:=hv.k8;cases et;cases T1;obtain⟨its,r,p,_⟩:=I.tuple h1;obtain⟨o,g1,g2,_⟩:=p;exact eJ W.kitx_tuple I.ls ⟨o,g1,g2⟩ eb (λz=>nomatch z) RV
  | ref a=>
   cases hv.kX;have et:Hy (M a)=some t:=et;cases e:M a with
   | none=>rw[e]at et;cases et
   | some cell=>
    rw[e]at et;have ok:=hm a cell e;cases cell with
    | lst ds=>cases et;obtain⟨xs,e1,_⟩:=ok;exact qY I T1 (.lst e1) eb RV
    | ins C fs=>cases et;obtain⟨dx,vs,e1,cl,_⟩:=ok;obtain⟨i1,i2,i3,i4⟩:=hC C rfl;exact qY I T1 (.ins e1 cl i1 i2 i3 i4) eb RV
    | dk kvs=>cases et;obtain⟨vs,e1,_⟩:=ok;exact qY I T1 (.dK e1) eb RV
    | exc C=>cases et
    | fd _ _=>cases et
  | ty n=>cases et
  | rl ds=>obtain⟨p,xs,rfl,h1,h2⟩:=hv.lj;cases et;cases T1;obtain⟨its,r,⟨o,n,g1,g2,_⟩,_⟩:=I.list h1.sq;exact eJ ke I.ls ⟨o,g1,g2⟩ eb (λz=>nomatch z) RV
 .exact q.elim
noncomputable def C8:V0 D->Option (V0 Bool)
 | []=>some []
 | .bl b::r=>(C8 r).map (b::·)
 | _::_=>none
theorem Bh{K:nz}{H:Hp}:∀{ds:V0 D} {bs:V0 Bool} {xs:V0 V} {us:V0 Vl},C8 ds=some bs->nq K H ds xs->nI xs us->us=bs.map Value.bool
 | [],bs,xs,us,e,h,r=>by cases e;have:=h.nil_inv;subst this;cases r;rfl
 | d::ds,bs,xs,us,e,h,r=>by
  cases d with
  | bl b=>
   obtain⟨y,ys,rfl,h1,h2⟩:=h.inv;cases h1.k7;unfold C8 at e;cases q:C8 ds with
   | none=>rw[q]at e;cases e
   | some cs=>
    rw[q]at e;cases e;cases r with
    | cons r1 r2=>cases r1;rw[Bh q h2 r2];rfl
  | _=>cases e
def OV(ds:V0 D)(M:Mp)(Q:DK):Prop:=match ds with
 | [.ref a]=>(lO M a).elim False λes=>(C8 es).elim False λbs=>Q (.bl (bs.all id)) M
 | _=>False
def zj(hc:X.calm=true):C3 X (.builtin "all") OV:=by
 intro RP s Y H vs us Q' I rv h;obtain⟨ds,M,Q,hd,hm,q,k⟩:=h;unfold OV at q;split at q
 .rename_i a;obtain⟨v,rfl,hv⟩:=oy hd;obtain⟨es,e0,q⟩:=nU q;obtain⟨bs,e1,q⟩:=nU q;cases hv.kX;obtain⟨u,rfl,ru⟩:=sf rv;cases ru;obtain⟨xs,h1,h2,_⟩:=mU hm e0;obtain⟨its,r,pl,hz⟩:=I.list h1;have U6:=Bh e1 h2 r;subst U6;have SJ:a≠s.heap.objs.size:=by obtain⟨o,_,e,_⟩:=pl;exact cI (cp e)
  refine call_all_walk (fu pl.isList ?_);refine⟨s.heap.objs.size,_,_,_,_,_,λi=>(bs[i]?).getD true,rfl,jr (A:=X.A.in1) (I.ok.hd hc) _ a SJ (bs.map Value.bool).toArray,⟨⟨_,cz _ rfl,rfl,rfl⟩,?_⟩,λi v s' Q E hP hQ=>?_,λh' tk hk=>?_⟩
  .obtain⟨o,n,e,c,d,q⟩:=pl;exact⟨o,bX _ e,c,n,q⟩
  .simp only[gQ,cD]at hP;cases e2:bs[i]? with
   | none=>rw[e2]at hP;cases hP
   | some b=>rw[e2]at hP;cases hP;have hQ:Q ((bs[i]?).getD true) s':=hQ;rw[e2]at hQ;exact dB hQ
  .have ea:(List.range (bs.map Value.bool).toArray.size).all (λi=>(bs[i]?).getD true)=bs.all id:=by
    rw[b7,bP];rw[gX,cL,cL];constructor
    .intro z b hb;obtain⟨i,hi,e⟩:=gu hb;have:=z i (eA.mpr hi);rw[bZ hi,e]at this;exact this
    .intro z i hi;have UJ:=eA.mp hi;rw[bZ UJ];exact z _ (fF UJ)
   rw[ea];refine⟨.bl (bs.all id),H,?_,rfl,k _ _ _ _ .bl hm .refl q⟩;exact I.kept (h':=h') (t':=tk) λb o e=>hk b o (by simpa using cI (cp e)) (bX _ e)
 .exact q.elim
def M3(X:Cx)(id:String)(r:D->V0 D->Mp->DK->Prop):Prop:=Oz X id λvx vs H Q'=>∃x ds M Q,o9 X.K H x vx/\nq X.K H ds vs/\HM X.K H M/\r x ds M Q/\Up X.K H Q' Q
def CD(M:Mp):D->Prop
 | .ref a=>(lO M a).isSome=true
 | _=>False
def Ph(r:D->V0 D->Mp->DK->Prop)(to:T3)(t:rM):T3:=λU M Q=>to U M λx M1=>CD M1 x/\t U M1 λds M2=>r x ds M2 Q
def Nj{K:nz}{H:Hp}{M:Mp}{x:D}{v:V}(hm:HM K H M)(h:o9 K H x v)(l:CD M x):Qo K "list" v H:=by
 cases x with
 | ref a=>cases h.kX;obtain⟨ds,e⟩:=dO.mp (show(lO M a).isSome=true from l);obtain⟨xs,h1,_⟩:=mU hm e;exact .inl ⟨rfl,xs,h1⟩
 | _=>exact l.elim
def EJ{id:String}{name:Str}{r:D->V0 D->Mp->DK->Prop}(slot:Slot "list" name id)(UV:typeOf (.builtin id)=pure (.type "method_descriptor"))(hm:M3 X id r)(ho:E3 X o ta)(ha:A3 X (e::es) t) (RY:attributeBase o name X.env (eval o X.env)=eval o X.env:=by rfl)
  (R6:((backTo pos (starEach (e::es) X.env)).all (λx=>!x.1)&&(backToKw pos (keywordEach [] X.env)).all (λx=>x.1.isSome)
   &&decide ((e::es).length+([]:V0 Keyword).length+(if ([]:V0 Keyword).isEmpty then 0 else 1)<30))=true:=by rfl)
  (RZ:(RT.endLine==pos.line)=true:=by rfl) (hs:wj X e es:=by rfl) (R0:wX X pos es:=by rfl):
  E3 X (.Call (.Attribute o name RT) (e::es) [] pos) (Ph r ta t):=PE.mono (Hl PySem.F.plainAttrs_list slot UV hm ho ha RY R6 RZ hs R0) λY H Q' zz=>x7 zz λU M Q hs hm ht k=>
 ⟨U,M,_,hs,hm,ht,λv H1 x M1 hx RS e1 q1=>⟨Nj RS hx q1.1,U,M1,_,hs.mono e1,RS,q1.2,λvs H2 ds M2 SF R7 e2 q2=>⟨x,ds,M2,Q,hx.mono e2,SF,R7,q2,qK (e1.trans e2) k⟩⟩⟩
structure GL(K:nz)(C:Addr)(m:Str)(f:Addr):Prop where
 hg:W.specialIn K (.ref C) "__getattribute__"=some (some (.builtin "type.__getattribute__"))
 rd:W.readsIn K C (.type "type")=true
 fc:W.findCls K (.ref C) (.type "type") m=some (.val (.ref f))
def JL{sp:Sp}{t:TA}{pl:Sem Bool}(cm:GL X.K C m f)(F:xg X.prog X.w X.K X.mg X.base Jj k f fd ps sp)(hr:pJ k X.A)(hg:Gl X x)(hm:X.mg x=some (.ref C))(hk:W.keepIn X.K (.ref f)=true)(hb:rq X.K fd ps [])(ha:PA X (e::es) t) (Sa:vq x:=by decide) (Sv:wj X e es:=by rfl) (Se:wX X pos es:=by rfl)
  (ht:eval (.Call (.Attribute (.Name x p) m RT) (e::es) [] pos) X.env=(do
   let ov<-eval (.Name x p) X.env
   standAt RT.atName
   let(f,first)<-holding [ov] (getMethod ov m pl)
   callWith pos f first (backTo pos (starEach (e::es) X.env)) (backToKw pos (keywordEach [] X.env))):=by rfl):
  PE X (.Call (.Attribute (.Name x p) m RT) (e::es) [] pos) (λY H Q=>t Y H λvs H1=>sp vs H1 Q E0):=by
 intro RP s Y H Q I h;refine kC (pl:=pl) (ud I hg hm ?_ Sa) ht;refine W.method_cls I.ls cm.hg (W.cls_value I.ls cm.rd cm.fc rfl ?_);refine iE (first:=[]) (h₀:=X.base) I.ok.mod.mi hk (pC (ha pos RP _ Y H _ (I.tok _) h) λus s2 zz=>x5 zz λvs H2 I2 r q2=>⟨I2.ls,?_⟩) Sv Se;exact Dl F hr hb .nil (EC (X:=X)) I2 r (by rw[cJ];exact q2)
def J3{pl:Sem Bool}(cm:GL X.K C m f)(F:Ov X.prog X.w X.K X.mg X.base k f fd ps sp)(hr:pJ k X.A)(hg:Gl X x)(hm:X.mg x=some (.ref C))(hk:W.keepIn X.K (.ref f)=true)(hb:rq X.K fd ps [])(ha:A3 X (e::es) t) (Sa:vq x:=by decide) (Sv:wj X e es:=by rfl) (Se:wX X pos es:=by rfl)
  (ht:eval (.Call (.Attribute (.Name x p) m RT) (e::es) [] pos) X.env=(do
   let ov<-eval (.Name x p) X.env
   standAt RT.atName
   let(f,first)<-holding [ov] (getMethod ov m pl)
   callWith pos f first (backTo pos (starEach (e::es) X.env)) (backToKw pos (keywordEach [] X.env))):=by rfl):
  E3 X (.Call (.Attribute (.Name x p) m RT) (e::es) [] pos) (AJ sp t):=PE.mono (JL cm F hr hg hm hk hb ha Sa Sv Se ht) λY H Q' zz=>x7 zz λU M Q hs hm ht k=>
 ⟨U,M,_,hs,hm,ht,λvs H1 ds M1 hd RS e1 q1=>⟨ds,M1,Q,hd,RS,q1,qK e1 k⟩⟩
def mY:bootBuiltins "len"=some (.builtin "len"):=by decide+kernel
def Oj:bootBuiltins "min"=some (.builtin "min"):=by decide+kernel
def pE:bootBuiltins "isinstance"=some (.builtin "isinstance"):=by decide+kernel
def yB:bootBuiltins "all"=some (.builtin "all"):=by decide+kernel
def qN:bootBuiltins "tuple"=some (.type "tuple"):=by decide+kernel
def wG:bootBuiltins "list"=some (.type "list"):=by decide+kernel
def zk:bootBuiltins "str"=some (.type "str"):=by decide+kernel
def A9:bootBuiltins "int"=some (.type "int"):=by decide+kernel
def Fs:bootBuiltins "dict"=some (.type "dict"):=by decide+kernel
def BD:bootBuiltins "enumerate"=some (.type "enumerate"):=by decide+kernel
def Ek:bootBuiltins "zip"=some (.type "zip"):=by decide+kernel
end
theorem _root_.L2.Inv.drawn{ch:QXQ}{T:Addr}{xs:V0 V}{its:V0 Vl}{h':Heap}{tk:Nat}(I:Inv X RP Y H s)(SZ:∀b∈ch,wm X RP H b)(k:∀b o,b∉ch->s.heap.get? b=some o->h'.get? b=some o)(hT:s.heap.objs.size<=T)(hx:xs.length<=sizeLine) (rv:nI xs its) (ht:BF h' T its.toArray):Inv X RP Y (upd H T (.tup xs)) {s with heap:=h',toks:=tk}:=by
 have TB:H T=none:=I.lb.fresh hT;have nT:∀b o,s.heap.get? b=some o->b≠T:=λb o e=>cI (cF (cp e) hT);refine I.step (g':=s.gens) (d':=s.drawn) (ch:=ch) (λb hb=>⟨(SZ b hb).2.2.2.1,(SZ b hb).2.1,(SZ b hb).2.2.2.2.1,(SZ b hb).2.2.2.2.2⟩) (λb o _ _ hc e _=>k b o hc e) (λb o _ _ hc e _=>⟨o.slots,k b o hc e⟩) (λb o _ e n=>by rw[ni (nT b o e)];exact n)
  (λb o hc e=>⟨o,k b o hc e⟩) (λb ys e=>by rw[ni (n9 e TB)];exact e) (λb o u e=>by rw[ni (n9 e TB)];exact e) (λb ps e=>⟨#[],by rw[ni (n9 e TB),e];simp⟩) (λm hm=>?_) (λb u e=>?_) I.bare
 .obtain⟨o,es,ep,ho,r⟩:=hm;exact⟨o,es,ep,k _ o (λz=>(SZ _ z).2.1 rfl) ho,r⟩
 .by_cases hb:b=T
  .subst hb;rw[m9]at e;cases e;exact⟨hx,its,rv,ht⟩
  .rw[ni hb]at e;refine(I.lb b u e).ly (λc v hc q=>k c v (λz=>?_) q) (λc q=>by rw[ni (n9 q TB)];exact q) (λc ys q=>by rw[ni (n9 q TB)];exact q);have n:=(SZ c z).1;rcases hc with y|y
   .rw[y,e]at n;cases n
   .rw[y]at n;cases n
noncomputable def QK(K:nz)(a:Addr):It:=
 ⟨λi H=>∃xs x,sO K H a xs/\xs[i]?=some x,λi H x H'=>∃p y,x=.ref p/\H p=none/\H'=upd H p (.tup [.int (i:Nat),y])/\∀xs,sO K H a xs->xs[i]?=some y,λi H=>∃xs,sO K H a xs/\xs.length<=i⟩
def FM{P:Pg}{w:Wo}{K:nz}{Sb:V0 Expr}{n:Nat}{tp:Pos}(a e it:Addr)(hei:e≠it):Ai P w K (.Tuple Sb n tp) (QK K a) [e,it] e (λi h=>(∃Tf,IsEnum h e it (i:Nat) Tf)/\h.IsListIter it a i) where
 mem:=by simp
 obj:=λi h st b hb=>by
  obtain⟨⟨Tf,he⟩,o,e1,c,d⟩:=st;rcases bT.mp hb with rfl|hb
  .exact⟨_,he,λv z=>by cases z⟩
  .rw[c8.mp hb];exact⟨o,e1,λv z=>by rw[d]at z;cases z⟩
 keep:=λi h h' st k=>by obtain⟨⟨Tf,he⟩,hi⟩:=st;exact⟨⟨Tf,k e (by simp) _ he⟩,hi.at λo q=>k it (by simp) o q⟩
 item:=by
  intro X hP hw hK hc i RP s Y H E I hf st hg;subst hP hw hK;obtain⟨xs,x,hq,hx⟩:=hg;obtain⟨its,rv,p,hz⟩:=I.list hq;obtain⟨u,hu,ru⟩:=rv.get hx;obtain⟨⟨Tf,he⟩,hi⟩:=st;refine wpAny_pyNext_enum_item he hi p.isList (x:=u) (by simpa using hu) hei λh1 ho hi1 hT hsz hk=>?_;refine⟨_,rfl,wpAny_letOwnedTupleGo_enum ho λh2 he2 SE=>?_⟩;have helt:e<s.heap.objs.size:=cp he;have hilt:it<s.heap.objs.size:=by obtain⟨o,q,_⟩:=hi;exact cp q
  have kk:∀b o,b∉[e,it]->s.heap.get? b=some o->h2.get? b=some o:=λb o hb q=>(SE.2 b λz=>hb (by simp[z])).trans (hk b o (λz=>hb (by simp[z])) (λz=>hb (by simp[z])) q);have hT2:h2.get? s.heap.objs.size=some {cls:=.type "tuple",data:=.seq #[.int (i:Nat) s.toks,u]}:=(SE.2 _ (eU helt)).trans hT;have TB:H s.heap.objs.size=none:=I.lb.fresh (cq _);have I2:=I.drawn (ch:=[e,it]) (T:=s.heap.objs.size) (xs:=[.int (i:Nat),x]) (its:=[.int (i:Nat) s.toks,u]) (h':=h2) (tk:=s.toks+1) hf kk (cq _) (by show 2<=sizeLine;decide) (.cons ⟨_,rfl⟩ (.cons ru .nil)) ⟨_,hT2,rfl,⟨_,rfl⟩,rfl⟩;refine⟨.ref s.heap.objs.size,_,I2,rfl,⟨_,x,rfl,TB,rfl,λys hy=>by rw[I.lx hy hq];exact hx⟩,⟨⟨_,by simpa using he2⟩,hi1.extBut SE.extBut (cH hei)⟩,λb hb=>?_⟩;have Ss:b<s.heap.objs.size:=by
   rcases bT.mp hb with z|z
   .rw[z];exact helt
   .rw[c8.mp z];exact hilt
  rw[ni (cI Ss)];exact(hf b hb).1
 done:=by intro X hP hw hK hc i RP s Y H E I hf st hg;subst hP hw hK;obtain⟨xs,hq,hx⟩:=hg;obtain⟨its,rv,p,hz⟩:=I.list hq;obtain⟨⟨Tf,he⟩,hi⟩:=st;have hl:=rv.length;obtain⟨f0,f1,f2,f3,f4,f5⟩:=hf it (by simp);exact wpAny_pyNext_enum_end (I.ok.hd hc) he hi p.isList (by simp;lia) λh' eb=>⟨rfl,I.turned (t':=s.toks) (λb o hb q=>eb b o hb q) f0 f1 f3 f4 f5⟩
 self:=λ_ _ _ _ _ st h=>by obtain⟨⟨Tf,he⟩,_⟩:=st;exact ka he h
variable {tp:Pos}{Sb:V0 Expr}{n:Nat}
def JB{a:Expr}{ta:TA}(hg:Gl X "enumerate")(hm:X.mg "enumerate"=none)(ha:PA X [a] ta)(hs:starEach [a] X.env=[(false,eval a X.env)]:=by rfl):
  PI X (.Tuple Sb n tp) (.Call (.Name "enumerate" p) [a] [] pos) (λY H R=>ta Y H λvs H1=>∃l,vs=[.ref l]/\(∃xs,sO X.K H1 l xs)/\R (QK X.K l) H1):=by
 intro RP s Y H R I h;refine Call_ (tq I hg hm BD (dF (pC (ha pos RP s Y H _ I h) λus s1 zz=>x5 zz λvs H1 I1 r1 q1=>?_) hs rfl));obtain⟨l,e,⟨xs,hq⟩,q⟩:=q1;subst e;obtain⟨u,rfl,ru⟩:=sf r1;cases ru;obtain⟨its,rv,pl,hz⟩:=I1.list hq;refine call_enumerate_list pl.isList λh' he hi hsz hk=>?_;refine ka he ?_;have I2:Inv X RP Y H1 {s1 with heap:=h'}:=I1.kept (t':=s1.toks) hk;refine⟨s1.heap.objs.size+1,[s1.heap.objs.size+1,s1.heap.objs.size],_,_,H1,rfl,I2,FM l _ _ (Nat.succ_ne_self _),⟨⟨_,he⟩,hi⟩,λb hb=>?_,q⟩;have Ss:s1.heap.objs.size<=b:=by
  rcases bT.mp hb with z|z
  .rw[z];exact gp _
  .rw[c8.mp z];exact cq _
 exact I1.lN Ss (I1.lb.fresh Ss)
noncomputable def sQ:Nat->V0 D->V0 D
 | _,[]=>[]
 | i,d::r=>.tup [.int (i:Nat),d]::sQ (i+1) r
theorem zJ:∀{ds:V0 D} {i j:Nat},(sQ j ds)[i]?=(ds[i]?).map λd=>D.tup [.int ((j+i:Nat):Int),d]
 | [],i,j=>by simp[sQ]
 | d::r,0,j=>by simp[sQ]
 | d::r,i+1,j=>by show(sQ (j+1) r)[i]?=_;rw[zJ];simp only[List.getElem?_cons_succ];rw[show j+1+i=j+(i+1)by lia]
theorem uL:∀{ds:V0 D} {j:Nat},(sQ j ds).length=ds.length
 | [],j=>rfl
 | d::r,j=>by simp[sQ,uL]
def Jb{K:nz}{H1:Hp}{a:Addr}{ds:V0 D}:zS K H1 (QK K a) (sQ 0 ds) (λM=>lO M a=some ds) where
 go:=λi H M hi hm ok _=>by rw[uL]at hi;obtain⟨xs,h1,h2,_⟩:=mU hm ok;obtain⟨x,e,_⟩:=h2.get (bZ hi);exact⟨xs,x,h1,e⟩
 mv:=λi d H M x H' hd hm ok _ y=>by
  obtain⟨xs,h1,h2,_⟩:=mU hm ok;obtain⟨p,z,rfl,hp,rfl,y⟩:=y;rw[zJ]at hd;cases e:ds[i]? with
  | none=>rw[e]at hd;cases hd
  | some d'=>rw[e]at hd;cases hd;obtain⟨x',e',hx⟩:=h2.get e;have w1:=y xs h1;rw[e']at w1;have w2:x'=z:=ce w1;subst w2;have ex:nX K H (upd H p (.tup [.int (i:Nat),x'])):=.new hp;refine⟨.tup (.of m9) (.cons (by rw[kL];exact .int) (.cons (hx.mono ex) .nil)),hm.add hp,ex⟩
 stop:=λH M hm ok _=>by obtain⟨xs,h1,h2,_⟩:=mU hm ok;exact⟨xs,h1,by rw[uL,h2.length];exact cq _⟩
def LX(t:rM):Gg:=λU M R=>t U M λds M1=>match ds with
 | [.ref a]=>(lO M1 a).elim False λes=>R (sQ 0 es) (λM=>lO M a=some es) M1
 | _=>False
def wK{a:Expr}{ta:rM}(hg:Gl X "enumerate")(hm:X.mg "enumerate"=none)(ha:A3 X [a] ta)(hs:starEach [a] X.env=[(false,eval a X.env)]:=by rfl):I3 X (.Tuple Sb n tp) (.Call (.Name "enumerate" p) [a] [] pos) (LX ta):=
 PI.mono (JB hg hm ha hs) λY H R' zz=>x7 zz λU M R hs hm ht k=>⟨U,M,_,hs,hm,ht,λvs H1 ds M1 hd RS e1 q1=>by
  split at q1
  .obtain⟨v,rfl,hv⟩:=oy hd;cases hv.kX;obtain⟨es,e0,q⟩:=nU q1;obtain⟨xs,h1,h2,_⟩:=mU RS e0;exact⟨_,rfl,⟨xs,h1⟩,k _ H1 _ _ M1 Jb RS e1 e0 q⟩
  .exact q1.elim⟩
variable {prog:Pg}{A:Ar}{E:QQX}
def Ea{it t:Addr}{i:Nat}{its:Array Vl}{x:Vl}{Q:QQX}(hi:s.heap.IsTupleIter it t i)(ht:s.heap.IsTuple t its)(hx:its[i]?=some x) (hQ:∀g,g.IsTupleIter it t (i+1)->Heap.SameBut it s.heap g->Q x {s with heap:=g}):wpAny (model prog w) A (Builtin.SmallTypes.nextOf (.ref it)) Q E s:=by
 obtain⟨ob,e1,e2,e3⟩:=id hi;obtain⟨ot,e4,_,nt,e5⟩:=ht;unfold Builtin.SmallTypes.nextOf;refine bQ (dS (name:=Str.ofString "__next__") hi.typeIs fk (eh fk hi.typeIs ig ?_ (ia _)));show wpAny (model prog w) _ (field (.ref it) 0>>=_) _ _ s;refine bQ (dq e1 e3 (x:=.ref t) rfl ?_);show wpAny (model prog w) _ (if (Value.ref t==Value.none)=true then _ else _) _ _ s;rw[bV (show ¬(Value.ref t==Value.none)=true from cg)];show wpAny (model prog w) _ (field (.ref it) 1>>=_) _ _ s;refine bQ (dq e1 e3 (x:=.int i 0) rfl ?_);show wpAny (model prog w) _ (seqItems? (.ref t)>>=_) _ _ s;refine bQ (eZ e4 e5 ?_);simp only[eY,hx];refine bQ (fU e1 e3 (by simp) (cf ⟨x,rfl,cf (hQ _ ⟨_,d6 _ e1 (Obj.isFreed_of_fields (jU e3 _)),(Obj.cls_mapFields ..).trans e2,?_⟩ (jG ..))⟩));rw[jU e3];simp[rawInt]
def yU{it t:Addr}{i:Nat}{its:Array Vl}{Q:QQX}(hh:A.handled=none)(hi:s.heap.IsTupleIter it t i)(ht:s.heap.IsTuple t its)(hx:its[i]?=none) (hE:∀g e,Heap.ExtBut it s.heap g->(∃o,g.get? e=some o/\o.cls=.type "StopIteration")->E (.ref e) {s with heap:=g}):wpAny (model prog w) A (Builtin.SmallTypes.nextOf (.ref it)) Q E s:=by
 obtain⟨ob,e1,e2,e3⟩:=id hi;obtain⟨ot,e4,_,nt,e5⟩:=ht;unfold Builtin.SmallTypes.nextOf;refine bQ (dS (name:=Str.ofString "__next__") hi.typeIs fk (eh fk hi.typeIs ig ?_ (ia _)));show wpAny (model prog w) _ (field (.ref it) 0>>=_) _ _ s;refine bQ (dq e1 e3 (x:=.ref t) rfl ?_);show wpAny (model prog w) _ (if (Value.ref t==Value.none)=true then _ else _) _ _ s;rw[bV (show ¬(Value.ref t==Value.none)=true from cg)];show wpAny (model prog w) _ (field (.ref it) 1>>=_) _ _ s;refine bQ (dq e1 e3 (x:=.int i 0) rfl ?_);show wpAny (model prog w) _ (seqItems? (.ref t)>>=_) _ _ s;refine bQ (eZ e4 e5 ?_);simp only[eY,hx];refine bQ (jq (bQ (fU e1 e3 (by simp) ?_)));show wpAny (model prog w) _ (newExc (.type "StopIteration") []>>=_) _ _ _;refine bQ ?_;simp only[newExc,newTuple];refine bQ (eE ?_ (by size_fits));refine bQ (m:=firstArgMember _ _) (wpAny_of_eq (a:=Value.none) (by first|rfl|(simp only[firstArgMember];rfl)) ?_);refine eE ?_ (by size_fits);simp only[raiseNew];refine bQ (wpAny_handled ?_)
 first|rw[show A.in1.handled=none from hh]|rw[hh]
 refine bQ (cf (wpAny_throw (hE _ _ (((jG ..).extBut.push _).push _) ⟨_,cz _ rfl,rfl⟩)))
def rR{prog:Pg}{w:Wo}{A:Ar}(hh:A.handled=none)(it t:Addr)(SJ:t≠it)(its:Array Vl):
  Draws prog w A it [it,t] its.size (λi v=>its[i]?=some v) (λi h=>h.IsTupleIter it t i/\h.IsTuple t its) where
 live:=λi h st=>let⟨o,ho,_⟩:=st.1;⟨o,ho⟩
 frame:=λi h g st hk=>by obtain⟨⟨o,e1,e2⟩,⟨o',e3,e4⟩⟩:=st;exact⟨⟨o,hk it (by simp) o e1,e2⟩,⟨o',hk t (by simp) o' e3,e4⟩⟩
 item:=λi s Q E hi st hQ=>Ea st.1 st.2 (x:=its[i]) (by simp[hi]) λg hg hs=>hQ _ g s.toks (by simp[hi]) ⟨hg,st.2.extBut hs.extBut SJ⟩ hs
 done:=λs Q E st hE=>yU hh st.1 st.2 (by simp) hE
structure sU(z TI TO i1 i2:Addr)(f1 f2:QXQ):Prop where
 a1:TI≠z
 a2:TO≠z
 a3:i1≠z
 a4:i2≠z
 a5:TI≠TO
 a6:TI≠i1
 a7:TI≠i2
 a8:TO≠i1
 a9:TO≠i2
 mD:i1≠i2
 b1:z∉f1
 b2:TO∉f1
 b3:i2∉f1
 c1:z∉f2
 c2:TO∉f2
 c3:i1∉f2
variable {z TI TO i1 i2:Addr}{f1 f2:QXQ}{n1 n2 k1 k2:Nat}{P1 P2:Nat→Vl→Prop}{S1 S2:Nat→Heap→Prop}
section
variable {a b:Vl}
def pz{fp:QXQ}{it:Addr}{n:Nat}{Pt:Nat->Vl->Prop}{St:Nat->Heap->Prop}(Dr:Draws prog w A it fp n Pt St){i:Nat}{h g:Heap}{c:Addr}(st:St i h)(hs:Heap.SameBut c h g)(hc:c∉fp):St i g:=
 Dr.frame _ _ _ st λd hd o e=>(hs.2 d λq=>hc (q ▸ hd)).trans e
def Gj{Q:QQX}(D1:Draws prog w A i1 f1 n1 P1 S1)(D2:Draws prog w A i2 f2 n2 P2 S2)(R9:sU z TI TO i1 i2 f1 f2)(hz:IsZip s.heap z TI TO .none)(hI:IsPair s.heap TI (.ref i1) (.ref i2))(hO:IsPair s.heap TO a b) (U7:S1 k1 s.heap) (S9:S2 k2 s.heap) (l1:k1<n1) (l2:k2<n2) (hQ:∀x y g tk,P1 k1 x->P2 k2 y->IsZip g z TI TO (rawInt s.heap.objs.size)->IsPair g TO x y->S1 (k1+1) g->S2 (k2+1) g->IsPair g s.heap.objs.size x y->g.objs.size=s.heap.objs.size+1->
   (∀c o,c≠z->c≠TO->c≠i1->c≠i2->s.heap.get? c=some o->g.get? c=some o)->Q (.ref s.heap.objs.size) {s with heap:=g,toks:=tk}):
  wpAny (model prog w) A (Builtin.«zip.__next__» ⟨[.ref z],[]⟩) (λRV s'=>∃v,RV=.done (.ret v)/\Q v s') E s:=by
 show wpAny (model prog w) A (field (.ref z) 2>>=_) _ _ _;refine bQ (dq hz rfl (x:=.bool false) rfl ?_);show wpAny (model prog w) A (field (.ref z) 3>>=_) _ _ _;refine bQ (dq hz rfl (x:=.ref TI) rfl (bQ (eZ hI rfl ?_)));show wpAny (model prog w) A (Builtin.SmallTypes.ownedTupleIsFree (.ref z)>>=_) _ _ _;refine bQ ?_;unfold Builtin.SmallTypes.ownedTupleIsFree;refine bQ (dq hz rfl (x:=.none) rfl (cf ?_));simp only[gO];refine bQ (jq (bQ (dq hz rfl (x:=.ref TO) rfl (bQ (fh hz (by simp) λg1 z1 T2=>?_)))));replace z1:IsZip g1 z TI TO .ellipsis:=z1;refine bQ ?_;simp only[kq,kD,iW,jd];refine bQ (bQ (gK ?_));show wpAny (model prog w) A (Builtin.SmallTypes.nextOf (.ref i1)>>=_) _ _ _;have T4:S1 k1 g1:=pz D1 U7 T2 R9.b1;refine bQ (D1.item k1 _ _ _ l1 T4 λx g2 tk2 px st1b S5=>cf ?_);replace S5:Heap.SameBut i1 g1 g2:=S5;have o2:IsPair g2 TO a b:=S5.extBut _ _ R9.a8 (T2.extBut _ _ R9.a2 hO);refine bQ (eZ o2 rfl (bQ (gY o2 λg3 o3 S8=>?_)));replace o3:IsPair g3 TO x b:=o3;replace S8:Heap.SameBut TO g2 g3:=S8;refine bQ (kh (cf (bQ (bQ (gK ?_)))));show wpAny (model prog w) A (Builtin.SmallTypes.nextOf (.ref i2)>>=_) _ _ _;have Uu:S2 k2 g3:=pz D2 (pz D2 (pz D2 S9 T2 R9.c1) S5 R9.c3) S8 R9.c2;refine bQ (D2.item k2 _ _ _ l2 Uu λy g4 tk4 py st2b Uc=>cf ?_);replace Uc:Heap.SameBut i2 g3 g4:=Uc;have o4:IsPair g4 TO x b:=Uc.extBut _ _ R9.a9 o3;refine bQ (eZ o4 rfl (bQ (gY o4 λg5 o5 Ud=>?_)));replace o5:IsPair g5 TO x y:=o5;replace Ud:Heap.SameBut TO g4 g5:=Ud;refine bQ (kh (cf (cf (bQ (eZ o5 rfl (bQ (wpAny_newTuple ?_)))))));have esz:g5.objs.size=s.heap.objs.size:=by rw[Ud.1,Uc.1,S8.1,S5.1,T2.1]
 have z5:IsZip g5 z TI TO .ellipsis:=Ud.extBut _ _ R9.a2.symm (Uc.extBut _ _ R9.a4.symm (S8.extBut _ _ R9.a2.symm (S5.extBut _ _ R9.a3.symm z1)));have kp:∀c o,c≠z->c≠TO->c≠i1->c≠i2->s.heap.get? c=some o->g5.get? c=some o:=λc o q1 q2 q3 q4 q=>Ud.extBut _ _ q2 (Uc.extBut _ _ q4 (S8.extBut _ _ q2 (S5.extBut _ _ q3 (T2.extBut _ _ q1 q))));have st1c:S1 (k1+1) g5:=pz D1 (pz D1 (pz D1 st1b S8 R9.b2) Uc R9.b3) Ud R9.b2;have st2c:S2 (k2+1) g5:=pz D2 st2b Ud R9.c2;have UK:z<g5.objs.size:=cp z5;show wpAny (model prog w) A (Builtin.SmallTypes.ownedTupleHandOut (.ref z) (.ref g5.objs.size)>>=_) _ _ _;refine bQ ?_;unfold Builtin.SmallTypes.ownedTupleHandOut;have z6:IsZip (g5.push {cls:=.type "tuple",data:=.seq #[x,y]}) z TI TO .ellipsis:=bX _ z5;refine bQ (fh z6 (by simp) λg7 z7 sb7=>?_);replace z7:IsZip g7 z TI TO (rawInt g5.objs.size):=z7;refine fh z7 (by simp) λg8 z8 sb8=>?_;replace z8:IsZip g8 z TI TO (rawInt g5.objs.size):=z8;have up:∀c o,c≠z->g5.get? c=some o->g8.get? c=some o:=λc o q1 q=>sb8.extBut _ _ q1 (sb7.extBut _ _ q1 (bX _ q));have tu:IsPair g8 g5.objs.size x y:=sb8.extBut _ _ (eU UK) (sb7.extBut _ _ (eU UK) (cz _ rfl));have es8:g8.objs.size=g5.objs.size+1:=by rw[sb8.1,sb7.1,dz]
 rw[esz]at z8 tu es8;refine cf ⟨_,rfl,?_⟩;show Q (.ref g5.objs.size) _;rw[esz];exact hQ x y g8 _ px py z8 (up _ _ R9.a2 o5) (D1.frame _ _ _ st1c λc hc o q=>up c o (λr=>R9.b1 (r ▸ hc)) q) (D2.frame _ _ _ st2c λc hc o q=>up c o (λr=>R9.c1 (r ▸ hc)) q) tu es8 λc o q1 q2 q3 q4 q=>up c o q1 (kp c o q1 q2 q3 q4 q)
def Hq{Q:Fin->Sd->Prop}(D1:Draws prog w A i1 f1 n1 P1 S1)(D2:Draws prog w A i2 f2 n2 P2 S2)(R9:sU z TI TO i1 i2 f1 f2)(hz:IsZip s.heap z TI TO .none)(hI:IsPair s.heap TI (.ref i1) (.ref i2))(hO:IsPair s.heap TO a b) (U7:S1 k1 s.heap) (S9:S2 k1 s.heap) (U8:k1=n1\/(k1<n1/\k1=n2)) (hE:∀g e,(∀c o,c≠z->c≠TO->c≠i1->c≠i2->s.heap.get? c=some o->g.get? c=some o)->(∃o,g.get? e=some o/\o.cls=.type "StopIteration")->∀tk,E (.ref e) {s with heap:=g,toks:=tk}):
  wpAny (model prog w) A (Builtin.«zip.__next__» ⟨[.ref z],[]⟩) Q E s:=by
 show wpAny (model prog w) A (field (.ref z) 2>>=_) _ _ _;refine bQ (dq hz rfl (x:=.bool false) rfl ?_);show wpAny (model prog w) A (field (.ref z) 3>>=_) _ _ _;refine bQ (dq hz rfl (x:=.ref TI) rfl (bQ (eZ hI rfl ?_)));show wpAny (model prog w) A (Builtin.SmallTypes.ownedTupleIsFree (.ref z)>>=_) _ _ _;refine bQ ?_;unfold Builtin.SmallTypes.ownedTupleIsFree;refine bQ (dq hz rfl (x:=.none) rfl (cf ?_));simp only[gO];refine bQ (jq (bQ (dq hz rfl (x:=.ref TO) rfl (bQ (fh hz (by simp) λg1 z1 T2=>?_)))));replace z1:IsZip g1 z TI TO .ellipsis:=z1;refine bQ ?_;simp only[kq,kD,iW,jd];refine bQ (bQ (gK ?_));show wpAny (model prog w) A (Builtin.SmallTypes.nextOf (.ref i1)>>=_) _ _ _;have T4:S1 k1 g1:=pz D1 U7 T2 R9.b1;rcases U8 with he|⟨Sf,he⟩
 .rw[he]at T4;refine bQ (D1.done _ _ _ T4 λg2 e S5 hx=>?_);obtain⟨oe,g,U9⟩:=hx;have z2:IsZip g2 z TI TO .ellipsis:=S5 _ _ R9.a3.symm z1;have hez:e≠z:=λq=>by subst q;rw[z2]at g;cases g;simp at U9
  exact fh z2 (by simp) λg3 _ S8=>hE g3 e (λc o q1 _ q3 _ q=>S8.extBut _ _ q1 (S5 _ _ q3 (T2.extBut _ _ q1 q))) ⟨oe,S8.extBut _ _ hez g,U9⟩ _
 .refine bQ (D1.item k1 _ _ _ Sf T4 λx g2 tk2 px st1b S5=>cf ?_);replace S5:Heap.SameBut i1 g1 g2:=S5;have o2:IsPair g2 TO a b:=S5.extBut _ _ R9.a8 (T2.extBut _ _ R9.a2 hO);refine bQ (eZ o2 rfl (bQ (gY o2 λg3 o3 S8=>?_)));replace S8:Heap.SameBut TO g2 g3:=S8;refine bQ (kh (cf (bQ (bQ (gK ?_)))));show wpAny (model prog w) A (Builtin.SmallTypes.nextOf (.ref i2)>>=_) _ _ _;have Uu:S2 k1 g3:=pz D2 (pz D2 (pz D2 S9 T2 R9.c1) S5 R9.c3) S8 R9.c2;rw[he]at Uu;refine bQ (D2.done _ _ _ Uu λg4 e Uc hx=>?_);obtain⟨oe,g,U9⟩:=hx;have z4:IsZip g4 z TI TO .ellipsis:=Uc _ _ R9.a4.symm (S8.extBut _ _ R9.a2.symm (S5.extBut _ _ R9.a3.symm z1));have hez:e≠z:=λq=>by subst q;rw[z4]at g;cases g;simp at U9
  exact fh z4 (by simp) λg5 _ Ud=>hE g5 e (λc o q1 q2 q3 q4 q=>Ud.extBut _ _ q1 (Uc _ _ q4 (S8.extBut _ _ q2 (S5.extBut _ _ q3 (T2.extBut _ _ q1 q))))) ⟨oe,Ud.extBut _ _ hez g,U9⟩ _
end
abbrev Qb(h:Heap)(t:Addr):Heap:=h.push {cls:=.type "tuple_iterator",data:=.fields #[.ref t,.int 0 0]}
abbrev P5(h:Heap)(t u:Addr):Heap:=(Qb h t).push {cls:=.type "tuple_iterator",data:=.fields #[.ref u,.int 0 0]}
abbrev P0(h:Heap)(t u:Addr):Heap:=(P5 h t u).push {cls:=.type "tuple",data:=.seq #[.ref h.objs.size,.ref (Qb h t).objs.size]}
abbrev P7(h:Heap)(t u:Addr):Heap:=(P0 h t u).push {cls:=.type "tuple",data:=.seq #[.none,.none]}
abbrev Ox(h:Heap)(t u:Addr):Heap:=(P7 h t u).push {cls:=.type "zip",data:=.fields #[.none,.bool false,.bool false,.ref (P5 h t u).objs.size,.ref (P0 h t u).objs.size]}
def Ac(t u:Addr)(xs ys:Array Vl):
  Meets (Builtin.«zip.__new__» ⟨[.type "zip",.ref t,.ref u],[]⟩) (λ_ R s=>s.heap.IsTuple t xs/\s.heap.IsTuple u ys/\R (.ok (.ret (.ref (P7 s.heap t u).objs.size))) {s with heap:=Ox s.heap t u}):=
 .of_wp λprog w A R s h=>by
  obtain⟨hp,g,d,tk,os⟩:=s;obtain⟨e1,e2,h⟩:=h;have TV:=sub_zip;have q1:Heap.IsTuple (Shared.heap ⟨hp,g,d,tk,os⟩) t xs:=e1;have q2:Heap.IsTuple (Shared.heap ⟨hp.push {cls:=.type "tuple_iterator",data:=.fields #[.ref t,.int 0 0]},g,d,tk,os⟩) u ys:=Heap.IsTuple.push e2 _
  wp_walk using fP q1,fP q2
  exact⟨_,rfl,h⟩
def Bq{t u:Addr}{xs ys:Array Vl}{Q:QQX}(ht:s.heap.IsTuple t xs)(hu:s.heap.IsTuple u ys) (h:∀g,IsZip g (s.heap.objs.size+4) (s.heap.objs.size+2) (s.heap.objs.size+3) .none->IsPair g (s.heap.objs.size+2) (.ref s.heap.objs.size) (.ref (s.heap.objs.size+1))->IsPair g (s.heap.objs.size+3) .none .none->
   g.IsTupleIter s.heap.objs.size t 0->g.IsTupleIter (s.heap.objs.size+1) u 0->(∀c o,s.heap.get? c=some o->g.get? c=some o)->Q (.ref (s.heap.objs.size+4)) {s with heap:=g}):
  wpAny (model prog w) A (call (.type "zip") [.ref t,.ref u]) Q E s:=by
 refine callType_new F.called_zip (by decide) (kr _ _) (kE _ _) (λobj=>jv obj _ _) kF (Ac t u xs ys) ⟨ht,hu,?_⟩;have m1:(Qb s.heap t).objs.size=s.heap.objs.size+1:=dz ..;have m2:(P5 s.heap t u).objs.size=s.heap.objs.size+2:=by rw[dz,m1]
 have m3:(P0 s.heap t u).objs.size=s.heap.objs.size+3:=by rw[dz,m2]
 have m4:(P7 s.heap t u).objs.size=s.heap.objs.size+4:=by rw[dz,m3]
 have up:∀{h:Heap} {c:Addr} {o p:Obj},h.get? c=some o->(h.push p).get? c=some o:=λq=>bX _ q;have r5:(Ox s.heap t u).get? (P7 s.heap t u).objs.size=some _:=cz _ rfl;have r4:(Ox s.heap t u).get? (P0 s.heap t u).objs.size=some _:=up (cz _ rfl);have r3:(Ox s.heap t u).get? (P5 s.heap t u).objs.size=some _:=up (up (cz _ rfl));have r2:(Ox s.heap t u).get? (Qb s.heap t).objs.size=some _:=up (up (up (cz _ rfl)));have r1:(Ox s.heap t u).get? s.heap.objs.size=some _:=up (up (up (up (cz _ rfl))));show _/\_;rw[m2,m3,m4]at r5;rw[m1,m2]at r3;rw[m3]at r4;rw[m1]at r2;rw[m4];exact⟨⟨_,r5,rfl⟩,h _ r5 r3 r4 ⟨_,r1,rfl,rfl⟩ ⟨_,r2,rfl,rfl⟩ λc o q=>up (up (up (up (up q))))⟩
def uV{z TI TO i1 i2:Addr}{f1 f2:QXQ}{n1 n2 k:Nat}{P1 P2:Nat->Vl->Prop}{S1 S2:Nat->Heap->Prop}{a b:Vl}{Q:Option Vl->Sd->Prop}(D1:Draws prog w A.in1 i1 f1 n1 P1 S1)(D2:Draws prog w A.in1 i2 f2 n2 P2 S2)(R9:sU z TI TO i1 i2 f1 f2) (hz:IsZip s.heap z TI TO .none) (hI:IsPair s.heap TI (.ref i1) (.ref i2)) (hO:IsPair s.heap TO a b) (U7:S1 k s.heap) (S9:S2 k s.heap) (l1:k<n1) (l2:k<n2) (hQ:∀x y g tk,P1 k x->P2 k y->IsZip g z TI TO (rawInt s.heap.objs.size)->IsPair g TO x y->S1 (k+1) g->S2 (k+1) g->IsPair g s.heap.objs.size x y->g.objs.size=s.heap.objs.size+1->
   (∀c o,c≠z->c≠TO->c≠i1->c≠i2->s.heap.get? c=some o->g.get? c=some o)->Q (some (.ref s.heap.objs.size)) {s with heap:=g,toks:=tk}):wpAny (model prog w) A (pyNext (.ref z)) Q E s:=by
 have hT:s.TypeIs (.ref z) "zip":=⟨_,hz,rfl⟩;unfold pyNext;refine bQ (iq (dS (name:=Str.ofString "__next__") hT gZ (eh gZ hT kt ?_ (kc _))));exact Gj D1 D2 R9 hz hI hO U7 S9 l1 l2 λx y g tk q1 q2 q3 q4 q5 q6 q7 q8 q9=>cf (hQ x y g tk q1 q2 q3 q4 q5 q6 q7 q8 q9)
def rB{z TI TO i1 i2:Addr}{f1 f2:QXQ}{n1 n2 k:Nat}{P1 P2:Nat->Vl->Prop}{S1 S2:Nat->Heap->Prop}{a b:Vl}{Q:Option Vl->Sd->Prop}(D1:Draws prog w A.in1 i1 f1 n1 P1 S1)(D2:Draws prog w A.in1 i2 f2 n2 P2 S2)(R9:sU z TI TO i1 i2 f1 f2) (hz:IsZip s.heap z TI TO .none) (hI:IsPair s.heap TI (.ref i1) (.ref i2)) (hO:IsPair s.heap TO a b) (U7:S1 k s.heap) (S9:S2 k s.heap) (U8:k=n1\/(k<n1/\k=n2)) (hQ:∀g tk,(∀c o,c≠z->c≠TO->c≠i1->c≠i2->s.heap.get? c=some o->g.get? c=some o)->Q none {s with heap:=g,toks:=tk}):wpAny (model prog w) A (pyNext (.ref z)) Q E s:=by
 have hT:s.TypeIs (.ref z) "zip":=⟨_,hz,rfl⟩;unfold pyNext;refine bQ (iq (dS (name:=Str.ofString "__next__") hT gZ (eh gZ hT kt (Hq D1 D2 R9 hz hI hO U7 S9 U8 λg e kp hx tk=>?_) (kc _))));obtain⟨o,e1,e2⟩:=hx;exact bQ (wpAny_isInstance (T:="StopIteration") (b:=true) ⟨o,e1,e2⟩ isSubtype_stop (cf (hQ g tk kp)))
def xq{a b:Addr}{xs:V0 V}(I:Inv X RP Y H s)(f:wm X RP H b)(q:rc X.K H a xs):a≠b:=by
 rintro rfl
 rcases q with q|⟨o,its,n,hk,_⟩
 .have z:=f.1;rcases q with q|⟨u,q⟩<;>(rw[q]at z;cases z)
 .have e:=I.mod.mi a o hk;rcases f.2.2.2.1 with z|z
  .exact I.ok.lM a o e z
  .exact absurd (cF (cp e) (di I.ok.lV z)) (dv _)
noncomputable def Qu(K:nz)(a b:Addr):It:=
 ⟨λi H=>∃xs ys x y,rc K H a xs/\rc K H b ys/\xs[i]?=some x/\ys[i]?=some y,λi H v H'=>∃p x y,v=.ref p/\H p=none/\H'=upd H p (.tup [x,y])/\(∀xs,rc K H a xs->xs[i]?=some x)/\(∀ys,rc K H b ys->ys[i]?=some y),λi H=>∃xs ys,rc K H a xs/\rc K H b ys/\i=min xs.length ys.length⟩
def HC{P:Pg}{w:Wo}{K:nz}{Sb:V0 Expr}{n:Nat}{tp:Pos}(a b z TI TO i1 i2:Addr)(a1:TI≠z)(a2:TO≠z)(a3:i1≠z)(a4:i2≠z)(a5:TI≠TO)(a6:TI≠i1)(a7:TI≠i2)(a8:TO≠i1)(a9:TO≠i2)(mD:i1≠i2):
  Ai P w K (.Tuple Sb n tp) (Qu K a b) [z,TI,TO,i1,i2] z (λi h=>IsZip h z TI TO .none/\IsPair h TI (.ref i1) (.ref i2)/\(∃u v,IsPair h TO u v)/\h.IsTupleIter i1 a i/\h.IsTupleIter i2 b i) where
 mem:=by simp
 obj:=λi h st c hc=>by
  obtain⟨h1,h2,⟨u,v,h3⟩,⟨o4,h4,_,d4⟩,⟨o5,h5,_,d5⟩⟩:=st;simp only[bT,bY,cM]at hc;rcases hc with rfl|rfl|rfl|rfl|rfl
  .exact⟨_,h1,λv z=>by cases z⟩
  .exact⟨_,h2,λv z=>by cases z⟩
  .exact⟨_,h3,λv z=>by cases z⟩
  .exact⟨_,h4,λv z=>by rw[d4]at z;cases z⟩
  .exact⟨_,h5,λv z=>by rw[d5]at z;cases z⟩
 keep:=λi h h' st k=>by obtain⟨h1,h2,⟨u,v,h3⟩,⟨o4,h4,c4⟩,⟨o5,h5,c5⟩⟩:=st;exact⟨k z (by simp) _ h1,k TI (by simp) _ h2,⟨u,v,k TO (by simp) _ h3⟩,⟨o4,k i1 (by simp) _ h4,c4⟩,⟨o5,k i2 (by simp) _ h5,c5⟩⟩
 item:=by
  intro X hP hw hK hc i RP s Y H E I hf st hg;subst hP hw hK;obtain⟨xs,ys,x,y,hx,hy,ex,ey⟩:=hg;obtain⟨its,rx,px,_⟩:=I.tuple hx;obtain⟨Sy,ry,py,_⟩:=I.tuple hy;obtain⟨u,eu,ru⟩:=rx.get ex;obtain⟨v,ev,rv⟩:=ry.get ey;obtain⟨h1,h2,⟨p,q,h3⟩,h4,h5⟩:=st;have hh:X.A.in1.handled=none:=I.ok.hd hc;have fa:∀c∈[z,TI,TO,i1,i2],a≠c:=λc hc=>xq I (hf c hc) hx;have fb:∀c∈[z,TI,TO,i1,i2],b≠c:=λc hc=>xq I (hf c hc) hy;have R9:sU z TI TO i1 i2 [i1,a] [i2,b]:=⟨a1,a2,a3,a4,a5,a6,a7,a8,a9,mD,by
   simp only[bT,bY,cM,dj];exact⟨cH a3,cH (fa z (by simp))⟩,by
   simp only[bT,bY,cM,dj];exact⟨a8,cH (fa TO (by simp))⟩,by
   simp only[bT,bY,cM,dj];exact⟨cH mD,cH (fa i2 (by simp))⟩,by
   simp only[bT,bY,cM,dj];exact⟨cH a4,cH (fb z (by simp))⟩,by
   simp only[bT,bY,cM,dj];exact⟨a9,cH (fb TO (by simp))⟩,by
   simp only[bT,bY,cM,dj];exact⟨mD,cH (fb i1 (by simp))⟩⟩
  have l1:i<its.toArray.size:=by
   have:=(bW.mp eu).1
   simpa using this
  have l2:i<Sy.toArray.size:=by
   have:=(bW.mp ev).1
   simpa using this
  refine uV (rR hh i1 a (fa i1 (by simp)) its.toArray) (rR hh i2 b (fb i2 (by simp)) Sy.toArray) R9 h1 h2 h3 ⟨h4,px⟩ ⟨h5,py⟩ l1 l2 λx' y' g tk e1 e2 z1 o1 s1 s2 t1 sz kp=>?_;have U3:x'=u:=by
   have:its[i]?=some x':=by simpa using e1
   rw[eu]at this;exact(ce this).symm
  have S7:y'=v:=by
   have:Sy[i]?=some y':=by simpa using e2
   rw[ev]at this;exact(ce this).symm
  subst U3 S7;refine⟨_,rfl,gx z1 λg2 z2 sb=>?_⟩;have UK:z<s.heap.objs.size:=cp h1;have kk:∀c o,c∉[z,TI,TO,i1,i2]->s.heap.get? c=some o->g2.get? c=some o:=λc o hc e=>by simp only[bT,bY,cM,dj]at hc;exact(sb.2 c hc.1).trans (kp c o hc.1 hc.2.2.1 hc.2.2.2.1 hc.2.2.2.2 e)
  have t2:g2.get? s.heap.objs.size=some {cls:=.type "tuple",data:=.seq #[x',y']}:=(sb.2 _ (eU UK)).trans t1;have TB:H s.heap.objs.size=none:=I.lb.fresh (cq _);have I2:=I.drawn (ch:=[z,TI,TO,i1,i2]) (T:=s.heap.objs.size) (xs:=[x,y]) (its:=[x',y']) (h':=g2) (tk:=tk) hf kk (cq _) (by show 2<=sizeLine;decide) (.cons ru (.cons rv .nil)) ⟨_,t2,rfl,⟨_,rfl⟩,rfl⟩;refine⟨.ref s.heap.objs.size,_,I2,rfl,⟨_,x,y,rfl,TB,rfl,λxs' hx'=>by rw[I.lm hx' hx];exact ex,λys' hy'=>by rw[I.lm hy' hy];exact ey⟩,?_,λc hc=>?_⟩
  .obtain⟨o4,g4,c4⟩:=s1.1;obtain⟨o5,g5,c5⟩:=s2.1;exact⟨z2,(sb.2 _ a1).trans (kp _ _ a1 a5 a6 a7 h2),⟨_,_,(sb.2 _ a2).trans o1⟩,⟨o4,(sb.2 _ a3).trans g4,c4⟩,⟨o5,(sb.2 _ a4).trans g5,c5⟩⟩
  .have n0:=(hf c hc).1;obtain⟨o,eo⟩:∃o,s.heap.get? c=some o:=by
    obtain⟨o4,g4,_⟩:=h4;obtain⟨o5,g5,_⟩:=h5;simp only[bT,bY,cM]at hc;rcases hc with rfl|rfl|rfl|rfl|rfl
    .exact⟨_,h1⟩
    .exact⟨_,h2⟩
    .exact⟨_,h3⟩
    .exact⟨_,g4⟩
    .exact⟨_,g5⟩
   rw[ni (cI (cp eo))];exact n0
 done:=by
  intro X hP hw hK hc i RP s Y H E I hf st hg;subst hP hw hK;obtain⟨xs,ys,hx,hy,hi⟩:=hg;obtain⟨its,rx,px,_⟩:=I.tuple hx;obtain⟨Sy,ry,py,_⟩:=I.tuple hy;obtain⟨h1,h2,⟨p,q,h3⟩,h4,h5⟩:=st;have hh:X.A.in1.handled=none:=I.ok.hd hc;have fa:∀c∈[z,TI,TO,i1,i2],a≠c:=λc hc=>xq I (hf c hc) hx;have fb:∀c∈[z,TI,TO,i1,i2],b≠c:=λc hc=>xq I (hf c hc) hy;have R9:sU z TI TO i1 i2 [i1,a] [i2,b]:=⟨a1,a2,a3,a4,a5,a6,a7,a8,a9,mD,by
   simp only[bT,bY,cM,dj];exact⟨cH a3,cH (fa z (by simp))⟩,by
   simp only[bT,bY,cM,dj];exact⟨a8,cH (fa TO (by simp))⟩,by
   simp only[bT,bY,cM,dj];exact⟨cH mD,cH (fa i2 (by simp))⟩,by
   simp only[bT,bY,cM,dj];exact⟨cH a4,cH (fb z (by simp))⟩,by
   simp only[bT,bY,cM,dj];exact⟨a9,cH (fb TO (by simp))⟩,by
   simp only[bT,bY,cM,dj];exact⟨mD,cH (fb i1 (by simp))⟩⟩
  have e1:=rx.length;have e2:=ry.length;refine rB (rR hh i1 a (fa i1 (by simp)) its.toArray) (rR hh i2 b (fb i2 (by simp)) Sy.toArray) R9 h1 h2 h3 ⟨h4,px⟩ ⟨h5,py⟩ (by simp only[b7];lia) λg tk kp=>⟨rfl,?_⟩;have kk:∀c o,c∉[z,TI,TO,i1,i2]->s.heap.get? c=some o->g.get? c=some o:=λc o hc e=>by simp only[bT,bY,cM,dj]at hc;exact kp c o hc.1 hc.2.2.1 hc.2.2.2.1 hc.2.2.2.2 e
  refine I.step (g':=s.gens) (d':=s.drawn) (t':=tk) (ch:=[z,TI,TO,i1,i2]) (λc hc=>⟨(hf c hc).2.2.2.1,(hf c hc).2.1,(hf c hc).2.2.2.2.1,(hf c hc).2.2.2.2.2⟩) ?_ ?_ (λc o _ e n=>n) ?_ (λ_ _ e=>e) (λ_ _ _ e=>e) (λc ps e=>⟨#[],by rw[e];simp⟩) ?_ ?_ I.bare
  .exact λc o _ _ hc e _=>kk c o hc e
  .exact λc o _ _ hc e _=>⟨o.slots,kk c o hc e⟩
  .exact λc o hc e=>⟨o,kk c o hc e⟩
  .intro m hm;obtain⟨o,es,ep,ho,r⟩:=hm;exact⟨o,es,ep,kk _ o (λy=>(hf _ y).2.1 rfl) ho,r⟩
  .intro c u e;refine(I.lb c u e).ly (λd v hd q=>kk d v (λy=>?_) q) (λ_ q=>q) λ_ _ q=>q;have n:=(hf d y).1;rcases hd with x|x
   .rw[x,e]at n;cases n
   .rw[x]at n;cases n
 self:=λ_ _ _ _ _ st h=>fG st.1 h
def M9{a b:Expr}{ta:TA}(hg:Gl X "zip")(hm:X.mg "zip"=none)(ha:PA X [a,b] ta)(hs:starEach [a,b] X.env=[(false,eval a X.env),(false,eval b X.env)]:=by rfl)(SE:starEach [b] X.env=[(false,eval b X.env)]:=by rfl):
  PI X (.Tuple Sb n tp) (.Call (.Name "zip" p) [a,b] [] pos) (λY H R=>ta Y H λvs H1=>∃l m,vs=[.ref l,.ref m]/\(∃xs,rc X.K H1 l xs)/\(∃xs,rc X.K H1 m xs)/\R (Qu X.K l m) H1):=by
 intro RP s Y H R I h;refine Call_ (tq I hg hm Ek (dF (pC (ha pos RP s Y H _ I h) λus s1 zz=>x5 zz λvs H1 I1 r1 q1=>?_) (by rw[hs,SE]) (by rw[SE];rfl)));obtain⟨l,m,e,⟨xs,hx⟩,⟨ys,hy⟩,q⟩:=q1;subst e;obtain⟨u,v,rfl,ru,rv⟩:=yM r1;cases ru;cases rv;obtain⟨its,_,px,_⟩:=I1.tuple hx;obtain⟨Sy,_,py,_⟩:=I1.tuple hy;refine Bq px py λg h1 h2 h3 h4 h5 hk=>fG h1 ?_;have I2:Inv X RP Y H1 {s1 with heap:=g}:=I1.kept (t':=s1.toks) hk;refine⟨s1.heap.objs.size+4,[s1.heap.objs.size+4,s1.heap.objs.size+2,s1.heap.objs.size+3,s1.heap.objs.size,s1.heap.objs.size+1],_,_,H1,rfl,I2,HC l m _ _ _ _ _ ?_ ?_ ?_ ?_ ?_ ?_ ?_ ?_ ?_ ?_,⟨h1,h2,⟨_,_,h3⟩,h4,h5⟩,λb hb=>?_,q⟩
 .exact λz=>by have z:s1.heap.objs.size+2=s1.heap.objs.size+4:=z;lia
 .exact λz=>by have z:s1.heap.objs.size+3=s1.heap.objs.size+4:=z;lia
 .exact λz=>by have z:s1.heap.objs.size=s1.heap.objs.size+4:=z;lia
 .exact λz=>by have z:s1.heap.objs.size+1=s1.heap.objs.size+4:=z;lia
 .exact λz=>by have z:s1.heap.objs.size+2=s1.heap.objs.size+3:=z;lia
 .exact λz=>by have z:s1.heap.objs.size+2=s1.heap.objs.size:=z;lia
 .exact λz=>by have z:s1.heap.objs.size+2=s1.heap.objs.size+1:=z;lia
 .exact λz=>by have z:s1.heap.objs.size+3=s1.heap.objs.size:=z;lia
 .exact λz=>by have z:s1.heap.objs.size+3=s1.heap.objs.size+1:=z;lia
 .exact λz=>by have z:s1.heap.objs.size=s1.heap.objs.size+1:=z;lia
 .have Ss:s1.heap.objs.size<=b:=by
   simp only[bT,bY,cM]at hb;rcases hb with rfl|rfl|rfl|rfl|rfl
   .exact dD _ _
   .exact dD _ _
   .exact dD _ _
   .exact cq _
   .exact dD _ _
  exact I1.lN Ss (I1.lb.fresh Ss)
noncomputable def sy:V0 D->V0 D->V0 D
 | x::a,y::b=>.tup [x,y]::sy a b
 | _,_=>[]
theorem vi:∀{ds es:V0 D} {i:Nat},(sy ds es)[i]?=(ds[i]?).bind λd=>(es[i]?).map λe=>D.tup [d,e]
 | [],es,i=>by simp[sy]
 | d::ds,[],i=>by simp[sy]
 | d::ds,e::es,0=>by simp[sy]
 | d::ds,e::es,i+1=>by show(sy ds es)[i]?=_;rw[vi];simp
theorem sI:∀{ds es:V0 D},(sy ds es).length=min ds.length es.length
 | [],es=>by simp[sy]
 | d::ds,[]=>by simp[sy]
 | d::ds,e::es=>by show(sy ds es).length+1=_;rw[sI];simp only[b8];lia
def JT{K:nz}{H1:Hp}{a b:Addr}{ds es:V0 D}{xs ys:V0 V}(h1:rc K H1 a xs)(h2:nq K H1 ds xs)(g1:rc K H1 b ys)(g2:nq K H1 es ys):zS K H1 (Qu K a b) (sy ds es) (λ_=>True) where
 go:=λi H M hi hm ok e1=>by rw[sI]at hi;obtain⟨x,ex,_⟩:=h2.get (bZ (show i<ds.length by lia));obtain⟨y,ey,_⟩:=g2.get (bZ (show i<es.length by lia));exact⟨xs,ys,x,y,e1.t _ _ h1,e1.t _ _ g1,ex,ey⟩
 mv:=λi d H M v H' hd hm ok e1 y=>by
  obtain⟨p,x,z,rfl,hp,rfl,y1,y2⟩:=y;rw[vi]at hd;cases e:ds[i]? with
  | none=>rw[e]at hd;cases hd
  | some d'=>
   cases e':es[i]? with
   | none=>rw[e,e']at hd;cases hd
   | some d''=>rw[e,e']at hd;cases hd;obtain⟨x',q1,hx⟩:=h2.get e;obtain⟨z',q2,hz⟩:=g2.get e';have w1:=y1 xs (e1.t _ _ h1);have w2:=y2 ys (e1.t _ _ g1);rw[q1]at w1;rw[q2]at w2;have v1:x'=x:=ce w1;have v2:z'=z:=ce w2;subst v1 v2;have ex:nX K H (upd H p (.tup [x',z'])):=.new hp;exact⟨.tup (.of m9) (.cons (hx.mono (e1.trans ex)) (.cons (hz.mono (e1.trans ex)) .nil)),hm.add hp,ex⟩
 stop:=λH M hm ok e1=>⟨xs,ys,e1.t _ _ h1,e1.t _ _ g1,by rw[sI,h2.length,g2.length]⟩
def Pz(t:rM):Gg:=λU M R=>t U M λds M1=>match ds with
 | [.tup a,.tup b]=>R (sy a b) (λ_=>True) M1
 | _=>False
def ND{a b:Expr}{ta:rM}(hg:Gl X "zip")(hm:X.mg "zip"=none)(ha:A3 X [a,b] ta)(hs:starEach [a,b] X.env=[(false,eval a X.env),(false,eval b X.env)]:=by rfl)(SE:starEach [b] X.env=[(false,eval b X.env)]:=by rfl):
  I3 X (.Tuple Sb n tp) (.Call (.Name "zip" p) [a,b] [] pos) (Pz ta):=
 PI.mono (M9 hg hm ha hs SE) λY H R' zz=>x7 zz λU M R hs hm ht k=>⟨U,M,_,hs,hm,ht,λvs H1 ds M1 hd RS e1 q1=>by
  split at q1
  .obtain⟨v,u,rfl,hv,hw⟩:=tT hd;obtain⟨l,xs,rfl,h1,h2⟩:=hv.k8;obtain⟨m,ys,rfl,g1,g2⟩:=hw.k8;exact⟨l,m,rfl,⟨xs,h1⟩,⟨ys,g1⟩,k _ H1 _ _ M1 (JT h1 h2 g1 g2) RS e1 trivial q1⟩
  .exact q1.elim⟩
def nJ(M M':Mp):Prop:=∀a c,M a=some c->M' a=some c
def nJ.refl{M:Mp}:nJ M M:=λ_ _ h=>h
def nJ.trans{M M1 M2:Mp}(a:nJ M M1)(b:nJ M1 M2):nJ M M2:=λx c h=>b x c (a x c h)
def nJ.new{M:Mp}{p:Addr}{c:s9}(h:M p=none):nJ M (mS M p c):=λx d q=>by rw[pL (HB q h)];exact q
def nJ.lst{M M':Mp}{a:Addr}{ds:V0 D}(s:nJ M M')(h:lO M a=some ds):lO M' a=some ds:=by
 unfold lO at h ⊢;cases e:M a with
 | none=>rw[e]at h;cases h
 | some c=>rw[s a c e];rw[e]at h;exact h
def HM.sub{K:nz}{H:Hp}{M M':Mp}(h:HM K H M')(s:nJ M M'):HM K H M:=λa c q=>h a c (s a c q)
def Pk{x qual:Str}{st:Stmt}{f:Addr}{fd:FuncData}{N ps:QQQ}{k:Nat}{sp:rf}(F:LU K x qual st f fd)(S:qB N ps (nv st))(len:∀ds M Q,sp ds M Q->ds.length=ps.length) (Sh:∀(R8:Vl) (A:Ar) (outer:V0 Env) (s:Sd) (H:Hp) (E:XK),pJ k (A.deeper (envOfC qual (nv st) s.heap.objs.size f R8))->
   ∃t,zP (rn Jj P w K mg base N qual (nv st) f R8 A outer s H E).mj (pD st) t/\∀ds M Q,sp ds M Q->t {nx:=λ_ M'=>∃RW,nJ RW M'/\Q .k9 RW,rt:=λd M'=>∃RW,nJ RW M'/\Q d RW} (ug N ds) M):Ov P w K mg base (k+1) f fd ps sp:=by
 refine F.ok S (λvs H Q E h=>?_) (λR8 A outer s H vs Q' E hr h=>?_)
 .obtain⟨ds,M,Q,hd,_,hs,_⟩:=h;rw[<-hd.length];exact len ds M Q hs
 .obtain⟨ds,M,Q,hd,hm,hs,k⟩:=h;obtain⟨t,ht,hb⟩:=Sh R8 A outer s H E hr;exact⟨_,ht,ug N ds,M,_,Ao hd,hm,hb ds M Q hs,λσ' H' δ' M' _ x2 x3 _ ⟨RW,y1,y2⟩=>k .k9 H' .k9 RW .k9 (x2.sub y1) x3 y2,λv H' d M' x1 x2 x3 ⟨RW,y1,y2⟩=>k v H' d RW x1 (x2.sub y1) x3 y2,λ_ _ _ _ _ _ _ _ z=>z,λ_ _ _ _ _ _ _ _ z=>z⟩
theorem su{g:zK}{te:T3}{ok:Mp->Prop}{Q:DK}{f:D->D}{M:Mp}(J:rH->Prop)(lb:ok M):∀(ds acc:V0 D) (U:rH),J U->acc.length+ds.length<=sizeLine->
  (∀d∈ds,∀U,J U->∀k:rH->DK,(∀δ',J δ'->k δ' (f d) M)->g d U M λδ2 M2=>te δ2 M2 (k δ2))->(∀p,M p=none->Q (.ref p) (mS M p (.lst (acc++ds.map f))))->tI g As te ok Q ds acc U M
 | [],acc,U,_,hl,_,hq=>⟨by simpa using hl,by simpa using hq⟩
 | d::r,acc,U,hj,hl,ht,hq=>by
  rw[b8]at hl;refine⟨by lia,?_⟩;refine ht d ck U hj (λδ2 y M4=>ok M4/\tI g As te ok Q r (acc++[y]) δ2 M4) λδ' UH=>⟨lb,su (f:=f) J lb r (acc++[f d]) δ' UH ?_ (λe he=>ht e (ci _ he)) ?_⟩
  .rw[bS,cC];lia
  .simpa using hq
def n8{i:Nat}{te:T3}{ok:Mp->Prop}{Q:DK}{f:D->D}{M:Mp}(lb:ok M):∀(ds acc:V0 D) (U:rH),acc.length+ds.length<=sizeLine->(∀d∈ds,∀k:DK,k (f d) M->te (U.set i (some d)) M k)->
  (∀p,M p=none->Q (.ref p) (mS M p (.lst (acc++ds.map f))))->tI (pk i) As te ok Q ds acc U M:=λds acc U hl ht hq=>
 su (f:=f) (λδ'=>∀d,δ'.set i (some d)=U.set i (some d)) lb ds acc U (λ_=>rfl) hl (λd hd δ' hj k hk=>by
  show te (δ'.set i (some d)) M (k (δ'.set i (some d)));rw[hj d];exact ht d hd _ (hk _ λe=>by rw[List.set_set])) hq
theorem uf{α:Type}(f:α->Bool):∀l:List α,C8 (l.map λx=>D.bl (f x))=some (l.map f)
 | []=>rfl
 | x::r=>by show(C8 (r.map λx=>D.bl (f x))).map (f x::·)=_;rw[uf f r];rfl
def mI{M:Mp}{p:Addr}{ds:V0 D}:lO (mS M p (.lst ds)) p=some ds:=by unfold lO;rw[m7]
def i'{α:Type}{o:Option α}{P:α->Prop}{x:α}(e:o=some x)(h:P x):o.elim False P:=by rw[e];exact h
def lP{l:V0 D}(h:decide (l.length<=100)=true):l.length<=sizeLine:=by have z:=cP;have:=bU h;lia
theorem si{g:zK}{tb:rO}{ok:Mp->Prop}{E:yE}(all:V0 D)(J:V0 D->rH->Mp->Prop)(lb:∀p U M,J p U M->ok M):∀(ds pre:V0 D) (U:rH) (M:Mp),pre++ds=all->J pre U M->
  (∀pre d post,pre++d::post=all->∀U M,J pre U M->∀nx:rH->Mp->Prop,(∀δ' M',J (pre++[d]) δ' M'->nx δ' M')->g d U M λδ2 M2=>tb {E with nx:=nx,ct:=nx,bk:=E.nx} δ2 M2)->(∀U M,J all U M->E.nx U M)->zQ g tb ok E ds U M
 | [],pre,U,M,e,j,_,hn=>hn U M (by rw[<-e,cJ];exact j)
 | d::r,pre,U,M,e,j,ht,hn=>ht pre d r e U M j (λδ' M'=>ok M'/\zQ g tb ok E r δ' M') λδ' M' j'=>⟨lb _ δ' M' j',si all J lb r (pre++[d]) δ' M' (by rw[<-e,df];rfl) j' ht hn⟩
def BW{K:nz}{t:Vl}:W.kitOne K t t=some true:=by unfold W.kitOne;rw[b9 (by simp)]
def IS{K:nz}{t c:Vl}{b:Bool}(h:W.kitCls K t c=some b)(ne:b=false->(t==c)=false):W.kitOne K t c=some b:=by
 unfold W.kitOne;by_cases e:(t==c)=true
 .rw[b9 e];cases b with
  | true=>rfl
  | false=>rw[ne rfl]at e;cases e
 .rw[bV e];exact h
def EL{K:nz}{t:Vl}{C:Addr}{cd:ClassData}{b:Bool}(q1:W.clsIn K C=some cd)(q2:W.typeIn K (.ref C)=some (.type "type"))(s:W.subIn K t (.ref C)=some b)(ne:b=false->(t==.ref C)=false):W.kitOne K t (.ref C)=some b:=by refine IS ?_ ne;unfold W.kitCls;simp only;rw[q1,q2,b9 (by rfl)];exact s
def D8{K:nz}{t:Vl}{T:String}{b:Bool}(m:W.kitMeta T=true)(s:W.subIn K t (.type T)=some b)(ne:b=false->(t==.type T)=false):W.kitOne K t (.type T)=some b:=by refine IS ?_ ne;unfold W.kitCls;simp only;rw[b9 m];exact s
def C4:W.kitMeta "tuple"=true:=by decide+kernel
def xT{c:Bool}{A B:Prop}(h:c=false)(hb:B):if c=true then A else B:=by subst h;exact wg hb
def zN{c:Bool}{A B:Prop}(h:c=true)(ha:A):if c=true then A else B:=by subst h;exact yD ha
def yJ{t u:rO}{E:yE}{U:rH}{M:Mp}(R:rH->Mp->Prop)(h2:∀nx:rH->Mp->Prop,(∀δ' M',R δ' M'->nx δ' M')->t {E with nx:=nx} U M)(h1:∀δ' M',R δ' M'->u E δ' M'):yT t u E U M:=h2 (u E) h1
def JU{ds es:V0 D}{d:D}(h:d∈sy ds es):∃(i:Nat) (x y:D),ds[i]?=some x/\es[i]?=some y/\d=.tup [x,y]:=by
 obtain⟨i,hi,e⟩:=gu h;have e':(sy ds es)[i]?=some d:=by rw[bZ hi,e]
 rw[L3.vi]at e';cases q1:ds[i]? with
 | none=>rw[q1]at e';cases e'
 | some x=>
  rw[q1]at e';cases q2:es[i]? with
  | none=>rw[q2]at e';cases e'
  | some y=>rw[q2]at e';exact⟨i,x,y,q1,q2,(ce e').symm⟩
def OR{K:nz}{H:Hp}{a:Addr}{ns:V0 Int}(hO:IQ H)(hS:sO K H a (ns.map V.int)):o9 K H (.rl (ns.map D.int)) (.ref a):=by
 have r:Kn K H a (ns.map V.int):=by
  rcases hS with h|h
  .rcases h with h|⟨o,h⟩
   .rcases hO a with z|⟨o,xs,z⟩<;>(rw[h]at z;cases z)
   .exact .inl ⟨o,h⟩
  .exact .inr h
 unfold o9;exact⟨a,_,rfl,r,.ints⟩
def Oo{K:nz}{sp:rf}{H:Hp}{a:Addr}{ns:V0 Int}(hO:IQ H)(hS:sO K H a (ns.map V.int))(h:sp [.rl (ns.map D.int)] (λ_=>none) λd _=>d=.bl true):Ot K sp [.ref a] H (λv _=>v=.bl true) λ_ _ _=>False:=
 ⟨_,λ_=>none,_,.cons (OR hO hS) .nil,λ_ _ z=>(by cases z),h,λv H' d M' x1 _ _ x4=>by subst x4;exact x1.k7⟩
def IA{l:W.OpenLaw}{q:Pg}{SO:QQQ}{XP:(QQZ)->Heap->Prop}{YP:Wo->Heap->Prop}{d:DefRec}{K:Params->nz}{k:Nat}{x:Str}{sp:rf}(hn:l.most=some 63)(UE:d.params.defaults=[])(hr:pJ k callerA) (hY:∀(w:Wo) (h:Heap),YP w h->(K w.params).In h) (Ua:∀ns:V0 Int,ns.length<=63->sp [.rl (ns.map D.int)] (λ_=>none) λd _=>d=.bl true) (F:∀(w:Wo) (mg:QQZ) (fa:Addr) (h:Heap),(K w.params).In h->h.Ns mainGlobals mg->mg d.name=some (.ref fa)->
   ∃fd:FuncData,(∀(s:Sd) (u:Vl),BindsTo s fd ⟨[u],[]⟩ [(x,u)])/\∀base:Heap,(K w.params).In base->base.Ns mainGlobals mg->Ov l.prog w (K w.params) mg base k fa fd [x] sp):
  W.WalkO q SO XP YP l.row.toRowW d [] (λf vs=>PySem.call f vs):=
 L2.Lp (n:=63) (k:=k) (x:=x) (CX:=λ_=>Jj) (sp:=λw=>Ot (K w.params) sp) hn (by decide) UE hr hY F (λ_ _ a ns hl hO hS=>Oo hO hS (Ua ns hl)) λ_ _ _ _ _ z=>z
def KD(K:nz)(mg:QQZ)(x:Str)(d:D):Prop:=yZ λv u=>mg x=some u/\nW v u/\∀H,o9 K H d v
def GV{K:nz}{mg:QQZ}{x y:Str}{t:Tok}(h:mg x=some (.str y t)):KD K mg x (.str y):=⟨.str y,_,h,⟨t,rfl⟩,λ_=>.str⟩
def sh{K:nz}{mg:QQZ}{x:Str}{y:Int}{t:Tok}(h:mg x=some (.int y t)):KD K mg x (.int y):=⟨.int y,_,h,⟨t,rfl⟩,λ_=>.int⟩
def pO{K:nz}{a:Addr}{ss:QQQ}{us:V0 Vl}{n:Nat}{sl:Array (Option Vl)}(h:K.lookup a=some ⟨.type "tuple",none,.seq us.toArray n,sl⟩)(r:nI (ss.map V.str) us)(hz:us.length<=1000):rc K (λ_=>none) a (ss.map V.str):=
 .inr ⟨_,us.toArray,n,h,rfl,rfl,rfl,by rw[b7,cP];lia,by simpa using r⟩
theorem u6{K:nz}{H:Hp}:∀{ss:QQQ},nq K H (ss.map D.str) (ss.map V.str)
 | []=>.nil
 | _::_=>.cons .str u6
def wR{K:nz}{mg:QQZ}{x:Str}{a:Addr}{ss:QQQ}(h:mg x=some (.ref a))(q:rc K (λ_=>none) a (ss.map V.str)):KD K mg x (.tup (ss.map D.str)):=
 ⟨.ref a,_,h,rfl,λ_=>.tup (Fe q) u6⟩
variable {d:D}{i:Expr}{td tk:T3}{F:V0 (Str × QQQ)}
def oB(hg:Gl X x)(h:KD X.K X.mg x d)(hd:vq x:=by decide):E3 X (.Name x pos) (c3 d):=by obtain⟨v,u,hm,r,hh⟩:=h;exact PE.mono (yq hg hm r hd) λY H Q' zz=>x7 zz λU M Q hs hm ht k=>k _ H _ M (hh H) hm .refl ht
def QT(F:V0 (Str×QQQ))(ta:T3):T3:=λU M Q=>ta U M λx M1=>match x with|.str k=>Q (.bl (KTD.datumAt k F).isSome) M1|_=>False
def OC(F:V0 (Str×QQQ))(ta:T3):T3:=λU M Q=>ta U M λx M1=>match x with|.str k=>(KTD.datumAt k F).elim False λss=>Q (.tup (ss.map D.str)) M1|_=>False
def C6(T:Hu X.K X.mg x F)(hg:Gl X x)(he:E3 X e ta)(hd:vq x:=by decide)(hmk:behindInMarks .In (.Name x p)=false:=by rfl):E3 X (.Compare e [.In] [.Name x p] pos) (QT F ta):=by
 obtain⟨a,hm,T⟩:=B8 T;refine PE.mono (Br (r:=λy z H Q=>∃k,y=.str k/\z=.ref a/\Q (.bl (KTD.datumAt k F).isSome) H) (λRP s Y H y z v u Q I ry rz ⟨k,e1,e2,q⟩=>?_) he (yq (v:=.ref a) hg hm rfl hd) hmk) λY H Q' zz=>x7 zz λU M Q hs hm ht k=>⟨U,M,_,hs,hm,ht,λv H1 d M1 hd RS e1 q1=>?_⟩
 .subst e1 e2;obtain⟨t,rfl⟩:=ry;obtain rfl:u=Value.ref a:=rz;exact MM (T s.heap I.ls) ⟨.bl (KTD.datumAt k F).isSome,H,I.tok _,rfl,q⟩
 .cases d with
  | str k'=>exact⟨k',hd.str_inv,rfl,k _ _ _ _ .bl RS e1 q1⟩
  | _=>exact q1.elim
def Aq(T:Hu X.K X.mg x F)(hg:Gl X x)(he:E3 X e ta)(hd:vq x:=by decide)(hs:yj e:=by exact λ_ _=>rfl):E3 X (.Subscript (.Name x p) e pos) (OC F ta):=by
 obtain⟨a,hm,T⟩:=B8 T;refine PE.mono (Jd (r:=λz y H Q=>∃k ss,y=.str k/\z=.ref a/\KTD.datumAt k F=some ss/\∀t,rc X.K H t (ss.map V.str)->Q (.ref t) H) (λvalue slice RP s Y H z y o i Q I rz ry ⟨k,ss,e1,e2,e3,q⟩ hs=>?_) (yq (v:=.ref a) hg hm rfl hd) he hs) λY H Q' zz=>x7 zz λU M Q hs hm ht k=>⟨U,M,_,hs,hm,ht,λv H1 d M1 hd RS e1 q1=>?_⟩
 .subst e1 e2;obtain⟨t,rfl⟩:=ry;obtain rfl:o=Value.ref a:=rz;have hT:=vR (s:=s) (T s.heap I.ls);have h2:wpAny (model X.prog X.w) X.A (getItem (.ref a) (.str k t)) (EP X RP Y Q) X.xe s:=HL (T s.heap I.ls) e3 λv ⟨t',e4,q4⟩=>⟨.ref t',H,I.tok _,e4,q t' (Fe q4)⟩;unfold subscriptTail;refine bQ ?_;rw[jg hT.not_modules];refine bQ (iY hT iz.lookup ?_);have RV:wpAny (model X.prog X.w) X.A (subscripted slice false (.ref a) (.str k t)) (λr s₃=>wpAny (model X.prog X.w) X.A (letTemporaryGo value (.ref a) r>>=λ_=>pure r) (EP X RP Y Q) X.xe s₃) X.xe s:=by rw[hs];exact wpAny_operating (de h2 (λr s₃ h₃=>bQ (ju (cf h₃))) λ_ _ x=>x)
  first
   | exact cf (bQ RV)
   | exact bQ (cf (bQ RV))
   | exact bQ RV
 .cases d with
  | str k'=>obtain⟨ss,e4,q2⟩:=nU q1;exact⟨k',ss,hd.str_inv,rfl,e4,λt qt=>k _ _ _ _ (.tup qt u6) RS e1 q2⟩
  | _=>exact q1.elim
noncomputable def wW(M:Mp)(a:Addr):Option (V0 (oK×D)):=match M a with
 | some (.dk kvs)=>some kvs
 | _=>none
noncomputable def xc(kvs:V0 (oK×D))(k:oK):Option D:=(kvs.find? λp=>decide (p.1=k)).map (·.2)
def wO{K:nz}{H:Hp}{M:Mp}{a:Addr}{kvs:V0 (oK×D)}(hm:HM K H M)(h:wW M a=some kvs):∃vs,H a=some (.dK vs)/\vs.map (·.1)=kvs.map (·.1)/\nq K H (kvs.map (·.2)) (vs.map (·.2)):=by
 unfold wW at h;cases e:M a with
 | none=>rw[e]at h;cases h
 | some c=>
  rw[e]at h;have ok:=hm a c e;cases c with
  | dk es=>cases h;exact ok
  | ins _ _=>cases h
  | lst _=>cases h
  | exc _=>cases h
  | fd _ _=>cases h
theorem BS{K:nz}{H:Hp}{k:oK}:∀{kvs:V0 (oK×D)} {vs:V0 (oK×V)},vs.map (·.1)=kvs.map (·.1)->nq K H (kvs.map (·.2)) (vs.map (·.2))->(∀d,xc kvs k=some d->∃v,uk vs k=some v/\o9 K H d v)/\(xc kvs k=none->uk vs k=none)
 | [],[],_,_=>⟨λd z=>(by cases z),λ_=>rfl⟩
 | [],_::_,e,_=>by cases e
 | _::_,[],e,_=>by cases e
 | (j,d)::kvs,(j',v)::vs,e,h=>by
  have e1:j'=j:=by simpa using(dw e).1
  subst e1;obtain⟨x,r,e2,h1,h2⟩:=h.inv;obtain⟨e3,e4⟩:=dw e2;subst e3 e4;have ih:=BS (k:=k) (kvs:=kvs) (vs:=vs) (dw e).2 h2;by_cases hk:j'=k
  .have g:xc ((j',d)::kvs) k=some d:=by simp[xc,hk]
   have g':uk ((j',v)::vs) k=some v:=by simp[uk,hk]
   rw[g,g'];exact⟨λd' z=>by cases z;exact⟨v,rfl,h1⟩,λz=>by cases z⟩
  .have g:xc ((j',d)::kvs) k=xc kvs k:=by simp[xc,hk]
   have g':uk ((j',v)::vs) k=uk vs k:=by simp[uk,hk]
   rw[g,g'];exact ih
def IY(x y:D)(M:Mp)(Q:DK):Prop:=match x,y with
 | .ref a,.str k=>(wW M a).elim False λkvs=>(xc kvs (.inr k)).elim False λd=>Q d M
 | _,_=>False
def Pu(td tk:T3):T3:=λU M Q=>td U M λx M1=>tk U M1 λy M2=>IY x y M2 Q
def yo(hu:X.A.units+9<cLine)(ho:E3 X o td)(hi:E3 X i tk)(hs:yj i:=by exact λ_ _=>rfl):E3 X (.Subscript o i pos) (Pu td tk):=by
 refine PE.mono (Jd (r:=R3 X.K IY) (λvalue slice RP s Y H vx vy v u Q' I rx ry h hs=>?_) ho hi hs) CK;obtain⟨x,y,M,Q,hx,hy,hm,q,k⟩:=h;unfold IY at q;split at q
 .rename_i a0 k0;obtain⟨kvs,e1,q⟩:=nU q;obtain⟨d,e2,q⟩:=nU q;cases hx.kX;cases hy.str_inv;obtain⟨vs,h1,h2,h3⟩:=wO hm e1;obtain⟨w,e3,hw⟩:=(BS h2 h3).1 d e2;refine Li (by lia) value slice RP s Y H _ _ v u Q' I rx ry ⟨_,w,rfl,?_,k _ _ _ _ hw hm .refl q⟩ hs;have g:=BA.k (k:=Sum.inr k0) h1;rw[e3]at g;exact g
 .exact q.elim
noncomputable def tQ:V0 D->Option (V0 (oK×D))
 | []=>some []
 | .tup [.str k,d]::r=>(tQ r).map ((.inr k,d)::·)
 | _::_=>none
theorem Aj{K:nz}{H:Hp}:∀{es:V0 D} {kvs:V0 (oK×D)} {xs:V0 V},tQ es=some kvs->nq K H es xs->∃(ts:QXQ) (vs:V0 (oK×V)),xs=ts.map V.ref/\ts.length=vs.length/\vs.map (·.1)=kvs.map (·.1)/\nq K H (kvs.map (·.2)) (vs.map (·.2))/\
  ∀(j:Nat) (t:Addr) (p:oK×V),ts[j]?=some t->vs[j]?=some p->rc K H t [kV p.1,p.2]
 | [],_,_,e,h=>by cases e;exact⟨[],[],h.nil_inv,rfl,rfl,.nil,λj t p z=>by simp at z⟩
 | d::es,kvs,xs,e,h=>by
  obtain⟨x,r,rfl,h1,h2⟩:=h.inv;unfold tQ at e;split at e
  .rename_i z;cases z
  .rename_i k d' r' z;cases z;cases q:tQ es with
   | none=>rw[q]at e;cases e
   | some kvs'=>
    rw[q]at e;cases e;obtain⟨ts,vs,e1,e2,e3,e4,e5⟩:=Aj q h2;obtain⟨a,ys,rfl,g1,g2⟩:=h1.k8;obtain⟨y,r1,rfl,g3,g4⟩:=g2.inv;obtain⟨w,r2,rfl,g5,g6⟩:=g4.inv;cases g6.nil_inv;cases g3.str_inv;refine⟨a::ts,(.inr k,w)::vs,by rw[e1];rfl,by simpa using e2,by rw[cY,cY,e3],.cons g5 e4,λj t p z1 z2=>?_⟩;cases j with
    | zero=>
     have z1':a=t:=by simpa using z1
     have z2':(Sum.inr k,w)=p:=by simpa using z2
     subst z1' z2';exact g1
    | succ j=>exact e5 j t p (by simpa using z1) (by simpa using z2)
  .cases e
def LI(ds:V0 D)(M:Mp)(Q:DK):Prop:=match ds with
 | [.ref a]=>(lO M a).elim False λes=>(tQ es).elim False λkvs=>(kvs.map (·.1)).Nodup/\∀p,M p=none->Q (.ref p) (mS M p (.dk kvs))
 | _=>False
def Fl(hc:X.calm=true):C3 X (.type "dict") LI:=by
 intro RP s Y H vs us Q' I rv h;obtain⟨ds,M,Q,hd,hm,q,k⟩:=h;unfold LI at q;split at q
 .obtain⟨es,e1,q⟩:=nU q;obtain⟨kvs,e2,hnd,q⟩:=nU q;obtain⟨v,rfl,hv⟩:=oy hd;cases hv.kX;obtain⟨xs,h1,h2,_⟩:=mU hm e1;obtain⟨ts,ws,rfl,f2,f3,f4,f5⟩:=Aj e2 h2;refine D6 hc RP s Y H _ us Q' I rv ⟨_,ts,ws,rfl,h1,f2,f5,by rw[f3];exact hnd,λd hd=>?_⟩;have e:nX X.K H (upd H d (.dK ws)):=.new hd;exact k _ _ _ _ .ref (hm.new (c:=.dk kvs) hd ⟨_,m9,f3,f4.mono e⟩) e (q d (hm.fresh hd))
 .exact q.elim
def IB:bootBuiltins "set"=some (.type "set"):=by decide+kernel
noncomputable def y7:V0 D->Option (QQQ)
 | []=>some []
 | .str x::r=>(y7 r).map (x::·)
 | _::_=>none
theorem ut:∀ss:QQQ,y7 (ss.map D.str)=some ss
 | []=>rfl
 | x::r=>by show(y7 (r.map D.str)).map (x::·)=_;rw[ut r];rfl
theorem zv{K:nz}{H:Hp}:∀{ds:V0 D} {ss:QQQ} {xs:V0 V},y7 ds=some ss->nq K H ds xs->xs=ss.map V.str
 | [],_,_,e,h=>by cases e;exact h.nil_inv
 | d::ds,_,_,e,h=>by
  obtain⟨x,r,rfl,h1,h2⟩:=h.inv;cases d with
  | str z=>
   unfold y7 at e;cases q:y7 ds with
   | none=>rw[q]at e;cases e
   | some ss=>rw[q]at e;cases e;rw[h1.str_inv,zv q h2];rfl
  | _=>cases e
def OA(ta:T3):T3:=λU M Q=>ta U M λx M1=>(HQ M1 x).elim False λes=>(y7 es).elim False λss=>ss.length<4000/\Q (.int (qe ss).length) M1
def AG{p2 TY:Pos}(hc:X.calm=true)(he:E3 X e ta)(hg1:Gl X "len")(RS:X.mg "len"=none)(hg2:Gl X "set")(R7:X.mg "set"=none)(b1:bootBuiltins "len"=some (.builtin "len"))(b2:bootBuiltins "set"=some (.type "set")) (hs:starEach [e] X.env=[(false,eval e X.env)]:=by rfl):E3 X (.Call (.Name "len" p) [.Call (.Name "set" p2) [e] [] TY] [] pos) (OA ta):=
 PE.mono (FI hc he hg1 RS hg2 R7 b1 b2 hs) λY H Q' zz=>x7 zz λU M Q hs hm ht k=>⟨U,M,_,hs,hm,ht,λv H1 d M1 hd RS e1 q1=>by
  obtain⟨es,e2,q1⟩:=nU q1;obtain⟨ss,e3,hz,q1⟩:=nU q1;obtain⟨a,xs,rfl,h1,h2⟩:=AY RS hd e2;rw[zv e3 h2]at h1;have z:scanBound=4096:=rfl;exact⟨a,ss,rfl,h1,by lia,k _ _ _ _ .int RS e1 q1⟩⟩
def Nm(x:D)(ds:V0 D)(M:Mp)(Q:DK):Prop:=match x,ds with
 | .ref a,[y]=>(lO M a).elim False λes=>es.length<sizeLine/\Q .k9 (mS M a (.lst (es++[y])))
 | _,_=>False
def oP{M:Mp}{a:Addr}{es:V0 D}(h:lO M a=some es):M a=some (.lst es):=by
 unfold lO at h;split at h
 .rename_i e;rw[e];cases h;rfl
 .cases h
def ue{K:nz}{H:Hp}{M:Mp}{a:Addr}{es:V0 D}(hm:HM K H M)(h:lO M a=some es):∃xs,H a=some (.lst xs)/\nq K H es xs:=hm a _ (oP h)
def Gu:M3 X "list.append" Nm:=by
 intro RP s Y H vx vs v us Q' I rx rv h;obtain⟨x,ds,M,Q,hx,hd,hm,q,k⟩:=h;unfold Nm at q;split at q
 .obtain⟨es,e1,hz,q⟩:=nU q;obtain⟨w,rfl,hw⟩:=oy hd;cases hx.kX;obtain⟨xs,h1,h2⟩:=ue hm e1;refine FS RP s Y H _ _ v us Q' I rx rv ⟨_,xs,w,rfl,rfl,h1,by rw[<-h2.length];exact hz,?_⟩;obtain⟨R7,ex⟩:=hm.put (c:=.lst (es++[_])) (oP e1) λex=>⟨_,m9,(h2.mono ex).snoc (hw.mono ex)⟩;exact k _ _ _ _ .k9 R7 ex q
 .exact q.elim
def NO(x:D)(ds:V0 D)(M:Mp)(Q:DK):Prop:=match x,ds with
 | .ref a,[.ref b]=>(lO M a).elim False λes=>(lO M b).elim False λfs=>es.length+fs.length<=sizeLine/\Q .k9 (mS M a (.lst (es++fs)))
 | _,_=>False
def F1:M3 X "list.extend" NO:=by
 intro RP s Y H vx vs v us Q' I rx rv h;obtain⟨x,ds,M,Q,hx,hd,hm,q,k⟩:=h;unfold NO at q;split at q
 .obtain⟨es,e1,q⟩:=nU q;obtain⟨fs,e2,hz,q⟩:=nU q;obtain⟨w,rfl,hw⟩:=oy hd;cases hx.kX;cases hw.kX;obtain⟨xs,h1,h2⟩:=ue hm e1;obtain⟨ys,g1,g2⟩:=ue hm e2;refine FO RP s Y H _ _ v us Q' I rx rv ⟨_,_,xs,ys,rfl,rfl,h1,g1,by rw[<-h2.length,<-g2.length];exact hz,?_⟩;obtain⟨R7,ex⟩:=hm.put (c:=.lst (es++fs)) (oP e1) λex=>⟨_,m9,(h2.mono ex).append (g2.mono ex)⟩;exact k _ _ _ _ .k9 R7 ex q
 .exact q.elim
def oA(ho:E3 X o ta)(ha:A3 X (e::es) t)(RY:attributeBase o "append" X.env (eval o X.env)=eval o X.env:=by rfl)
  (R6:((backTo pos (starEach (e::es) X.env)).all (λx=>!x.1)&&(backToKw pos (keywordEach [] X.env)).all (λx=>x.1.isSome)&&decide ((e::es).length+([]:V0 Keyword).length+(if ([]:V0 Keyword).isEmpty then 0 else 1)<30))=true:=by rfl)
  (RZ:(RT.endLine==pos.line)=true:=by rfl) (hs:wj X e es:=by rfl) (R0:wX X pos es:=by rfl):
  E3 X (.Call (.Attribute o "append" RT) (e::es) [] pos) (Ph Nm ta t):=EJ PySem.F.slot_list_append PySem.F.type_list_append Gu ho ha RY R6 RZ hs R0
def wC(ho:E3 X o ta)(ha:A3 X (e::es) t)(RY:attributeBase o "extend" X.env (eval o X.env)=eval o X.env:=by rfl)
  (R6:((backTo pos (starEach (e::es) X.env)).all (λx=>!x.1)&&(backToKw pos (keywordEach [] X.env)).all (λx=>x.1.isSome)&&decide ((e::es).length+([]:V0 Keyword).length+(if ([]:V0 Keyword).isEmpty then 0 else 1)<30))=true:=by rfl)
  (RZ:(RT.endLine==pos.line)=true:=by rfl) (hs:wj X e es:=by rfl) (R0:wX X pos es:=by rfl):
  E3 X (.Call (.Attribute o "extend" RT) (e::es) [] pos) (Ph NO ta t):=EJ iM iN F1 ho ha RY R6 RZ hs R0
def nJ.none{M M2:Mp}{q:Addr}(s:nJ M M2)(h:M2 q=none):M q=none:=by
 cases e:M q with
 | none=>rfl
 | some c=>rw[s q c e]at h;cases h
def nJ.dk{M M':Mp}{a:Addr}{ds:V0 (oK×D)}(s:nJ M M')(h:wW M a=some ds):wW M' a=some ds:=by
 unfold wW at h ⊢;cases e:M a with
 | none=>rw[e]at h;cases h
 | some c=>rw[s a c e];rw[e]at h;exact h
def zE{M:Mp}{p:Addr}{ds:V0 (oK×D)}:wW (mS M p (.dk ds)) p=some ds:=by unfold wW;rw[m7]
def uq(p:Addr)(M M':Mp):Prop:=∀b c,b≠p->M b=some c->M' b=some c
def nJ.keep{M M':Mp}{p:Addr}(s:nJ M M'):uq p M M':=λb c _ h=>s b c h
def uq.trans{M M1 M2:Mp}{p:Addr}(a:uq p M M1)(b:uq p M1 M2):uq p M M2:=λx c n h=>b x c n (a x c n h)
def uq.put{M:Mp}{p:Addr}{c:s9}:uq p M (mS M p c):=λb d n h=>by rw[pL n];exact h
def uq.lst{M M':Mp}{p a:Addr}{ds:V0 D}(k:uq p M M')(n:a≠p)(h:lO M a=some ds):lO M' a=some ds:=by have:=k a _ n (oP h);unfold lO;rw[this]
def uq.dk{M M':Mp}{p a:Addr}{ds:V0 (oK×D)}(k:uq p M M')(n:a≠p)(h:wW M a=some ds):wW M' a=some ds:=by
 unfold wW at h ⊢;cases e:M a with
 | none=>rw[e]at h;cases h
 | some c=>rw[k a c n e];rw[e]at h;exact h
def oN{M:Mp}{a p C:Addr}{ds:V0 D}{fs:V0 (Str×D)}(h:lO M a=some ds)(hp:M p=some (.ins C fs)):a≠p:=λz=>by subst z;rw[oP h]at hp;cases hp
def OH{M:Mp}{a p C:Addr}{ds:V0 (oK×D)}{fs:V0 (Str×D)}(h:wW M a=some ds)(hp:M p=some (.ins C fs)):a≠p:=λz=>by subst z;unfold wW at h;rw[hp]at h;cases h
def uJ{M:Mp}{p:Addr}{ds:V0 D}(h:M p=some (.lst ds)):lO M p=some ds:=by unfold lO;rw[h]
def Ew{M:Mp}{p:Addr}{ds:V0 (oK×D)}(h:M p=some (.dk ds)):wW M p=some ds:=by unfold wW;rw[h]
def uZ{N:Mp}{p q C:Addr}{fs fs':V0 (Str×D)}{c:s9}(hp:N p=some (.ins C fs))(hq:N q=none):
  q≠p/\mS N q c p=some (.ins C fs)/\uq p N (mS (mS N q c) p (.ins C fs'))/\mS (mS N q c) p (.ins C fs') q=some c/\mS (mS N q c) p (.ins C fs') p=some (.ins C fs'):=by
 have n:p≠q:=HB hp hq;refine⟨cH n,by rw[pL n];exact hp,(nJ.new hq).keep.trans .put,by rw[pL (cH n),m7],m7⟩
theorem va{g:zK}{te:T3}{ok:Mp->Prop}{Q:DK}(all:V0 D)(J:V0 D->V0 D->rH->Mp->Prop)(lb:∀p acc U M,J p acc U M->ok M):∀(ds pre acc:V0 D) (U:rH) (M:Mp),pre++ds=all->acc.length+ds.length<=sizeLine->J pre acc U M->
  (∀pre d post,pre++d::post=all->∀acc U M,J pre acc U M->∀k:rH->DK,(∀δ2 y M4,J (pre++[d]) (acc++[y]) δ2 M4->k δ2 y M4)->g d U M λδ2 M2=>te δ2 M2 (k δ2))->
  (∀acc U M,J all acc U M->∀p,M p=none->Q (.ref p) (mS M p (.lst acc)))->tI g As te ok Q ds acc U M
 | [],pre,acc,U,M,e,hl,j,_,hq=>⟨by simpa using hl,hq acc U M (by rw[<-e,cJ];exact j)⟩
 | d::r,pre,acc,U,M,e,hl,j,ht,hq=>by rw[b8]at hl;refine⟨by lia,?_⟩;refine ht pre d r e acc U M j (λδ2 y M4=>ok M4/\tI g As te ok Q r (acc++[y]) δ2 M4) λδ2 y M4 j'=>⟨lb _ _ _ _ j',va all J lb r (pre++[d]) (acc++[y]) δ2 M4 (by rw[<-e,df];rfl) ?_ j' ht hq⟩;rw[bS,cC];lia
def DP(tc:xJ)(tb:rO):rO:=λE U M=>∃W:Nat->rH->Mp->Prop,(∃m,W m U M)/\∀m U M,W m U M->
 tc U M λb M1=>if b=true then tb {E with nx:=λδ' M'=>∃m',m'<m/\W m' δ' M',ct:=λδ' M'=>∃m',m'<m/\W m' δ' M',bk:=E.nx} U M1 else E.nx U M1
def Ci{c:Expr}{body:V0 Stmt}{tc:xJ}{tb:rO}(hp:PassesOwn (model X.prog X.w) X.A X.env X.xe)(hc:B3 X c tc)(hb:zP X body tb):S3 X (.While c body [] pos) (DP tc tb):=
 PS.mono (IC hp hc hb) λD' Y H ⟨U,M,E,hs,hm,⟨W,⟨m0,w0⟩,SU⟩,k1,k2,k3,k4⟩=>by
 refine⟨λm σ' H'=>∃δ' M',vO X.K H' σ' δ'/\HM X.K H' M'/\nX X.K H H'/\σ'.length=Y.length/\W m δ' M',⟨m0,U,M,hs,hm,.refl,rfl,w0⟩,?_⟩
 rintro m σ1 H1 ⟨δ1,M1,TZ,RS,e1,l1,w1⟩
 refine⟨δ1,M1,_,TZ,RS,SU m δ1 M1 w1,λb H2 M2 R7 e2 q2=>?_⟩;cases b with
 | false=>rw[bV cg]at q2 ⊢;exact k1 σ1 H2 δ1 M2 (TZ.mono e2) R7 (e1.trans e2) l1 q2
 | true=>
  rw[b9 rfl]at q2 ⊢;refine⟨λσ' H'=>∃δ' M',vO X.K H' σ' δ'/\HM X.K H' M'/\nX X.K H H'/\σ'.length=Y.length/\∃m',m'<m/\W m' δ' M',?_,δ1,M2,_,TZ.mono e2,R7,q2,?_,?_,?_,?_⟩
  .rintro σ' H' ⟨δ',M',a1,a2,a3,a4,m',lt,w⟩
   exact⟨m',lt,δ',M',a1,a2,a3,a4,w⟩
  .exact λσ' H' δ' M' y1 y2 y3 y4 y5=>⟨δ',M',y1,y2,e1.trans (e2.trans y3),by rw[y4,l1],y5⟩
  .exact λv H' d M' y1 y2 y3 y4=>k2 v H' d M' y1 y2 (e1.trans (e2.trans y3)) y4
  .exact λσ' H' δ' M' y1 y2 y3 y4 y5=>k1 σ' H' δ' M' y1 y2 (e1.trans (e2.trans y3)) (by rw[y4,l1]) y5
  .exact λσ' H' δ' M' y1 y2 y3 y4 y5=>⟨δ',M',y1,y2,e1.trans (e2.trans y3),by rw[y4,l1],y5⟩
section
variable {a:Expr}
def QE(ta:T3):T3:=λU M Q=>ta U M λx M1=>match x with|.int i=>Q (.int (-i)) M1|_=>False
def Mw(ha:E3 X a ta):E3 X (.UnaryOp .USub a pos) (QE ta):=PE.mono (Pm Nr ha) λY H Q' zz=>x7 zz λU M Q hs hm ht k=>
 ⟨U,M,_,hs,hm,ht,λv H1 d M1 hd RS e1 q1=>by
  cases d with
  | int i=>cases hd.int_inv;exact⟨i,rfl,k _ H1 _ M1 .int RS e1 q1⟩
  | _=>exact q1.elim⟩
end
end L3
namespace L2
open PySem.W
variable {prog:Pg}{w:Wo}{A:Ar}{E:QQX}{s:Sd}
end L2
namespace L3
open L2
variable {X:Cx}{pos:Pos}{a b o i:Expr}{ta tb ti to:T3}
def Pn(to ti:T3):zK:=λd U M Q=>to U M λx M1=>ti U M1 λy M2=>match x,y with
 | .ref p,.int k=>(lO M2 p).elim False λes=>(Eo es.length k).elim False λj=>Q U (mS M2 p (.lst (es.set j d)))
 | _,_=>False
theorem nq.set{K:nz}{H:Hp}{d:D}{v:V}(hv:o9 K H d v):∀{ds:V0 D} {xs:V0 V} (j:Nat),nq K H ds xs->nq K H (ds.set j d) (xs.set j v)
 | [],_,j,h=>by rw[h.nil_inv];simp only[List.set_nil];exact .nil
 | e::ds,_,0,h=>by obtain⟨x,r,rfl,h1,h2⟩:=h.inv;exact .cons hv h2
 | e::ds,_,j+1,h=>by obtain⟨x,r,rfl,h1,h2⟩:=h.inv;exact .cons h1 (nq.set hv j h2)
def Od(ho:E3 X o to)(hi:E3 X i ti) (ha:∀v,assign (.Subscript o i pos) X.env v=(do
   let ov<-holding [v] (eval o X.env);let iv<-holding [v,ov] (eval i X.env)
   standAt pos
   holding [v,ov,iv] (setItem ov iv v)
   release [v,ov,iv] []):=by intro _;rfl):G3 X (.Subscript o i pos) (Pn to ti):=
 PG.mono (Ma ho hi HS ha) λv Y H Q' ⟨d,U,M,Q,hd,hs,hm,ht,k⟩=>
 ⟨U,M,_,hs,hm,ht,λvx H1 x M1 hx RS e1 q1=>⟨U,M1,_,hs.mono e1,RS,q1,λvy H2 y M2 hy R7 e2 q2=>by
  cases x with
  | ref p=>
   cases y with
   | int j0=>obtain⟨es,f1,q2⟩:=nU q2;obtain⟨j,f2,q2⟩:=nU q2;cases(hx.mono e2).kX;cases hy.int_inv;obtain⟨xs,h1,h2⟩:=ue R7 f1;refine⟨p,xs,j0,j,rfl,rfl,h1,by rw[<-h2.length];exact f2,?_⟩;have hd2:=hd.mono (e1.trans e2);obtain⟨Sz,e3⟩:=R7.put (o:=.lst (xs.set j v)) (c:=.lst (es.set j d)) (oP f1) λex=>⟨_,m9,(h2.mono ex).set (hd2.mono ex) j⟩;exact k Y _ U _ (hs.mono (e1.trans (e2.trans e3))) Sz (e1.trans (e2.trans e3)) rfl q2
   | _=>exact q2.elim
  | _=>exact q2.elim⟩⟩
def OE(ds:V0 D)(M:Mp)(Q:DK):Prop:=match ds with
 | [.int i]=>Q (.int i) M
 | [.bl k]=>Q (.int (if k then 1 else 0)) M
 | _=>False
def NS:C3 X (.type "int") OE:=by
 intro RP s Y H vs us Q' I rv h;obtain⟨ds,M,Q,hd,hm,q,k⟩:=h;unfold OE at q;split at q
 .obtain⟨v,rfl,hv⟩:=oy hd;cases hv.int_inv;exact AD RP s Y H _ us Q' I rv (.inl ⟨_,rfl,k _ _ _ _ .int hm .refl q⟩)
 .obtain⟨v,rfl,hv⟩:=oy hd;cases hv.k7;exact AD RP s Y H _ us Q' I rv (.inr ⟨_,rfl,k _ _ _ _ .int hm .refl q⟩)
 .exact q.elim
end L3
namespace L2
variable {prog:Pg}{w:Wo}{A:Ar}{E:QQX}{s:Sd}
def D9{l b:Addr}{RQ SW:Array Vl}{n n2:Nat}{ol ob:Obj}{Q:QQX}(hl:s.heap.get? l=some ol)(cl:ol.cls=.type "list")(dl:ol.data=.seq RQ n)(hb:s.heap.get? b=some ob)(cb:ob.cls=.type "tuple")(db:ob.data=.seq SW n2)(hz:RQ.size+SW.size<=sizeLine) (h:Q .none {s with heap:=s.heap.update l (Obj.mapSeq (·++SW))}):wpAny (model prog w) A (call (.builtin "list.extend") [.ref l,.ref b]) Q E s:=by
 refine eh jT ⟨ol,hl,cl⟩ jF ?_ (jp _ _);show wpAny _ _ (Builtin.List.listExtendWith (.ref l) (.ref b) .none) _ _ s;unfold Builtin.List.listExtendWith;refine bQ (iH (T:="tuple") ⟨ob,hb,cb⟩ ?_);have ht:(Value.type "tuple"==Value.type "tuple")=true:=by rfl
 rw[b9 (by rw[ht];simp)];refine bQ (listItems_at hb db ?_);refine bQ (listItems_at hl dl ?_);have S4:¬(!(RQ.isEmpty)&&Builtin.List.listTooLong (RQ.size+SW.size))=true:=by rw[zw hz,cZ];exact cg
 rw[bV S4];refine bQ (listUpdate_at hl dl ?_ (by lia) (by rw[j9];lia));exact cf ⟨_,rfl,h⟩
variable {X:Cx}
def DH:Q9 X "list.extend" (λx vs H Q=>∃l b xs zs,x=.ref l/\vs=[.ref b]/\H l=some (.lst xs)/\rc X.K H b zs/\xs.length+zs.length<=sizeLine/\Q .k9 (upd H l (.lst (xs++zs)))):=by intro RP s Y H x vs v us Q I rx rv h;obtain⟨l,b,xs,zs,rfl,rfl,hH,hB,hz,q⟩:=h;cases rx;obtain⟨u,rfl,ru⟩:=rv.one;cases ru;obtain⟨z,its,n,r,hl,e⟩:=I.lO hH;obtain⟨Tc,r2,⟨o,e2,c2,n2,d2⟩,hl2⟩:=I.tuple hB;have hl3:=r2.length;refine D9 e rfl rfl e2 c2 d2 (by rw[b7,b7];lia) ?_;refine⟨.k9,_,I.lY (its':=its++Tc) hH e (by simp) (r.append r2) ?_,rfl,q⟩;rw[bS];lia
theorem xG:∀{ss:QQQ} {us:V0 Vl},nI (ss.map V.str) us->∃l:V0 (Str×Tok),us=strValues l/\l.map (·.1)=ss
 | [],[],_=>⟨[],rfl,rfl⟩
 | x::r,u::us,.cons h t=>by obtain⟨tk,rfl⟩:=h;obtain⟨l,e1,e2⟩:=xG t;exact⟨(x,tk)::l,by rw[e1];rfl,by rw[cY,e2]⟩
theorem wN(sep:Str){B:Nat}:∀ss:QQQ,(∀y∈ss,y.length<=B)->(Str.join sep ss).length<=ss.length*B+ss.length*sep.length
 | [],_=>by show(0:Nat)<=_;lia
 | [x],h=>by have:=h x ck;show x.length<=1*B+1*sep.length;lia
 | x::y::r,h=>by have h1:=h x ck;have ih:=wN sep (y::r) λz hz=>h z (ci _ hz);show(x++sep++Str.join sep (y::r)).length<=_;rw[cR,cR];simp only[b8,iI]at ih ⊢;lia
def Kr:Oz X "str.join" (λx vs H Q=>∃sep p ss B,x=.str sep/\vs=[.ref p]/\sO X.K H p (ss.map V.str)/\(∀y∈ss,y.length<=B)/\ss.length*B+ss.length*sep.length<=16777216/\Q (.str (Str.join sep ss)) H):=by
 intro RP s Y H x vs v us Q I rx rv h;obtain⟨sep,p,ss,B,rfl,rfl,hq,hB,hz,q⟩:=h;obtain⟨t,rfl⟩:=rx;obtain⟨u,rfl,ru⟩:=sf rv;cases ru;obtain⟨its,r,pl,_⟩:=I.list hq;obtain⟨l,rfl,e2⟩:=xG r;refine fC F.slot_str_join (gc s sep t) F.entry_str_join (F.args_str_join_2 _ _) (meets_str_join_list sep t p l (by rw[e2];exact StrLaws.joinFits hB hz)) ⟨pl.isList,?_⟩;have R4:=wN sep ss hB;have hsz:=cP;have RV:∀x,x=Str.join sep ss->x.length<=sizeLine/\EP X RP Y Q (.str x s.toks) {s with toks:=s.toks+1}:=λx ex=>by subst ex;exact⟨by lia,.str _,H,I.tok _,⟨_,rfl⟩,q⟩
 match l,e2 with
 | [],e2=>exact RV _ (by rw[<-e2];rfl)
 | [c],e2=>
  refine⟨.str c.1,H,I,⟨_,rfl⟩,?_⟩;have:Str.join sep ss=c.1:=by rw[<-e2];rfl
  rw[<-this];exact q
 | c::d::r',e2=>exact RV _ (by rw[<-e2];exact StrLaws.glued_eq_join _ _)
end L2
namespace L3
open L2
variable {X:Cx}{pos RT p:Pos}{a b o e i value:Expr}{es:V0 Expr}{ta tb ti to tv td tk:T3}{t:rM}
def Pb(ds:V0 D)(M:Mp)(Q:DK):Prop:=match ds with
 | [.int i]=>i.natAbs.log2<1920/\Q (.str (toString i)) M
 | [.str x]=>Q (.str x) M
 | _=>False
def yX:C3 X (.type "str") Pb:=by
 intro RP s Y H vs us Q' I rv h;obtain⟨ds,M,Q,hd,hm,q,k⟩:=h;unfold Pb at q;split at q
 .obtain⟨v,rfl,hv⟩:=oy hd;cases hv.int_inv;exact AV RP s Y H _ us Q' I rv ⟨_,rfl,q.1,k _ _ _ _ .str hm .refl q.2⟩
 .obtain⟨v,rfl,hv⟩:=oy hd;cases hv.str_inv;obtain⟨u,rfl,r1⟩:=sf rv;obtain⟨tk,rfl⟩:=r1;exact PySem.P.str_of_str ⟨.str _,H,I,⟨_,rfl⟩,k _ _ _ _ .str hm .refl q⟩
 .exact q.elim
def vD(x:D)(ds:V0 D)(M:Mp)(Q:DK):Prop:=match x,ds with
 | .str sep,[.ref a]=>(lO M a).elim False λes=>∃ss B,es=ss.map D.str/\(∀y∈ss,y.length<=B)/\ss.length*B+ss.length*sep.length<=16777216/\Q (.str (Str.join sep ss)) M
 | _,_=>False
def PR(r:D->V0 D->Mp->DK->Prop)(to:T3)(t:rM):T3:=λU M Q=>to U M λx M1=>match x with|.str z=>t U M1 λds M2=>r (.str z) ds M2 Q|_=>False
def J2:M3 X "str.join" vD:=by
 intro RP s Y H vx vs v us Q' I rx rv h;obtain⟨x,ds,M,Q,hx,hd,hm,q,k⟩:=h;unfold vD at q;split at q
 .obtain⟨es,e1,q⟩:=nU q;obtain⟨ss,B,rfl,hB,hz,q⟩:=q;obtain⟨w,rfl,hw⟩:=oy hd;cases hx.str_inv;cases hw.kX;obtain⟨xs,h1,h2,_⟩:=mU hm e1;have ex:xs=ss.map V.str:=zv (ut ss) h2;rw[ex]at h1;exact Kr RP s Y H _ _ v us Q' I rx rv ⟨_,_,ss,B,rfl,rfl,h1,hB,hz,k _ _ _ _ .str hm .refl q⟩
 .exact q.elim
def pH(ho:E3 X o ta)(ha:A3 X (e::es) t)(RY:attributeBase o "join" X.env (eval o X.env)=eval o X.env:=by rfl)
  (R6:((backTo pos (starEach (e::es) X.env)).all (λx=>!x.1)&&(backToKw pos (keywordEach [] X.env)).all (λx=>x.1.isSome)&&decide ((e::es).length+([]:V0 Keyword).length+(if ([]:V0 Keyword).isEmpty then 0 else 1)<30))=true:=by rfl)
  (RZ:(RT.endLine==pos.line)=true:=by rfl) (hs:wj X e es:=by rfl) (R0:wX X pos es:=by rfl):
  E3 X (.Call (.Attribute o "join" RT) (e::es) [] pos) (PR vD ta t):=PE.mono (Hl e9 PySem.F.slot_str_join PySem.F.type_str_join J2 ho ha RY R6 RZ hs R0) λY H Q' zz=>x7 zz λU M Q hs hm ht k=>
 ⟨U,M,_,hs,hm,ht,λv H1 x M1 hx RS e1 q1=>by
  cases x with
  | str z=>cases hx.str_inv;exact⟨rfl,U,M1,_,hs.mono e1,RS,q1,λvs H2 ds M2 SF R7 e2 q2=>⟨.str z,ds,M2,Q,.str,SF,R7,q2,qK (e1.trans e2) k⟩⟩
  | _=>exact q1.elim⟩
def IE(x:D)(ds:V0 D)(M:Mp)(Q:DK):Prop:=match x,ds with
 | .ref a,[.tup fs]=>(lO M a).elim False λes=>es.length+fs.length<=sizeLine/\Q .k9 (mS M a (.lst (es++fs)))
 | _,_=>False
def Dy:M3 X "list.extend" IE:=by
 intro RP s Y H vx vs v us Q' I rx rv h;obtain⟨x,ds,M,Q,hx,hd,hm,q,k⟩:=h;unfold IE at q;split at q
 .obtain⟨es,e1,hz,q⟩:=nU q;obtain⟨w,rfl,hw⟩:=oy hd;cases hx.kX;obtain⟨bb,ys,rfl,g1,g2⟩:=hw.k8;obtain⟨xs,h1,h2⟩:=ue hm e1;refine DH RP s Y H _ _ v us Q' I rx rv ⟨_,_,xs,ys,rfl,rfl,h1,g1,by rw[<-h2.length,<-g2.length];exact hz,?_⟩;obtain⟨R7,ex⟩:=hm.put (c:=.lst (es++_)) (oP e1) λex=>⟨_,m9,(h2.mono ex).append (g2.mono ex)⟩;exact k _ _ _ _ .k9 R7 ex q
 .exact q.elim
def Ab(ho:E3 X o ta)(ha:A3 X (e::es) t)(RY:attributeBase o "extend" X.env (eval o X.env)=eval o X.env:=by rfl)
  (R6:((backTo pos (starEach (e::es) X.env)).all (λx=>!x.1)&&(backToKw pos (keywordEach [] X.env)).all (λx=>x.1.isSome)&&decide ((e::es).length+([]:V0 Keyword).length+(if ([]:V0 Keyword).isEmpty then 0 else 1)<30))=true:=by rfl)
  (RZ:(RT.endLine==pos.line)=true:=by rfl) (hs:wj X e es:=by rfl) (R0:wX X pos es:=by rfl):
  E3 X (.Call (.Attribute o "extend" RT) (e::es) [] pos) (Ph IE ta t):=EJ iM iN Dy ho ha RY R6 RZ hs R0
def Ny(x y:D)(M:Mp)(Q:DK):Prop:=match x,y with
 | .ref a,.int k=>(lO M a).elim False λes=>(0<=k/\k<=1000/\es.length<=1000)/\∀p,M p=none->Q (.ref p) (mS M p (.lst (List.replicate k.toNat es).flatten))
 | _,_=>False
theorem Fn{K:nz}{H:Hp}{ds:V0 D}{xs:V0 V}(h:nq K H ds xs):∀n:Nat,nq K H (List.replicate n ds).flatten (List.replicate n xs).flatten
 | 0=>.nil
 | n+1=>by rw[dm,dm,eF,eF];exact h.append (Fn h n)
def LY:ul X (binaryOp .Mult) (R3 X.K Ny):=λRP s Y H vx vy v u Q' I rx ry h=>by
 obtain⟨x,y,M,Q,hx,hy,hm,q,k⟩:=h;unfold Ny at q;split at q
 .obtain⟨es,e1,⟨q1,q2,q3⟩,q⟩:=nU q;cases hx.kX;cases hy.int_inv;obtain⟨xs,h1,h2⟩:=ue hm e1;have hz:=cP;have hl:=h2.length;refine NW RP s Y H _ _ v u Q' I rx ry ⟨_,_,xs,rfl,rfl,h1,by lia,by lia,?_,λpp hp=>?_⟩
  .exact di (gC (show xs.length<=1000 by lia) (show Int.toNat _<=1000 by lia)) (by rw[hz];decide)
  .exact k _ _ _ _ .ref (hm.new (c:=.lst _) hp ⟨_,m9,(Fn h2 _).mono (.new hp)⟩) (.new hp) (q pp (hm.fresh hp))
 .exact q.elim
def QF(ta tb:T3):T3:=λU M Q=>ta U M λx M1=>tb U M1 λy M2=>Ny x y M2 Q
def NK(ha:E3 X a ta)(hb:E3 X b tb):E3 X (.BinOp a .Mult b pos) (QF ta tb):=PE.mono (Ig LY ha hb) CK
def O9:T3:=λ_ M Q=>∀p,M p=none->Q (.ref p) (mS M p (.dk []))
def Jx:E3 X (.Dict [] [] pos) O9:=PE.mono ID λY H Q' zz=>x7 zz λU M Q hs hm ht k=>λp hp=>by have ex:nX X.K H (upd H p (.dK [])):=.new hp;exact k _ _ _ _ .ref (hm.new (c:=.dk []) hp ⟨[],m9,rfl,.nil⟩) ex (ht p (hm.fresh hp))
noncomputable def xF(kvs:V0 (oK×D))(k:oK)(v:D):V0 (oK×D):=if (kvs.any λkv=>decide (kv.1=k))=true then kvs.map (λkv=>if kv.1=k then(kv.1,v)else kv)else kvs++[(k,v)]
theorem Cn{κ α β:Type}{k:κ}[DecidableEq κ]:∀{xs:V0 (κ×α)} {ys:V0 (κ×β)},xs.map (·.1)=ys.map (·.1)->(xs.any λkv=>decide (kv.1=k))=ys.any λkv=>decide (kv.1=k)
 | [],[],_=>rfl
 | [],_::_,e=>by cases e
 | _::_,[],e=>by cases e
 | x::xs,y::ys,e=>by obtain⟨e1,e2⟩:=dw e;rw[eI,eI,Cn e2];have e1:x.1=y.1:=e1;rw[e1]
def FR{K:nz}{H:Hp}{k:oK}{d:D}{v:V}(hv:o9 K H d v){kvs:V0 (oK×D)}{vs:V0 (oK×V)}(h1:vs.map (·.1)=kvs.map (·.1))(h2:nq K H (kvs.map (·.2)) (vs.map (·.2))):
  (vY vs k v).map (·.1)=(xF kvs k d).map (·.1)/\nq K H ((xF kvs k d).map (·.2)) ((vY vs k v).map (·.2)):=by
 have go:∀{kvs:V0 (oK×D)} {vs:V0 (oK×V)},vs.map (·.1)=kvs.map (·.1)->nq K H (kvs.map (·.2)) (vs.map (·.2))->
   (vs.map (λkv=>if kv.1=k then(kv.1,v)else kv)).map (·.1)=(kvs.map (λkv=>if kv.1=k then(kv.1,d)else kv)).map (·.1)/\nq K H ((kvs.map (λkv=>if kv.1=k then(kv.1,d)else kv)).map (·.2)) ((vs.map (λkv=>if kv.1=k then(kv.1,v)else kv)).map (·.2)):=λ{kvs}=>by
  induction kvs with
  | nil=>intro vs e h;cases vs with
   | nil=>exact⟨rfl,.nil⟩
   | cons _ _=>cases e
  | cons c r ih=>intro vs e h;cases vs with
   | nil=>cases e
   | cons w ws=>
    obtain⟨e1,e2⟩:=dw e;obtain⟨x,xr,e3,g1,g2⟩:=h.inv;obtain⟨e4,e5⟩:=dw e3;subst e4 e5;obtain⟨i1,i2⟩:=ih e2 g2;have e1:w.1=c.1:=e1;by_cases hk:c.1=k
    .have w1:(if w.1=k then(w.1,v)else w)=(w.1,v):=b9 (e1.trans hk);have w2:(if c.1=k then(c.1,d)else c)=(c.1,d):=b9 hk;simp only[cY,w1,w2];exact⟨by rw[i1,e1],.cons hv i2⟩
    .have w1:(if w.1=k then(w.1,v)else w)=w:=bV λz=>hk (e1.symm.trans z);have w2:(if c.1=k then(c.1,d)else c)=c:=bV hk;simp only[cY,w1,w2];exact⟨by rw[i1,e1],.cons g1 i2⟩
 unfold vY xF;rw[Cn (k:=k) h1];by_cases hk:(kvs.any λkv=>decide (kv.1=k))=true
 .rw[b9 hk,b9 hk];exact go h1 h2
 .rw[bV hk,bV hk];exact⟨by rw[cy,cy,h1];rfl,by rw[cy,cy];exact h2.append (.cons hv .nil)⟩
def Pf(td tk tv:T3):rO:=λD U M=>tv U M λv M1=>td U M1 λx M2=>tk U M2 λy M3=>match x,y with
 | .ref a,.str k=>(wW M3 a).elim False λkvs=>kvs.length<sizeLine/\D.nx U (mS M3 a (.dk (xF kvs (.inr k) v)))
 | _,_=>False
def AZ{M:Mp}{a:Addr}{kvs:V0 (oK×D)}(h:wW M a=some kvs):M a=some (.dk kvs):=by
 unfold wW at h;split at h
 .rename_i e;rw[e];cases h;rfl
 .cases h
def Kx{R1:Pos}(hu:X.A.units+9<cLine)(ho:E3 X o td)(hi:E3 X i tk)(hv:E3 X value tv)(hs:swapsWith value (some (.Subscript o i R1)) pos.line X.env=pure false:=by rfl):S3 X (.Assign [.Subscript o i R1] value pos) (Pf td tk tv):=
 PS.mono (Ld (by lia) ho hi hv hs) λD' Y H zz=>Bg zz λU M D hs hm ht k1 k2 k3 k4=>
 ⟨U,M,_,hs,hm,ht,λv H1 d M1 hd RS e1 q1=>⟨U,M1,_,hs.mono e1,RS,q1,λvx H2 x M2 hx R7 e2 q2=>⟨U,M2,_,hs.mono (e1.trans e2),R7,q2,λvy H3 y M3 hy Sz e3 q3=>by
  split at q3
  .rename_i a0 k0;obtain⟨kvs,f1,f2,q3⟩:=nU q3;cases(hx.mono e3).kX;cases hy.str_inv;obtain⟨vs,h1,h2,h3⟩:=wO Sz f1;have hl:vs.length=kvs.length:=by have:=dJ List.length h2;simpa using this
   refine⟨_,_,rfl,GB.k (k:=Sum.inr k0) h1 (by lia),?_⟩;have hd3:=hd.mono (e2.trans e3);obtain⟨hm4,e4⟩:=Sz.put (o:=.dK (vY vs (Sum.inr k0) v)) (c:=.dk (xF kvs (.inr k0) d)) (AZ f1) λex=>by obtain⟨g1,g2⟩:=FR (k:=Sum.inr k0) (hd3.mono ex) h2 (h3.mono ex);exact⟨_,m9,g1,g2⟩
   exact k1 Y _ U _ (hs.mono (e1.trans (e2.trans (e3.trans e4)))) hm4 (e1.trans (e2.trans (e3.trans e4))) rfl q3
  .exact q3.elim⟩⟩⟩
noncomputable def Rg:D->Option oK
 | .int i=>some (.inl i)
 | .str x=>some (.inr x)
 | _=>none
noncomputable def QL(M:Mp)(a:Addr):Bool:=(wW M a).isSome
def N8(td tk tx:T3):T3:=λU M Q=>td U M λx M1=>match x with
 | .ref a=>QL M1 a=true/\tk U M1 λy M2=>tx U M2 λz M3=>(Rg y).elim False λk=>(wW M3 a).elim False λkvs=>Q ((xc kvs k).getD z) M3
 | _=>False
def Hx{f:Expr}{tx:T3}(hu:X.A.units+9<cLine)(ho:E3 X o td)(he:E3 X e tk)(hf:E3 X f tx)(m:M2 X o "get" RT e f pos):E3 X (.Call (.Attribute o "get" RT) [e,f] [] pos) (N8 td tk tx):=
 PE.mono (HZ (by lia) ho he hf m) λY H Q' zz=>x7 zz λU M Q hs hm ht k=>⟨U,M,_,hs,hm,ht,λv H1 x M1 hx RS e1 q1=>by
  cases x with
  | ref a=>
   cases hx.kX;obtain⟨hk,q1⟩:=q1;obtain⟨kv0,hk⟩:=dO.mp hk;obtain⟨vs0,g1,_⟩:=wO RS hk;refine⟨a,rfl,.inl ⟨vs0,.inl g1⟩,U,M1,_,hs.mono e1,RS,q1,λvy H2 y M2 hy R7 e2 q2=>⟨U,M2,_,hs.mono (e1.trans e2),R7,q2,λvz H3 z M3 hz Sz e3 q3=>?_⟩⟩;obtain⟨kk,f1,q3⟩:=nU q3;obtain⟨kvs,f2,q3⟩:=nU q3;obtain⟨vs,h1,h2,h3⟩:=wO Sz f2;have ey:vy=kV kk:=by
    cases y with
    | int j=>cases f1;exact hy.int_inv
    | str j=>cases f1;exact hy.str_inv
    | _=>cases f1
   subst ey;refine⟨_,BA.k (k:=kk) h1,?_⟩;obtain⟨p1,p2⟩:=BS (k:=kk) h2 h3;cases ez:xc kvs kk with
   | none=>rw[p2 ez];rw[ez]at q3;exact k _ _ _ _ hz Sz (e1.trans (e2.trans e3)) q3
   | some d=>obtain⟨w,e5,hw⟩:=p1 d ez;rw[e5];rw[ez]at q3;exact k _ _ _ _ hw Sz (e1.trans (e2.trans e3)) q3
  | _=>exact q1.elim⟩
variable {RP:V0 (Addr × Obj)}{Y:St}{H:Hp}{s:Sd}
def w9{a b:Addr}{xs:V0 V}(I:Inv X RP Y H s)(f:wm X RP H b)(q:sO X.K H a xs):a≠b:=by
 rintro rfl
 rcases q with q|⟨o,its,n,hk,_⟩
 .have z:=f.1;rcases q with q|⟨u,q⟩<;>(rw[q]at z;cases z)
 .have e:=I.mod.mi a o hk;rcases f.2.2.2.1 with z|z
  .exact I.ok.lM a o e z
  .exact absurd (cF (cp e) (di I.ok.lV z)) (dv _)
noncomputable def Mh(K:nz)(a b:Addr):It:=
 ⟨λi H=>∃xs ys x y,sO K H a xs/\sO K H b ys/\xs[i]?=some x/\ys[i]?=some y,λi H v H'=>∃p x y,v=.ref p/\H p=none/\H'=upd H p (.tup [x,y])/\(∀xs,sO K H a xs->xs[i]?=some x)/\(∀ys,sO K H b ys->ys[i]?=some y),λi H=>∃xs ys,sO K H a xs/\sO K H b ys/\i=min xs.length ys.length⟩
def Gq{P:Pg}{w:Wo}{K:nz}{Sb:V0 Expr}{n:Nat}{tp:Pos}(a b z TI TO i1 i2:Addr)(a1:TI≠z)(a2:TO≠z)(a3:i1≠z)(a4:i2≠z)(a5:TI≠TO)(a6:TI≠i1)(a7:TI≠i2)(a8:TO≠i1)(a9:TO≠i2)(mD:i1≠i2):
  Ai P w K (.Tuple Sb n tp) (Mh K a b) [z,TI,TO,i1,i2] z (λi h=>IsZip h z TI TO .none/\IsPair h TI (.ref i1) (.ref i2)/\(∃u v,IsPair h TO u v)/\h.IsListIter i1 a i/\h.IsListIter i2 b i) where
 mem:=by simp
 obj:=λi h st c hc=>by
  obtain⟨h1,h2,⟨u,v,h3⟩,⟨o4,h4,_,d4⟩,⟨o5,h5,_,d5⟩⟩:=st;simp only[bT,bY,cM]at hc;rcases hc with rfl|rfl|rfl|rfl|rfl
  .exact⟨_,h1,λv z=>by cases z⟩
  .exact⟨_,h2,λv z=>by cases z⟩
  .exact⟨_,h3,λv z=>by cases z⟩
  .exact⟨_,h4,λv z=>by rw[d4]at z;cases z⟩
  .exact⟨_,h5,λv z=>by rw[d5]at z;cases z⟩
 keep:=λi h h' st k=>by obtain⟨h1,h2,⟨u,v,h3⟩,⟨o4,h4,c4⟩,⟨o5,h5,c5⟩⟩:=st;exact⟨k z (by simp) _ h1,k TI (by simp) _ h2,⟨u,v,k TO (by simp) _ h3⟩,⟨o4,k i1 (by simp) _ h4,c4⟩,⟨o5,k i2 (by simp) _ h5,c5⟩⟩
 item:=by
  intro X hP hw hK hc i RP s Y H E I hf st hg;subst hP hw hK;obtain⟨xs,ys,x,y,hx,hy,ex,ey⟩:=hg;obtain⟨its,rx,px,_⟩:=I.list hx;obtain⟨Sy,ry,py,_⟩:=I.list hy;obtain⟨u,eu,ru⟩:=rx.get ex;obtain⟨v,ev,rv⟩:=ry.get ey;obtain⟨h1,h2,⟨p,q,h3⟩,h4,h5⟩:=st;have hh:X.A.in1.handled=none:=I.ok.hd hc;have fa:∀c∈[z,TI,TO,i1,i2],a≠c:=λc hc=>w9 I (hf c hc) hx;have fb:∀c∈[z,TI,TO,i1,i2],b≠c:=λc hc=>w9 I (hf c hc) hy;have R9:sU z TI TO i1 i2 [i1,a] [i2,b]:=⟨a1,a2,a3,a4,a5,a6,a7,a8,a9,mD,by
   simp only[bT,bY,cM,dj];exact⟨cH a3,cH (fa z (by simp))⟩,by
   simp only[bT,bY,cM,dj];exact⟨a8,cH (fa TO (by simp))⟩,by
   simp only[bT,bY,cM,dj];exact⟨cH mD,cH (fa i2 (by simp))⟩,by
   simp only[bT,bY,cM,dj];exact⟨cH a4,cH (fb z (by simp))⟩,by
   simp only[bT,bY,cM,dj];exact⟨a9,cH (fb TO (by simp))⟩,by
   simp only[bT,bY,cM,dj];exact⟨mD,cH (fb i1 (by simp))⟩⟩
  have l1:i<its.toArray.size:=by
   have:=(bW.mp eu).1
   simpa using this
  have l2:i<Sy.toArray.size:=by
   have:=(bW.mp ev).1
   simpa using this
  refine uV (g9 hh i1 a (fa i1 (by simp)) its.toArray) (g9 hh i2 b (fb i2 (by simp)) Sy.toArray) R9 h1 h2 h3 ⟨h4,px.isList⟩ ⟨h5,py.isList⟩ l1 l2 λx' y' g tk e1 e2 z1 o1 s1 s2 t1 sz kp=>?_;have U3:x'=u:=by
   have:its[i]?=some x':=by simpa using e1
   rw[eu]at this;exact(ce this).symm
  have S7:y'=v:=by
   have:Sy[i]?=some y':=by simpa using e2
   rw[ev]at this;exact(ce this).symm
  subst U3 S7;refine⟨_,rfl,gx z1 λg2 z2 sb=>?_⟩;have UK:z<s.heap.objs.size:=cp h1;have kk:∀c o,c∉[z,TI,TO,i1,i2]->s.heap.get? c=some o->g2.get? c=some o:=λc o hc e=>by simp only[bT,bY,cM,dj]at hc;exact(sb.2 c hc.1).trans (kp c o hc.1 hc.2.2.1 hc.2.2.2.1 hc.2.2.2.2 e)
  have t2:g2.get? s.heap.objs.size=some {cls:=.type "tuple",data:=.seq #[x',y']}:=(sb.2 _ (eU UK)).trans t1;have TB:H s.heap.objs.size=none:=I.lb.fresh (cq _);have I2:=I.drawn (ch:=[z,TI,TO,i1,i2]) (T:=s.heap.objs.size) (xs:=[x,y]) (its:=[x',y']) (h':=g2) (tk:=tk) hf kk (cq _) (by show 2<=sizeLine;decide) (.cons ru (.cons rv .nil)) ⟨_,t2,rfl,⟨_,rfl⟩,rfl⟩;refine⟨.ref s.heap.objs.size,_,I2,rfl,⟨_,x,y,rfl,TB,rfl,λxs' hx'=>by rw[I.lx hx' hx];exact ex,λys' hy'=>by rw[I.lx hy' hy];exact ey⟩,?_,λc hc=>?_⟩
  .obtain⟨o4,g4,c4⟩:=s1.1;obtain⟨o5,g5,c5⟩:=s2.1;exact⟨z2,(sb.2 _ a1).trans (kp _ _ a1 a5 a6 a7 h2),⟨_,_,(sb.2 _ a2).trans o1⟩,⟨o4,(sb.2 _ a3).trans g4,c4⟩,⟨o5,(sb.2 _ a4).trans g5,c5⟩⟩
  .have n0:=(hf c hc).1;obtain⟨o,eo⟩:∃o,s.heap.get? c=some o:=by
    obtain⟨o4,g4,_⟩:=h4;obtain⟨o5,g5,_⟩:=h5;simp only[bT,bY,cM]at hc;rcases hc with rfl|rfl|rfl|rfl|rfl
    .exact⟨_,h1⟩
    .exact⟨_,h2⟩
    .exact⟨_,h3⟩
    .exact⟨_,g4⟩
    .exact⟨_,g5⟩
   rw[ni (cI (cp eo))];exact n0
 done:=by
  intro X hP hw hK hc i RP s Y H E I hf st hg;subst hP hw hK;obtain⟨xs,ys,hx,hy,hi⟩:=hg;obtain⟨its,rx,px,_⟩:=I.list hx;obtain⟨Sy,ry,py,_⟩:=I.list hy;obtain⟨h1,h2,⟨p,q,h3⟩,h4,h5⟩:=st;have hh:X.A.in1.handled=none:=I.ok.hd hc;have fa:∀c∈[z,TI,TO,i1,i2],a≠c:=λc hc=>w9 I (hf c hc) hx;have fb:∀c∈[z,TI,TO,i1,i2],b≠c:=λc hc=>w9 I (hf c hc) hy;have R9:sU z TI TO i1 i2 [i1,a] [i2,b]:=⟨a1,a2,a3,a4,a5,a6,a7,a8,a9,mD,by
   simp only[bT,bY,cM,dj];exact⟨cH a3,cH (fa z (by simp))⟩,by
   simp only[bT,bY,cM,dj];exact⟨a8,cH (fa TO (by simp))⟩,by
   simp only[bT,bY,cM,dj];exact⟨cH mD,cH (fa i2 (by simp))⟩,by
   simp only[bT,bY,cM,dj];exact⟨cH a4,cH (fb z (by simp))⟩,by
   simp only[bT,bY,cM,dj];exact⟨a9,cH (fb TO (by simp))⟩,by
   simp only[bT,bY,cM,dj];exact⟨mD,cH (fb i1 (by simp))⟩⟩
  have e1:=rx.length;have e2:=ry.length;refine rB (g9 hh i1 a (fa i1 (by simp)) its.toArray) (g9 hh i2 b (fb i2 (by simp)) Sy.toArray) R9 h1 h2 h3 ⟨h4,px.isList⟩ ⟨h5,py.isList⟩ (by simp only[b7];lia) λg tk kp=>⟨rfl,?_⟩;have kk:∀c o,c∉[z,TI,TO,i1,i2]->s.heap.get? c=some o->g.get? c=some o:=λc o hc e=>by simp only[bT,bY,cM,dj]at hc;exact kp c o hc.1 hc.2.2.1 hc.2.2.2.1 hc.2.2.2.2 e
  refine I.step (g':=s.gens) (d':=s.drawn) (t':=tk) (ch:=[z,TI,TO,i1,i2]) (λc hc=>⟨(hf c hc).2.2.2.1,(hf c hc).2.1,(hf c hc).2.2.2.2.1,(hf c hc).2.2.2.2.2⟩) ?_ ?_ (λc o _ e n=>n) ?_ (λ_ _ e=>e) (λ_ _ _ e=>e) (λc ps e=>⟨#[],by rw[e];simp⟩) ?_ ?_ I.bare
  .exact λc o _ _ hc e _=>kk c o hc e
  .exact λc o _ _ hc e _=>⟨o.slots,kk c o hc e⟩
  .exact λc o hc e=>⟨o,kk c o hc e⟩
  .intro m hm;obtain⟨o,es,ep,ho,r⟩:=hm;exact⟨o,es,ep,kk _ o (λy=>(hf _ y).2.1 rfl) ho,r⟩
  .intro c u e;refine(I.lb c u e).ly (λd v hd q=>kk d v (λy=>?_) q) (λ_ q=>q) λ_ _ q=>q;have n:=(hf d y).1;rcases hd with x|x
   .rw[x,e]at n;cases n
   .rw[x]at n;cases n
 self:=λ_ _ _ _ _ st h=>fG st.1 h
variable {tp:Pos}{Sb:V0 Expr}{n:Nat}
def J1{a b:Expr}{ta:TA}(hg:Gl X "zip")(hm:X.mg "zip"=none)(ha:PA X [a,b] ta)(hs:starEach [a,b] X.env=[(false,eval a X.env),(false,eval b X.env)]:=by rfl)(SE:starEach [b] X.env=[(false,eval b X.env)]:=by rfl):
  PI X (.Tuple Sb n tp) (.Call (.Name "zip" p) [a,b] [] pos) (λY H R=>ta Y H λvs H1=>∃l m,vs=[.ref l,.ref m]/\(∃xs,sO X.K H1 l xs)/\(∃xs,sO X.K H1 m xs)/\R (Mh X.K l m) H1):=by
 intro RP s Y H R I h;refine Call_ (tq I hg hm Ek (dF (pC (ha pos RP s Y H _ I h) λus s1 zz=>x5 zz λvs H1 I1 r1 q1=>?_) (by rw[hs,SE]) (by rw[SE];rfl)));obtain⟨l,m,e,⟨xs,hx⟩,⟨ys,hy⟩,q⟩:=q1;subst e;obtain⟨u,v,rfl,ru,rv⟩:=yM r1;cases ru;cases rv;obtain⟨its,_,px,_⟩:=I1.list hx;obtain⟨Sy,_,py,_⟩:=I1.list hy;refine call_zip_2 px.isList py.isList λg h1 h2 h3 h4 h5 _ hk=>fG h1 ?_;have I2:Inv X RP Y H1 {s1 with heap:=g}:=I1.kept (t':=s1.toks) hk;refine⟨s1.heap.objs.size+4,[s1.heap.objs.size+4,s1.heap.objs.size+2,s1.heap.objs.size+3,s1.heap.objs.size,s1.heap.objs.size+1],_,_,H1,rfl,I2,Gq l m _ _ _ _ _ ?_ ?_ ?_ ?_ ?_ ?_ ?_ ?_ ?_ ?_,⟨h1,h2,⟨_,_,h3⟩,h4,h5⟩,λb hb=>?_,q⟩
 .exact λz=>by have z:s1.heap.objs.size+2=s1.heap.objs.size+4:=z;lia
 .exact λz=>by have z:s1.heap.objs.size+3=s1.heap.objs.size+4:=z;lia
 .exact λz=>by have z:s1.heap.objs.size=s1.heap.objs.size+4:=z;lia
 .exact λz=>by have z:s1.heap.objs.size+1=s1.heap.objs.size+4:=z;lia
 .exact λz=>by have z:s1.heap.objs.size+2=s1.heap.objs.size+3:=z;lia
 .exact λz=>by have z:s1.heap.objs.size+2=s1.heap.objs.size:=z;lia
 .exact λz=>by have z:s1.heap.objs.size+2=s1.heap.objs.size+1:=z;lia
 .exact λz=>by have z:s1.heap.objs.size+3=s1.heap.objs.size:=z;lia
 .exact λz=>by have z:s1.heap.objs.size+3=s1.heap.objs.size+1:=z;lia
 .exact λz=>by have z:s1.heap.objs.size=s1.heap.objs.size+1:=z;lia
 .have Ss:s1.heap.objs.size<=b:=by
   simp only[bT,bY,cM]at hb;rcases hb with rfl|rfl|rfl|rfl|rfl
   .exact dD _ _
   .exact dD _ _
   .exact dD _ _
   .exact cq _
   .exact dD _ _
  exact I1.lN Ss (I1.lb.fresh Ss)
def GH{K:nz}{H1:Hp}{a b:Addr}{ds es:V0 D}:zS K H1 (Mh K a b) (sy ds es) (λM=>lO M a=some ds/\lO M b=some es) where
 go:=λi H M hi hm ok _=>by rw[sI]at hi;obtain⟨xs,h1,h2,_⟩:=mU hm ok.1;obtain⟨ys,g1,g2,_⟩:=mU hm ok.2;obtain⟨x,e1,_⟩:=h2.get (bZ (show i<ds.length by lia));obtain⟨y,e2,_⟩:=g2.get (bZ (show i<es.length by lia));exact⟨xs,ys,x,y,h1,g1,e1,e2⟩
 mv:=λi d H M x H' hd hm ok _ y=>by
  obtain⟨xs,h1,h2,_⟩:=mU hm ok.1;obtain⟨ys,g1,g2,_⟩:=mU hm ok.2;obtain⟨p,u,v,rfl,hp,rfl,y1,y2⟩:=y;rw[L3.vi]at hd;cases e:ds[i]? with
  | none=>rw[e]at hd;cases hd
  | some d'=>
   cases e':es[i]? with
   | none=>rw[e,e']at hd;cases hd
   | some c'=>rw[e,e']at hd;cases hd;obtain⟨x',q1,hx⟩:=h2.get e;obtain⟨z',q2,hz⟩:=g2.get e';have w1:=y1 xs h1;have w2:=y2 ys g1;rw[q1]at w1;rw[q2]at w2;have v1:x'=u:=ce w1;have v2:z'=v:=ce w2;subst v1 v2;have ex:nX K H (upd H p (.tup [x',z'])):=.new hp;exact⟨.tup (.of m9) (.cons (hx.mono ex) (.cons (hz.mono ex) .nil)),hm.add hp,ex⟩
 stop:=λH M hm ok _=>by obtain⟨xs,h1,h2,_⟩:=mU hm ok.1;obtain⟨ys,g1,g2,_⟩:=mU hm ok.2;exact⟨xs,ys,h1,g1,by rw[sI,h2.length,g2.length]⟩
def L5(t:rM):Gg:=λU M R=>t U M λds M1=>match ds with
 | [.ref a,.ref b]=>(lO M1 a).elim False λxs=>(lO M1 b).elim False λys=>R (sy xs ys) (λM=>lO M a=some xs/\lO M b=some ys) M1
 | _=>False
def Jp{a b:Expr}{ta:rM}(hg:Gl X "zip")(hm:X.mg "zip"=none)(ha:A3 X [a,b] ta)(hs:starEach [a,b] X.env=[(false,eval a X.env),(false,eval b X.env)]:=by rfl)(SE:starEach [b] X.env=[(false,eval b X.env)]:=by rfl):
  I3 X (.Tuple Sb n tp) (.Call (.Name "zip" p) [a,b] [] pos) (L5 ta):=
 PI.mono (J1 hg hm ha hs SE) λY H R' zz=>x7 zz λU M R hs hm ht k=>⟨U,M,_,hs,hm,ht,λvs H1 ds M1 hd RS e1 q1=>by
  split at q1
  .obtain⟨xs,f1,q1⟩:=nU q1;obtain⟨ys,f2,q1⟩:=nU q1;obtain⟨v,u,rfl,hv,hw⟩:=tT hd;cases hv.kX;cases hw.kX;obtain⟨us,h1,_⟩:=mU RS f1;obtain⟨ws,g1,_⟩:=mU RS f2;exact⟨_,_,rfl,⟨us,h1⟩,⟨ws,g1⟩,k _ H1 _ _ M1 GH RS e1 ⟨f1,f2⟩ q1⟩
  .exact q1.elim⟩
end L3
namespace L2
open Builtin Builtin.Str
variable {prog:Pg}{w:Wo}{A:Ar}{E:QQX}{s:Sd}
def DA{x y:Str}{t u:Tok}{Q:QQX}(hy:(y.length==0)=false) (hq:∀(l:V0 (Str×Tok)) (k:Nat),l.map (·.1)=Txt.split x y->Q (.ref s.heap.objs.size) {s with heap:=s.heap.push {cls:=.type "list",data:=.seq (strValues l).toArray},toks:=k})
  (hsz:x.length<=sizeLine) (hsz2:(Txt.split x y).length<=sizeLine):
  wpAny (model prog w) A (call (.builtin "str.split") [.str x t,.str y u]) Q E s:=by
 cases h1:(decide (x.length<y.length)||decide (strKind x<strKind y))
 .cases hf:(occurrences x y 0 x.length (x.length+1)).isEmpty
  .have es:Txt.split x y=partsBetween x (occurrences x y 0 x.length (x.length+1)) y.length:=(bV (fK h1)).trans (bV (fK hf));refine fC iO (gc _ _ _) iy (ii _ _) (meets_str_split_sep x y t u h1 hy hf hsz (by rw[<-es];exact hsz2)) ?_;show wants Q E _ {s with toks:=_,heap:=s.heap.push {cls:=.type "list",data:=.seq (strsFrom s.toks (partsBetween x (occurrences x y 0 x.length (x.length+1)) y.length)).toArray}};rw[strsFrom_eq];exact hq (numbered s.toks _) _ ((numbered_texts _ _).trans ((bV (fK h1)).trans (bV (fK hf))).symm)
  .exact fC iO (gc _ _ _) iy (ii _ _) (meets_str_split_not_found x y t u h1 hy hf)
    (hq [(x,t)] s.toks ((bV (fK h1)).trans (b9 hf)).symm)
 .exact fC iO (gc _ _ _) iy (ii _ _) (meets_str_split_cannot_occur x y t u h1)
   (hq [(x,t)] s.toks (b9 h1).symm)
theorem Ap:∀l:V0 (Str×Tok),nI ((l.map (·.1)).map V.str) (strValues l)
 | []=>.nil
 | (_,t)::r=>.cons ⟨t,rfl⟩ (Ap r)
variable {X:Cx}
def IJ:Oz X "str.split" (λx vs H Q=>∃z y,x=.str z/\vs=[.str y]/\(y.length==0)=false/\z.length<=sizeLine/\(Txt.split z y).length<=sizeLine/\∀p,H p=none->Q (.ref p) (upd H p (.lst ((Txt.split z y).map V.str)))):=by intro RP s Y H x vs v us Q I rx rv h;obtain⟨z,y,rfl,rfl,hy,h1,h3,q⟩:=h;obtain⟨t,rfl⟩:=rx;obtain⟨u,rfl,ru⟩:=sf rv;obtain⟨t',rfl⟩:=ru;refine DA hy (λl k el=>?_) h1 h3;have r:=Ap l;rw[el]at r;exact⟨.ref s.heap.objs.size,_,I.mh (t':=k) r (by rw[bP];exact h3),rfl,q _ I.fresh⟩
end L2
namespace L3
open L2 Builtin Builtin.Str
theorem Cg(c:Nat):∀(ps qs:QQQ),ps≠[]->qs≠[]->(∀p∈ps,c∉p.cps.toList)->(∀p∈qs,c∉p.cps.toList)->Str.join ⟨#[c]⟩ ps=Str.join ⟨#[c]⟩ qs->ps=qs
 | [],_,h,_,_,_,_=>absurd rfl h
 | _,[],_,h,_,_,_=>absurd rfl h
 | [p],[q],_,_,_,_,e=>by have e:p=q:=e;rw[e]
 | [p],q::q'::r,_,_,hp,_,e=>by
  have e:p=q++⟨#[c]⟩++Str.join ⟨#[c]⟩ (q'::r):=e;have:c∈p.cps.toList:=by rw[e];show c∈((q.cps++#[c])++(Str.join ⟨#[c]⟩ (q'::r)).cps).toList;simp
  exact absurd this (hp p ck)
 | p::p'::r,[q],_,_,_,hq,e=>by
  have e:p++⟨#[c]⟩++Str.join ⟨#[c]⟩ (p'::r)=q:=e;have:c∈q.cps.toList:=by rw[<-e];show c∈((p.cps++#[c])++(Str.join ⟨#[c]⟩ (p'::r)).cps).toList;simp
  exact absurd this (hq q ck)
 | p::p'::r,q::q'::s,_,_,hp,hq,e=>by
  have e:p++⟨#[c]⟩++Str.join ⟨#[c]⟩ (p'::r)=q++⟨#[c]⟩++Str.join ⟨#[c]⟩ (q'::s):=e;have e1:p.cps.toList++c::(Str.join ⟨#[c]⟩ (p'::r)).cps.toList=q.cps.toList++c::(Str.join ⟨#[c]⟩ (q'::s)).cps.toList:=by
   have:=dJ (λz:Str=>z.cps.toList) e;have l:∀a b:Str,(a++⟨#[c]⟩++b).cps.toList=a.cps.toList++c::b.cps.toList:=λa b=>by show((a.cps++#[c])++b.cps).toList=_;simp
   have this:(p++⟨#[c]⟩++Str.join ⟨#[c]⟩ (p'::r)).cps.toList=(q++⟨#[c]⟩++Str.join ⟨#[c]⟩ (q'::s)).cps.toList:=this;rw[l,l]at this;exact this
  have go:∀(a b x y:V0 Nat),c∉a->c∉b->a++c::x=b++c::y->a=b/\x=y:=λa=>by
   induction a with
   | nil=>intro b x y _ hb e;cases b with
    | nil=>exact⟨rfl,(dw e).2⟩
    | cons d r=>exact absurd (by rw[<-(dw e).1];exact ck) hb
   | cons k a ih=>intro b x y ha hb e;cases b with
    | nil=>exact absurd (by rw[(dw e).1];exact ck) ha
    | cons d r=>obtain⟨e1,e2⟩:=dw e;obtain⟨h1,h2⟩:=ih r x y (λz=>ha (ci _ z)) (λz=>hb (ci _ z)) e2;exact⟨by rw[e1,h1],h2⟩
  obtain⟨h1,h2⟩:=go _ _ _ _ (hp p ck) (hq q ck) e1;have ep:p=q:=by cases p;cases q;congr;exact iP.mp h1
  have ej:Str.join ⟨#[c]⟩ (p'::r)=Str.join ⟨#[c]⟩ (q'::s):=by generalize Str.join ⟨#[c]⟩ (p'::r)=A at h2 ⊢;generalize Str.join ⟨#[c]⟩ (q'::s)=B at h2 ⊢;cases A;cases B;congr;exact iP.mp h2
  rw[ep,Cg c (p'::r) (q'::s) (c9 _ _) (c9 _ _) (λx hx=>hp x (ci _ hx)) (λx hx=>hq x (ci _ hx)) ej]
def pW(x y:Str):Txt.split x y≠[]:=by
 unfold Txt.split;split
 .exact c9 _ _
 .split
  .exact c9 _ _
  .intro h;have:=dJ List.length h;unfold partsBetween at this;simp at this
def ub(c:Nat){ps:QQQ}(SJ:ps≠[])(h:∀p∈ps,c∉p.cps.toList):Txt.split (Str.join ⟨#[c]⟩ ps) ⟨#[c]⟩=ps:=
 Cg c _ _ (pW _ _) SJ (ij _ _) h (dR _ _)
variable {X:Cx}{pos RT:Pos}{o e:Expr}{es:V0 Expr}{ta:T3}{t:rM}
def yA(x:D)(ds:V0 D)(M:Mp)(Q:DK):Prop:=match x,ds with
 | .str z,[.str y]=>(y.length==0)=false/\z.length<=sizeLine/\(Txt.split z y).length<=sizeLine/\∀p,M p=none->Q (.ref p) (mS M p (.lst ((Txt.split z y).map D.str)))
 | _,_=>False
def zG:M3 X "str.split" yA:=by
 intro RP s Y H vx vs v us Q' I rx rv h;obtain⟨x,ds,M,Q,hx,hd,hm,q,k⟩:=h;unfold yA at q;split at q
 .obtain⟨q1,q2,q3,q⟩:=q;obtain⟨w,rfl,hw⟩:=oy hd;cases hx.str_inv;cases hw.str_inv;refine IJ RP s Y H _ _ v us Q' I rx rv ⟨_,_,rfl,rfl,q1,q2,q3,λp hp=>?_⟩;exact k _ _ _ _ .ref (hm.new (c:=.lst _) hp ⟨_,m9,u6⟩) (.new hp) (q p (hm.fresh hp))
 .exact q.elim
def rj(ho:E3 X o ta)(ha:A3 X (e::es) t)(RY:attributeBase o "split" X.env (eval o X.env)=eval o X.env:=by rfl)
  (R6:((backTo pos (starEach (e::es) X.env)).all (λx=>!x.1)&&(backToKw pos (keywordEach [] X.env)).all (λx=>x.1.isSome)&&decide ((e::es).length+([]:V0 Keyword).length+(if ([]:V0 Keyword).isEmpty then 0 else 1)<30))=true:=by rfl)
  (RZ:(RT.endLine==pos.line)=true:=by rfl) (hs:wj X e es:=by rfl) (R0:wX X pos es:=by rfl):
  E3 X (.Call (.Attribute o "split" RT) (e::es) [] pos) (PR yA ta t):=PE.mono (Hl e9 gI gJ zG ho ha RY R6 RZ hs R0) λY H Q' zz=>x7 zz λU M Q hs hm ht k=>
 ⟨U,M,_,hs,hm,ht,λv H1 x M1 hx RS e1 q1=>by
  cases x with
  | str z=>cases hx.str_inv;exact⟨rfl,U,M1,_,hs.mono e1,RS,q1,λvs H2 ds M2 SF R7 e2 q2=>⟨.str z,ds,M2,Q,.str,SF,R7,q2,qK (e1.trans e2) k⟩⟩
  | _=>exact q1.elim⟩
@[irreducible] def SsI (X:Cx) (st:V0 Stmt) (t:rO):Prop:=zP X st t
@[irreducible] def SI (X:Cx) (st:Stmt) (t:rO):Prop:=S3 X st t
@[irreducible] def EI (X:Cx) (e:Expr) (t:T3):Prop:=E3 X e t
@[irreducible] def AI (X:Cx) (es:V0 Expr) (t:rM):Prop:=A3 X es t
def SsI.out{st:V0 Stmt}{t:rO}(h:SsI X st t):zP X st t:=by unfold SsI at h;exact h
def SsI.of{st:V0 Stmt}{t:rO}(h:zP X st t):SsI X st t:=by unfold SsI;exact h
def SI.out{st:Stmt}{t:rO}(h:SI X st t):S3 X st t:=by unfold SI at h;exact h
def SI.of{st:Stmt}{t:rO}(h:S3 X st t):SI X st t:=by unfold SI;exact h
def EI.out{e:Expr}{t:T3}(h:EI X e t):E3 X e t:=by unfold EI at h;exact h
def EI.of{e:Expr}{t:T3}(h:E3 X e t):EI X e t:=by unfold EI;exact h
def AI.out{e:V0 Expr}{t:rM}(h:AI X e t):A3 X e t:=by unfold AI at h;exact h
def AI.of{e:V0 Expr}{t:rM}(h:A3 X e t):AI X e t:=by unfold AI;exact h
def qm{st:Stmt}{RU:V0 Stmt}{t u:rO}(h1:SI X st t)(h2:SsI X RU u):SsI X (st::RU) (yT t u):=.of (mF h1.out h2.out)
def J4{st:Stmt}{t:rO}(h1:SI X st t):SsI X [st] t:=.of (mG h1.out)
def MU:AI X [] vw:=.of rV
def sd{x:Str}{j:Nat}{es:V0 Expr}{t:rM}(h:AI X es t)(hs:starEach ((Expr.Constant (.str x) j pos)::es) X.env=(false,eval (Expr.Constant (.str x) j pos) X.env)::starEach es X.env:=by rfl):AI X ((Expr.Constant (.str x) j pos)::es) (rY (c3 (.str x)) t):=.of (oW mK h.out hs)
def NU{es:V0 Expr}{t:rM}(h:AI X es t):EI X (.List es pos) (NN t):=.of (qv h.out)
def Nq{i:Nat}{x:Str}{e:Expr}{te:T3}{R1:Pos}(hN:X.N.Nodup)(hi:X.N[i]?=some x)(hx:Bo X.env.scope x)(he:EI X e te)(SH:swapsWith e (some (.Name x R1)) pos.line X.env=pure false:=by rfl)
  (hf:BP X x:=by first|exact .inl rfl|exact .inr rfl|assumption):SI X (.Assign [.Name x R1] e pos) (rm te (pk i)):=.of (IF hN hi hx he.out SH hf)
abbrev Qf(h:Heap)(t:Addr):Heap:=h.push {cls:=.type "tuple_iterator",data:=.fields #[.ref t,.int 0 0]}
abbrev Qa(h:Heap)(t u:Addr):Heap:=(Qf h t).push {cls:=.type "list_iterator",data:=.fields #[.ref u,.int 0 0]}
abbrev Qc(h:Heap)(t u:Addr):Heap:=(Qa h t u).push {cls:=.type "tuple",data:=.seq #[.ref h.objs.size,.ref (Qf h t).objs.size]}
abbrev Qg(h:Heap)(t u:Addr):Heap:=(Qc h t u).push {cls:=.type "tuple",data:=.seq #[.none,.none]}
abbrev Os(h:Heap)(t u:Addr):Heap:=(Qg h t u).push {cls:=.type "zip",data:=.fields #[.none,.bool false,.bool false,.ref (Qa h t u).objs.size,.ref (Qc h t u).objs.size]}
def Ae(t u:Addr)(xs ys:Array Vl):
  Meets (Builtin.«zip.__new__» ⟨[.type "zip",.ref t,.ref u],[]⟩) (λ_ R s=>s.heap.IsTuple t xs/\s.heap.IsList u ys/\R (.ok (.ret (.ref (Qg s.heap t u).objs.size))) {s with heap:=Os s.heap t u}):=
 .of_wp λprog w A R s h=>by
  obtain⟨hp,g,d,tk,os⟩:=s;obtain⟨e1,e2,h⟩:=h;have TV:=sub_zip;have q1:Heap.IsTuple (Shared.heap ⟨hp,g,d,tk,os⟩) t xs:=e1;have q2:Heap.IsList (Shared.heap ⟨hp.push {cls:=.type "tuple_iterator",data:=.fields #[.ref t,.int 0 0]},g,d,tk,os⟩) u ys:=Heap.IsList.push e2 _
  wp_walk using fP q1,fu q2
  exact⟨_,rfl,h⟩
variable {prog:Pg}{w:Wo}{A:Ar}{E:QQX}{s:Sd}
def Bj{t u:Addr}{xs ys:Array Vl}{Q:QQX}(ht:s.heap.IsTuple t xs)(hu:s.heap.IsList u ys) (h:∀g,IsZip g (s.heap.objs.size+4) (s.heap.objs.size+2) (s.heap.objs.size+3) .none->IsPair g (s.heap.objs.size+2) (.ref s.heap.objs.size) (.ref (s.heap.objs.size+1))->IsPair g (s.heap.objs.size+3) .none .none->
   g.IsTupleIter s.heap.objs.size t 0->g.IsListIter (s.heap.objs.size+1) u 0->(∀c o,s.heap.get? c=some o->g.get? c=some o)->Q (.ref (s.heap.objs.size+4)) {s with heap:=g}):
  wpAny (model prog w) A (call (.type "zip") [.ref t,.ref u]) Q E s:=by
 refine callType_new F.called_zip (by decide) (kr _ _) (kE _ _) (λobj=>jv obj _ _) kF (Ae t u xs ys) ⟨ht,hu,?_⟩;have m1:(Qf s.heap t).objs.size=s.heap.objs.size+1:=dz ..;have m2:(Qa s.heap t u).objs.size=s.heap.objs.size+2:=by rw[dz,m1]
 have m3:(Qc s.heap t u).objs.size=s.heap.objs.size+3:=by rw[dz,m2]
 have m4:(Qg s.heap t u).objs.size=s.heap.objs.size+4:=by rw[dz,m3]
 have up:∀{h:Heap} {c:Addr} {o p:Obj},h.get? c=some o->(h.push p).get? c=some o:=λq=>bX _ q;have r5:(Os s.heap t u).get? (Qg s.heap t u).objs.size=some _:=cz _ rfl;have r4:(Os s.heap t u).get? (Qc s.heap t u).objs.size=some _:=up (cz _ rfl);have r3:(Os s.heap t u).get? (Qa s.heap t u).objs.size=some _:=up (up (cz _ rfl));have r2:(Os s.heap t u).get? (Qf s.heap t).objs.size=some _:=up (up (up (cz _ rfl)));have r1:(Os s.heap t u).get? s.heap.objs.size=some _:=up (up (up (up (cz _ rfl))));show _/\_;rw[m2,m3,m4]at r5;rw[m1,m2]at r3;rw[m3]at r4;rw[m1]at r2;rw[m4];exact⟨⟨_,r5,rfl⟩,h _ r5 r3 r4 ⟨_,r1,rfl,rfl⟩ ⟨_,r2,rfl,rfl⟩ λc o q=>up (up (up (up (up q))))⟩
variable {RP:V0 (Addr × Obj)}{Y:St}{H:Hp}
noncomputable def Mt(K:nz)(a b:Addr):It:=
 ⟨λi H=>∃xs ys x y,rc K H a xs/\sO K H b ys/\xs[i]?=some x/\ys[i]?=some y,λi H v H'=>∃p x y,v=.ref p/\H p=none/\H'=upd H p (.tup [x,y])/\(∀xs,rc K H a xs->xs[i]?=some x)/\(∀ys,sO K H b ys->ys[i]?=some y),λi H=>∃xs ys,rc K H a xs/\sO K H b ys/\i=min xs.length ys.length⟩
def Gn{P:Pg}{w:Wo}{K:nz}{Sb:V0 Expr}{n:Nat}{tp:Pos}(a b z TI TO i1 i2:Addr)(a1:TI≠z)(a2:TO≠z)(a3:i1≠z)(a4:i2≠z)(a5:TI≠TO)(a6:TI≠i1)(a7:TI≠i2)(a8:TO≠i1)(a9:TO≠i2)(mD:i1≠i2):
  Ai P w K (.Tuple Sb n tp) (Mt K a b) [z,TI,TO,i1,i2] z (λi h=>IsZip h z TI TO .none/\IsPair h TI (.ref i1) (.ref i2)/\(∃u v,IsPair h TO u v)/\h.IsTupleIter i1 a i/\h.IsListIter i2 b i) where
 mem:=by simp
 obj:=λi h st c hc=>by
  obtain⟨h1,h2,⟨u,v,h3⟩,⟨o4,h4,_,d4⟩,⟨o5,h5,_,d5⟩⟩:=st;simp only[bT,bY,cM]at hc;rcases hc with rfl|rfl|rfl|rfl|rfl
  .exact⟨_,h1,λv z=>by cases z⟩
  .exact⟨_,h2,λv z=>by cases z⟩
  .exact⟨_,h3,λv z=>by cases z⟩
  .exact⟨_,h4,λv z=>by rw[d4]at z;cases z⟩
  .exact⟨_,h5,λv z=>by rw[d5]at z;cases z⟩
 keep:=λi h h' st k=>by obtain⟨h1,h2,⟨u,v,h3⟩,⟨o4,h4,c4⟩,⟨o5,h5,c5⟩⟩:=st;exact⟨k z (by simp) _ h1,k TI (by simp) _ h2,⟨u,v,k TO (by simp) _ h3⟩,⟨o4,k i1 (by simp) _ h4,c4⟩,⟨o5,k i2 (by simp) _ h5,c5⟩⟩
 item:=by
  intro X hP hw hK hc i RP s Y H E I hf st hg;subst hP hw hK;obtain⟨xs,ys,x,y,hx,hy,ex,ey⟩:=hg;obtain⟨its,rx,px,_⟩:=I.tuple hx;obtain⟨Sy,ry,py,_⟩:=I.list hy;obtain⟨u,eu,ru⟩:=rx.get ex;obtain⟨v,ev,rv⟩:=ry.get ey;obtain⟨h1,h2,⟨p,q,h3⟩,h4,h5⟩:=st;have hh:X.A.in1.handled=none:=I.ok.hd hc;have fa:∀c∈[z,TI,TO,i1,i2],a≠c:=λc hc=>xq I (hf c hc) hx;have fb:∀c∈[z,TI,TO,i1,i2],b≠c:=λc hc=>w9 I (hf c hc) hy;have R9:sU z TI TO i1 i2 [i1,a] [i2,b]:=⟨a1,a2,a3,a4,a5,a6,a7,a8,a9,mD,by
   simp only[bT,bY,cM,dj];exact⟨cH a3,cH (fa z (by simp))⟩,by
   simp only[bT,bY,cM,dj];exact⟨a8,cH (fa TO (by simp))⟩,by
   simp only[bT,bY,cM,dj];exact⟨cH mD,cH (fa i2 (by simp))⟩,by
   simp only[bT,bY,cM,dj];exact⟨cH a4,cH (fb z (by simp))⟩,by
   simp only[bT,bY,cM,dj];exact⟨a9,cH (fb TO (by simp))⟩,by
   simp only[bT,bY,cM,dj];exact⟨mD,cH (fb i1 (by simp))⟩⟩
  have l1:i<its.toArray.size:=by
   have:=(bW.mp eu).1
   simpa using this
  have l2:i<Sy.toArray.size:=by
   have:=(bW.mp ev).1
   simpa using this
  refine uV (rR hh i1 a (fa i1 (by simp)) its.toArray) (g9 hh i2 b (fb i2 (by simp)) Sy.toArray) R9 h1 h2 h3 ⟨h4,px⟩ ⟨h5,py.isList⟩ l1 l2 λx' y' g tk e1 e2 z1 o1 s1 s2 t1 sz kp=>?_;have U3:x'=u:=by
   have:its[i]?=some x':=by simpa using e1
   rw[eu]at this;exact(ce this).symm
  have S7:y'=v:=by
   have:Sy[i]?=some y':=by simpa using e2
   rw[ev]at this;exact(ce this).symm
  subst U3 S7;refine⟨_,rfl,gx z1 λg2 z2 sb=>?_⟩;have UK:z<s.heap.objs.size:=cp h1;have kk:∀c o,c∉[z,TI,TO,i1,i2]->s.heap.get? c=some o->g2.get? c=some o:=λc o hc e=>by simp only[bT,bY,cM,dj]at hc;exact(sb.2 c hc.1).trans (kp c o hc.1 hc.2.2.1 hc.2.2.2.1 hc.2.2.2.2 e)
  have t2:g2.get? s.heap.objs.size=some {cls:=.type "tuple",data:=.seq #[x',y']}:=(sb.2 _ (eU UK)).trans t1;have TB:H s.heap.objs.size=none:=I.lb.fresh (cq _);have I2:=I.drawn (ch:=[z,TI,TO,i1,i2]) (T:=s.heap.objs.size) (xs:=[x,y]) (its:=[x',y']) (h':=g2) (tk:=tk) hf kk (cq _) (by show 2<=sizeLine;decide) (.cons ru (.cons rv .nil)) ⟨_,t2,rfl,⟨_,rfl⟩,rfl⟩;refine⟨.ref s.heap.objs.size,_,I2,rfl,⟨_,x,y,rfl,TB,rfl,λxs' hx'=>by rw[I.lm hx' hx];exact ex,λys' hy'=>by rw[I.lx hy' hy];exact ey⟩,?_,λc hc=>?_⟩
  .obtain⟨o4,g4,c4⟩:=s1.1;obtain⟨o5,g5,c5⟩:=s2.1;exact⟨z2,(sb.2 _ a1).trans (kp _ _ a1 a5 a6 a7 h2),⟨_,_,(sb.2 _ a2).trans o1⟩,⟨o4,(sb.2 _ a3).trans g4,c4⟩,⟨o5,(sb.2 _ a4).trans g5,c5⟩⟩
  .have n0:=(hf c hc).1;obtain⟨o,eo⟩:∃o,s.heap.get? c=some o:=by
    obtain⟨o4,g4,_⟩:=h4;obtain⟨o5,g5,_⟩:=h5;simp only[bT,bY,cM]at hc;rcases hc with rfl|rfl|rfl|rfl|rfl
    .exact⟨_,h1⟩
    .exact⟨_,h2⟩
    .exact⟨_,h3⟩
    .exact⟨_,g4⟩
    .exact⟨_,g5⟩
   rw[ni (cI (cp eo))];exact n0
 done:=by
  intro X hP hw hK hc i RP s Y H E I hf st hg;subst hP hw hK;obtain⟨xs,ys,hx,hy,hi⟩:=hg;obtain⟨its,rx,px,_⟩:=I.tuple hx;obtain⟨Sy,ry,py,_⟩:=I.list hy;obtain⟨h1,h2,⟨p,q,h3⟩,h4,h5⟩:=st;have hh:X.A.in1.handled=none:=I.ok.hd hc;have fa:∀c∈[z,TI,TO,i1,i2],a≠c:=λc hc=>xq I (hf c hc) hx;have fb:∀c∈[z,TI,TO,i1,i2],b≠c:=λc hc=>w9 I (hf c hc) hy;have R9:sU z TI TO i1 i2 [i1,a] [i2,b]:=⟨a1,a2,a3,a4,a5,a6,a7,a8,a9,mD,by
   simp only[bT,bY,cM,dj];exact⟨cH a3,cH (fa z (by simp))⟩,by
   simp only[bT,bY,cM,dj];exact⟨a8,cH (fa TO (by simp))⟩,by
   simp only[bT,bY,cM,dj];exact⟨cH mD,cH (fa i2 (by simp))⟩,by
   simp only[bT,bY,cM,dj];exact⟨cH a4,cH (fb z (by simp))⟩,by
   simp only[bT,bY,cM,dj];exact⟨a9,cH (fb TO (by simp))⟩,by
   simp only[bT,bY,cM,dj];exact⟨mD,cH (fb i1 (by simp))⟩⟩
  have e1:=rx.length;have e2:=ry.length;refine rB (rR hh i1 a (fa i1 (by simp)) its.toArray) (g9 hh i2 b (fb i2 (by simp)) Sy.toArray) R9 h1 h2 h3 ⟨h4,px⟩ ⟨h5,py.isList⟩ (by simp only[b7];lia) λg tk kp=>⟨rfl,?_⟩;have kk:∀c o,c∉[z,TI,TO,i1,i2]->s.heap.get? c=some o->g.get? c=some o:=λc o hc e=>by simp only[bT,bY,cM,dj]at hc;exact kp c o hc.1 hc.2.2.1 hc.2.2.2.1 hc.2.2.2.2 e
  refine I.step (g':=s.gens) (d':=s.drawn) (t':=tk) (ch:=[z,TI,TO,i1,i2]) (λc hc=>⟨(hf c hc).2.2.2.1,(hf c hc).2.1,(hf c hc).2.2.2.2.1,(hf c hc).2.2.2.2.2⟩) ?_ ?_ (λc o _ e n=>n) ?_ (λ_ _ e=>e) (λ_ _ _ e=>e) (λc ps e=>⟨#[],by rw[e];simp⟩) ?_ ?_ I.bare
  .exact λc o _ _ hc e _=>kk c o hc e
  .exact λc o _ _ hc e _=>⟨o.slots,kk c o hc e⟩
  .exact λc o hc e=>⟨o,kk c o hc e⟩
  .intro m hm;obtain⟨o,es,ep,ho,r⟩:=hm;exact⟨o,es,ep,kk _ o (λy=>(hf _ y).2.1 rfl) ho,r⟩
  .intro c u e;refine(I.lb c u e).ly (λd v hd q=>kk d v (λy=>?_) q) (λ_ q=>q) λ_ _ q=>q;have n:=(hf d y).1;rcases hd with x|x
   .rw[x,e]at n;cases n
   .rw[x]at n;cases n
 self:=λ_ _ _ _ _ st h=>fG st.1 h
variable {p tp:Pos}{Sb:V0 Expr}{n:Nat}
def Kh{a b:Expr}{ta:TA}(hg:Gl X "zip")(hm:X.mg "zip"=none)(ha:PA X [a,b] ta)(hs:starEach [a,b] X.env=[(false,eval a X.env),(false,eval b X.env)]:=by rfl)(SE:starEach [b] X.env=[(false,eval b X.env)]:=by rfl):
  PI X (.Tuple Sb n tp) (.Call (.Name "zip" p) [a,b] [] pos) (λY H R=>ta Y H λvs H1=>∃l m,vs=[.ref l,.ref m]/\(∃xs,rc X.K H1 l xs)/\(∃xs,sO X.K H1 m xs)/\R (Mt X.K l m) H1):=by
 intro RP s Y H R I h;refine Call_ (tq I hg hm Ek (dF (pC (ha pos RP s Y H _ I h) λus s1 zz=>x5 zz λvs H1 I1 r1 q1=>?_) (by rw[hs,SE]) (by rw[SE];rfl)));obtain⟨l,m,e,⟨xs,hx⟩,⟨ys,hy⟩,q⟩:=q1;subst e;obtain⟨u,v,rfl,ru,rv⟩:=yM r1;cases ru;cases rv;obtain⟨its,_,px,_⟩:=I1.tuple hx;obtain⟨Sy,_,py,_⟩:=I1.list hy;refine Bj px py.isList λg h1 h2 h3 h4 h5 hk=>fG h1 ?_;have I2:Inv X RP Y H1 {s1 with heap:=g}:=I1.kept (t':=s1.toks) hk;refine⟨s1.heap.objs.size+4,[s1.heap.objs.size+4,s1.heap.objs.size+2,s1.heap.objs.size+3,s1.heap.objs.size,s1.heap.objs.size+1],_,_,H1,rfl,I2,Gn l m _ _ _ _ _ ?_ ?_ ?_ ?_ ?_ ?_ ?_ ?_ ?_ ?_,⟨h1,h2,⟨_,_,h3⟩,h4,h5⟩,λb hb=>?_,q⟩
 .exact λz=>by have z:s1.heap.objs.size+2=s1.heap.objs.size+4:=z;lia
 .exact λz=>by have z:s1.heap.objs.size+3=s1.heap.objs.size+4:=z;lia
 .exact λz=>by have z:s1.heap.objs.size=s1.heap.objs.size+4:=z;lia
 .exact λz=>by have z:s1.heap.objs.size+1=s1.heap.objs.size+4:=z;lia
 .exact λz=>by have z:s1.heap.objs.size+2=s1.heap.objs.size+3:=z;lia
 .exact λz=>by have z:s1.heap.objs.size+2=s1.heap.objs.size:=z;lia
 .exact λz=>by have z:s1.heap.objs.size+2=s1.heap.objs.size+1:=z;lia
 .exact λz=>by have z:s1.heap.objs.size+3=s1.heap.objs.size:=z;lia
 .exact λz=>by have z:s1.heap.objs.size+3=s1.heap.objs.size+1:=z;lia
 .exact λz=>by have z:s1.heap.objs.size=s1.heap.objs.size+1:=z;lia
 .have Ss:s1.heap.objs.size<=b:=by
   simp only[bT,bY,cM]at hb;rcases hb with rfl|rfl|rfl|rfl|rfl
   .exact dD _ _
   .exact dD _ _
   .exact dD _ _
   .exact cq _
   .exact dD _ _
  exact I1.lN Ss (I1.lb.fresh Ss)
def GF{K:nz}{H1:Hp}{a b:Addr}{ds es:V0 D}{xs:V0 V}(h1:rc K H1 a xs)(h2:nq K H1 ds xs):zS K H1 (Mt K a b) (sy ds es) (λM=>lO M b=some es) where
 go:=λi H M hi hm ok e1=>by rw[sI]at hi;obtain⟨ys,g1,g2,_⟩:=mU hm ok;obtain⟨x,q1,_⟩:=h2.get (bZ (show i<ds.length by lia));obtain⟨y,q2,_⟩:=g2.get (bZ (show i<es.length by lia));exact⟨xs,ys,x,y,e1.t _ _ h1,g1,q1,q2⟩
 mv:=λi d H M x H' hd hm ok e1 y=>by
  obtain⟨ys,g1,g2,_⟩:=mU hm ok;obtain⟨p,u,v,rfl,hp,rfl,y1,y2⟩:=y;rw[L3.vi]at hd;cases e:ds[i]? with
  | none=>rw[e]at hd;cases hd
  | some d'=>
   cases e':es[i]? with
   | none=>rw[e,e']at hd;cases hd
   | some c'=>rw[e,e']at hd;cases hd;obtain⟨x',q1,hx⟩:=h2.get e;obtain⟨z',q2,hz⟩:=g2.get e';have w1:=y1 xs (e1.t _ _ h1);have w2:=y2 ys g1;rw[q1]at w1;rw[q2]at w2;have v1:x'=u:=ce w1;have v2:z'=v:=ce w2;subst v1 v2;have ex:nX K H (upd H p (.tup [x',z'])):=.new hp;exact⟨.tup (.of m9) (.cons (hx.mono (e1.trans ex)) (.cons (hz.mono ex) .nil)),hm.add hp,ex⟩
 stop:=λH M hm ok e1=>by obtain⟨ys,g1,g2,_⟩:=mU hm ok;exact⟨xs,ys,e1.t _ _ h1,g1,by rw[sI,h2.length,g2.length]⟩
def Oc(t:rM):Gg:=λU M R=>t U M λds M1=>match ds with
 | [.tup xs,.ref b]=>(lO M1 b).elim False λys=>R (sy xs ys) (λM=>lO M b=some ys) M1
 | _=>False
def KI{a b:Expr}{ta:rM}(hg:Gl X "zip")(hm:X.mg "zip"=none)(ha:A3 X [a,b] ta)(hs:starEach [a,b] X.env=[(false,eval a X.env),(false,eval b X.env)]:=by rfl)(SE:starEach [b] X.env=[(false,eval b X.env)]:=by rfl):
  I3 X (.Tuple Sb n tp) (.Call (.Name "zip" p) [a,b] [] pos) (Oc ta):=
 PI.mono (Kh hg hm ha hs SE) λY H R' zz=>x7 zz λU M R hs hm ht k=>⟨U,M,_,hs,hm,ht,λvs H1 ds M1 hd RS e1 q1=>by
  split at q1
  .obtain⟨ys,f2,q1⟩:=nU q1;obtain⟨v,u,rfl,hv,hw⟩:=tT hd;obtain⟨l,xs,rfl,h1,h2⟩:=hv.k8;cases hw.kX;obtain⟨ws,g1,_⟩:=mU RS f2;exact⟨l,_,rfl,⟨xs,h1⟩,⟨ws,g1⟩,k _ H1 _ _ M1 (GF h1 h2) RS e1 f2 q1⟩
  .exact q1.elim⟩
end L3
namespace L2
noncomputable def Cx.lQ(X:Cx)(E:QQX):Cx:={X with xe:=E}
def Inv.lQ{X:Cx}{E:QQX}{RP:QQY}{Y:St}{H:Hp}{s:Sd}(I:Inv X RP Y H s):Inv (X.lQ E) RP Y H s:=
 ⟨⟨I.ok.mod,I.ok.kind,I.ok.glob,I.ok.blt,I.ok.above,I.ok.inj,I.ok.has,I.ok.l8,I.ok.hd,I.ok.frames,I.ok.mo,I.ok.mz,I.ok.bs,I.ok.lV,I.ok.lM,I.ok.lT,I.ok.lC,I.ok.lZ⟩,I.os,I.bare,I.base,I.loc,I.cell,I.free,I.lh,I.pin,I.lb,I.len⟩
def Inv.xeOf{X:Cx}{E:QQX}{RP:QQY}{Y:St}{H:Hp}{s:Sd}(I:Inv (X.lQ E) RP Y H s):Inv X RP Y H s:=
 ⟨⟨I.ok.mod,I.ok.kind,I.ok.glob,I.ok.blt,I.ok.above,I.ok.inj,I.ok.has,I.ok.l8,I.ok.hd,I.ok.frames,I.ok.mo,I.ok.mz,I.ok.bs,I.ok.lV,I.ok.lM,I.ok.lT,I.ok.lC,I.ok.lZ⟩,I.os,I.bare,I.base,I.loc,I.cell,I.free,I.lh,I.pin,I.lb,I.len⟩
end L2
namespace L3
open L2
end L3
namespace L2
end L2
namespace L3
open L2
variable {X:Cx}{pos p tp kpos:Pos}{Sb:V0 Expr}{n:Nat}
end L3
namespace L2
variable {prog:Pg}{w:Wo}{A:Ar}{E:QQX}{s:Sd}{a:Addr}{U:Type}{k:Str}{tk:Tok}
section
variable {R:U→Vl→Prop}{D:V0 (Str × U)}
end
end L2
namespace L3
open L2
variable {X:Cx}{pos p:Pos}{x:Str}{d:D}{e o i:Expr}{ta tb td tk:T3}{F:V0 (Str × QQQ)}
end L3
namespace L2
def B6(h:Heap)(e:Addr)(cls:Vl)(dx tb:Option Addr)(F:Vl):Prop:=
 ∃oe vs,h.get? e=some oe/\oe.cls=cls/\oe.dict=dx/\oe.data=.fields vs/\1<vs.size/\vs[1]?=some (tb.elim Value.none Value.ref)/\∀T,tb=some T->T≠e/\∃oT ts,h.get? T=some oT/\oT.data=.fields ts/\3<ts.size/\ts[3]?=some F
def Ji(h:Heap)(e:Addr)(cls:Vl)(dx tb:Option Addr):Prop:=B6 h e cls dx tb Value.none
theorem uK{h base:Heap}:∀{l:V0 Env} {b:Addr},h.FunFrames base l->b∈rg l->∃o,h.get? b=some o/\∀vs,o.data≠.fields vs
 | [],b,_,hb=>by cases hb
 | env::r,b,hF,hb=>by
  obtain⟨_,⟨L,o,hL,_,ho,hd⟩,hr⟩:=hF;have e:rg (env::r)=L::rg r:=by unfold rg;rw[gq,hL]
  rw[e]at hb;rcases bT.mp hb with z|z
  .rw[z];exact⟨o,ho,hd⟩
  .exact uK hr z
def An{h base:Heap}{l:V0 Env}{b:Addr}{o:Obj}{vs:Array Vl}(hF:h.FunFrames base l)(ho:h.get? b=some o)(hd:o.data=.fields vs):b∉rg l:=λhb=>by obtain⟨o',Si,hn⟩:=uK hF hb;rw[ho]at Si;cases Si;exact hn vs hd
variable {M:Model}{A:Ar}{s:Sd}{base:Heap}{env:Env}{outer:V0 Env}{L e:Addr}{cls:Vl}{dx:Option Addr}{Q:Unit→Sd→Prop}
section
variable {E:QQX}
def KO{Ti:Vl}{had:Bool}{oe:Obj}{vs:Array Vl}{Sx:Env}(hcf:Sx.frame=some L)(TK:A.frames=some (env::outer))(hF:s.heap.FunFrames base (env::outer))(hL:env.frame=some L)(ho:s.heap.get? e=some oe)(hd:oe.data=.fields vs)(h1:1<vs.size) (k:∀(h':Heap) (T:Addr),s.heap.get? T=none->(∀b o,s.heap.get? b=some o->b∉rg (env::outer)->b≠e->h'.get? b=some o)->(∀b o,s.heap.get? b=some o->b∈rg (env::outer)->∃sl,h'.get? b=some {o with slots:=sl})->
   (∃oe',h'.get? e=some oe'/\oe'.cls=oe.cls/\oe'.dict=oe.dict/\oe'.data=.fields (vs.setIfInBounds 1 (.ref T)))->(∃oT ts,h'.get? T=some oT/\oT.data=.fields ts/\3<ts.size/\ts[3]?=some (rawInt ↑L))->Q () {s with heap:=h'}):
  wpAny M A (do
   let a<-PySem.frameOf Sx;let pl<-entryPlaceOf L had;let b<-EntryCells.newEntry Ti a Value.none (rawInt ↑L) Value.none pl
   setField (Value.ref e) 1 b) Q E s:=by
 have ne:=An hF ho hd;unfold PySem.frameOf;refine bQ (bQ (wpAny_frameEnvs TK (bQ ?_)));have ed:List.dropWhile (λx=>x.frame != Sx.frame) (env::outer)=env::outer:=by rw[List.dropWhile_cons,bV (by rw[hL,hcf];simp)]
 rw[ed];unfold frameObject;refine bQ (wpAny_readyFrames_fun hF λTh hs=>?_);obtain⟨z1,z2,z3⟩:=hs;rw[hL];refine cf (cf ?_);refine bQ (wpAny_entryPlaceOf λpl hp=>?_);refine bQ ?_;unfold EntryCells.newEntry newFields;have R4:([Ti,Value.ref L,Value.none,rawInt ↑L,Value.none]++if pl.isEmpty=true then List.replicate 6 Value.none else pl).length=11:=by rw[bS];rcases hp with rfl|⟨_,_,_,_,_,_,_,rfl⟩<;>rfl
 have hfl:([Ti,Value.ref L,Value.none,rawInt ↑L,Value.none]++if pl.isEmpty=true then List.replicate 6 Value.none else pl)[3]?=some (rawInt ↑L):=rfl;generalize ([Ti,Value.ref L,Value.none,rawInt ↑L,Value.none]++if pl.isEmpty=true then List.replicate 6 Value.none else pl)=fs at R4 hfl ⊢;refine eE ?_ (by
  show fs.toArray.size<=_;rw[b7,R4];decide)
 have e1:Th.get? e=some oe:=by rw[z2 e ne];exact ho
 have e2:(Th.push {cls:=.type "traceback",data:=.fields fs.toArray}).get? e=some oe:=bX _ e1;refine fU e2 hd h1 ?_;have tn:s.heap.get? Th.objs.size=none:=gS (by rw[z1];exact cq _);have te:Th.objs.size≠e:=λz=>by rw[z,ho]at tn;cases tn
 obtain⟨oc,od,Va,Tb⟩:=oe;obtain rfl:Va=.fields vs:=hd;have up:∀b,e≠b->((Th.push {cls:=.type "traceback",data:=.fields fs.toArray}).update e (Obj.mapFields λx=>x.setIfInBounds 1 (.ref Th.objs.size))).get? b=(Th.push {cls:=.type "traceback",data:=.fields fs.toArray}).get? b:=λb z=>eG _ _ z;refine k _ Th.objs.size tn (λb o hb nf ne'=>?_) (λb o hb hf=>?_) ⟨_,d6 _ e2 rfl,rfl,rfl,rfl⟩ ⟨_,fs.toArray,(up _ (cH te)).trans (cz _ rfl),rfl,by rw[b7,R4];decide,by rw[gQ];exact hfl⟩
 .rw[up b (cH ne')];exact bX _ (by rw[z2 b nf];exact hb)
 .obtain⟨sl,q⟩:=z3 b o hb;refine⟨sl,?_⟩;rw[up b (λz=>ne (z ▸ hf))];exact bX _ q
def Dm{E₁:QQX}{tb:Option Addr}{F:Vl}{Sx:Env}(hcf:Sx.frame=some L)(TK:A.frames=some (env::outer))(hF:s.heap.FunFrames base (env::outer))(hL:env.frame=some L)(hx:B6 s.heap e cls dx tb F)(hFL:(F==rawInt ↑L)=false) (k:∀(h':Heap) (T:Addr),s.heap.get? T=none->(∀b o,s.heap.get? b=some o->b∉rg (env::outer)->b≠e->tb≠some b->h'.get? b=some o)->(∀b o,s.heap.get? b=some o->b∈rg (env::outer)->∃sl,h'.get? b=some {o with slots:=sl})->
   (∀b,h'.get? b=none->s.heap.get? b=none)->B6 h' e cls dx (some T) (rawInt ↑L)->Q () {s with heap:=h'}):wpAny M A (noteFrame (.ref e) Sx) Q E₁ s:=by
 obtain⟨oe,vs,ho,hc,TL,hd,h1,hv,hT⟩:=hx;have ne:=An hF ho hd;unfold noteFrame;rw[hcf];refine bQ (dq ho hd hv ?_);have RV:∀(s1:Sd) (oe1:Obj),s1.gens=s.gens->s1.drawn=s.drawn->s1.toks=s.toks->s1.os=s.os->s1.heap.FunFrames base (env::outer)->s1.heap.get? e=some oe1->oe1.cls=cls->oe1.dict=dx->oe1.data=.fields vs->(∀b o,s.heap.get? b=some o->b∉rg (env::outer)->b≠e->tb≠some b->s1.heap.get? b=some o)->
   (∀b o,s.heap.get? b=some o->b∈rg (env::outer)->s1.heap.get? b=some o)->(∀b,s1.heap.get? b=none↔s.heap.get? b=none)->∀(Ti:Vl) (had:Bool),wpAny M A (do
   let a<-PySem.frameOf Sx;let pl<-entryPlaceOf L had;let b<-EntryCells.newEntry Ti a Value.none (rawInt ↑L) Value.none pl
   setField (Value.ref e) 1 b) Q E₁ s1:=by
  intro s1 oe1 g1 g2 g3 g4 hF1 U0 hc1 hdx1 hd1 kb kf kn Ti had;refine KO hcf TK hF1 hL U0 hd1 h1 λh' T tn k1 k2 ⟨oe',he',U9,hdxe,hde⟩ ⟨oT,ts,SM,Tj,h3,h3v⟩=>?_;have te:T≠e:=λz=>by rw[z,U0]at tn;cases tn
  have:=k h' T ((kn T).mp tn) (λb o hb nf nb nt=>k1 b o (kb b o hb nf nb nt) nf nb) (λb o hb hf=>k2 b o (kf b o hb hf) hf) (λb hb=>?_) ⟨oe',vs.setIfInBounds 1 (.ref T),he',U9.trans hc1,hdxe.trans hdx1,hde,by rw[iQ];exact h1,by rw[gi h1];rfl,λT' eT=>?_⟩
  .show Q () {heap:=_,gens:=s1.gens,drawn:=s1.drawn,toks:=s1.toks,os:=s1.os};rw[g1,g2,g3,g4];exact this
  .refine(kn b).mp ?_;cases q:s1.heap.get? b with
   | none=>rfl
   | some o=>
    by_cases z:b=e
    .rw[z,he']at hb;cases hb
    .by_cases zf:b∈rg (env::outer)
     .obtain⟨sl,q2⟩:=k2 b o q zf;rw[q2]at hb;cases hb
     .rw[k1 b o q zf z]at hb;cases hb
  .cases eT;exact⟨te,oT,ts,SM,Tj,h3,h3v⟩
 cases tb with
 | none=>rw[bV (show ¬((none:Option Addr).elim Value.none Value.ref != Value.none)=true by decide+kernel)];exact RV s oe rfl rfl rfl rfl hF ho hc TL hd (λb o hb _ _ _=>hb) (λb o hb _=>hb) (λb=>.rfl) _ _
 | some T=>
  obtain⟨nTe,oT,ts,SM,Tj,h3,hn⟩:=hT T rfl;rw[b9 (show((some T:Option Addr).elim Value.none Value.ref != Value.none)=true by rfl)];refine bQ (dq SM Tj hn ?_);rw[bV (by rw[hFL];exact cg)];refine bQ (fU SM Tj h3 ?_);have up:∀b,T≠b->(s.heap.update T (Obj.mapFields λx=>x.setIfInBounds 3 .none)).get? b=s.heap.get? b:=λb z=>eG _ _ z;have nf:∀b o,s.heap.get? b=some o->(∀vs,o.data≠.fields vs)->T≠b:=λb o hb hn z=>by rw[<-z,SM]at hb;cases hb;exact hn ts Tj
  have sz:∀b,(s.heap.update T (Obj.mapFields λx=>x.setIfInBounds 3 .none)).get? b=none↔s.heap.get? b=none:=λb=>by
   by_cases z:T=b
   .rw[<-z];obtain⟨oc,od,Va,Tb⟩:=oT;obtain rfl:Va=.fields ts:=Tj;rw[d6 _ SM rfl,SM];exact⟨(λq=>by cases q),(λq=>by cases q)⟩
   .rw[up b z]
  exact RV {s with heap:=s.heap.update T (Obj.mapFields λx=>x.setIfInBounds 3 .none)} oe rfl rfl rfl rfl (kP (λb o hb hn=>⟨o,(up b (nf b o hb hn)).trans hb,rfl⟩) hF) ((up e nTe).trans ho) hc TL hd
   (λb o hb _ _ nt=>(up b λz=>nt (by rw[z])).trans hb) (λb o hb hf=>by
    obtain⟨o',Si,hn⟩:=uK hF hf;rw[hb]at Si;cases Si;exact(up b (nf b o hb hn)).trans hb) sz _ _
def ww{T:Addr}{F:Vl}(x:Option Addr)(hx:B6 s.heap e cls dx (some T) F)(k:∀h':Heap,(∀b,T≠b->h'.get? b=s.heap.get? b)->(∀b,h'.get? b=none↔s.heap.get? b=none)->B6 h' e cls dx (some T) (x.elim .none λf=>rawInt f)->Q () {s with heap:=h'}):wpAny M A (setFlight (.ref e) x) Q E s:=by
 obtain⟨oe,vs,ho,hc,TL,hd,h1,hv,hT⟩:=hx;obtain⟨nTe,oT,ts,SM,Tj,h3,hn⟩:=hT T rfl;unfold setFlight;refine bQ (dq ho hd hv ?_);rw[b9 (by rfl)];refine fU SM Tj h3 ?_;obtain⟨oc,od,Va,Tb⟩:=oT;obtain rfl:Va=.fields ts:=Tj;have up:∀b,T≠b->(s.heap.update T (Obj.mapFields λy=>y.setIfInBounds 3 (x.elim .none λf=>rawInt f))).get? b=s.heap.get? b:=λb z=>eG _ _ z;refine k _ up (λb=>?_) ⟨oe,vs,(up e nTe).trans ho,hc,TL,hd,h1,hv,λT' eT=>?_⟩
 .by_cases z:T=b
  .rw[<-z,d6 _ SM rfl,SM];exact⟨(λq=>by cases q),(λq=>by cases q)⟩
  .rw[up b z]
 .cases eT;exact⟨nTe,_,ts.setIfInBounds 3 (x.elim .none λf=>rawInt f),d6 _ SM rfl,rfl,by rw[iQ];exact h3,by rw[gi h3]⟩
def EO{E₁ E₂:QQX}{tb:Option Addr}(TK:A.frames=some (env::outer))(hF:s.heap.FunFrames base (env::outer))(hL:env.frame=some L)(hx:Ji s.heap e cls dx tb) (k:∀(h':Heap) (T:Addr),s.heap.get? T=none->(∀b o,s.heap.get? b=some o->b∉rg (env::outer)->b≠e->tb≠some b->h'.get? b=some o)->(∀b o,s.heap.get? b=some o->b∈rg (env::outer)->∃sl,h'.get? b=some {o with slots:=sl})->
   Ji h' e cls dx (some T)->Q () {s with heap:=h'}):wpAny M A (noteFrame (.ref e) env) (λ_ s₂=>wpAny M A (setFlight (.ref e) none) Q E₂ s₂) E₁ s:=by
 refine Dm hL TK hF hL hx (cE.mpr λz=>by have:=dr.mp z;cases this) λh' T tn k1 k2 _ x'=>?_;refine ww none x' λh2 up _ x2=>k h2 T tn (λb o hb nf nb nt=>?_) (λb o hb hf=>?_) x2
 .have tb:T≠b:=λz=>by rw[z,hb]at tn;cases tn
  exact(up b tb).trans (k1 b o hb nf nb nt)
 .have tb:T≠b:=λz=>by rw[z,hb]at tn;cases tn
  obtain⟨sl,q⟩:=k2 b o hb hf;exact⟨sl,(up b tb).trans q⟩
def JK{T0:Addr}{F:Vl}(TK:A.frames=some (env::outer))(hF:s.heap.FunFrames base (env::outer))(hL:env.frame=some L)(hx:B6 s.heap e cls dx (some T0) F) (k:∀(h':Heap) (T:Addr),(s.heap.get? T=none\/T=T0)->(∀b o,s.heap.get? b=some o->b∉rg (env::outer)->b≠e->T0≠b->h'.get? b=some o)->(∀b o,s.heap.get? b=some o->b∈rg (env::outer)->∃sl,h'.get? b=some {o with slots:=sl})->
   Ji h' e cls dx (some T)->Q () {s with heap:=h'}):wpAny M A (leaving env (.ref e)) Q E s:=by
 unfold leaving;refine bQ ?_;cases hFL:F==rawInt ↑L with
 | false=>
  refine Dm hL TK hF hL hx hFL λh' T tn k1 k2 _ x'=>ww none x' λh2 up _ x2=>k h2 T (.inl tn) (λb o hb nf nb nt=>?_) (λb o hb hf=>?_) x2
  .have tb:T≠b:=λz=>by rw[z,hb]at tn;cases tn
   exact(up b tb).trans (k1 b o hb nf nb λz=>nt (ce z))
  .have tb:T≠b:=λz=>by rw[z,hb]at tn;cases tn
   obtain⟨sl,q⟩:=k2 b o hb hf;exact⟨sl,(up b tb).trans q⟩
 | true=>
  have hx0:=hx;obtain⟨oe,vs,ho,hc,TL,hd,h1,hv,hT⟩:=hx;obtain⟨nTe,oT,ts,SM,Tj,h3,hn⟩:=hT T0 rfl;unfold noteFrame;rw[hL];refine bQ (dq ho hd hv ?_);rw[b9 (show((some T0:Option Addr).elim Value.none Value.ref != Value.none)=true by rfl)];refine bQ (dq SM Tj hn ?_);rw[b9 hFL];refine cf (ww none hx0 λh2 up _ x2=>k h2 T0 (.inr rfl) (λb o hb _ _ nt=>(up b nt).trans hb) (λb o hb hf=>?_) x2);have nb:T0≠b:=λz=>by obtain⟨o',Si,Ts⟩:=uK hF hf;rw[<-z,SM]at Si;cases Si;exact Ts ts Tj
  exact⟨o.slots,(up b nb).trans hb⟩
def JP{tb:Option Addr}(TK:A.frames=some (env::outer))(hF:s.heap.FunFrames base (env::outer))(hL:env.frame=some L)(hx:Ji s.heap e cls dx tb) (k:∀(h':Heap) (T:Addr),s.heap.get? T=none->(∀b o,s.heap.get? b=some o->b∉rg (env::outer)->b≠e->tb≠some b->h'.get? b=some o)->(∀b o,s.heap.get? b=some o->b∈rg (env::outer)->∃sl,h'.get? b=some {o with slots:=sl})->
   Ji h' e cls dx (some T)->Q () {s with heap:=h'}):wpAny M A (leaving env (.ref e)) Q E s:=bQ (EO TK hF hL hx k)
end
def yt(P:Pg)(w:Wo):GA:=λouter H s E ev s'=>Ju λe C dx H' tb=>ev=.ref e/\E (.ref C) dx H'/\s'.os=s.os/\AllBare s'.gens/\Un (rg outer) [] H H' s.heap s'.heap/\uz P w H' s'.heap/\
 Ji s'.heap e (.ref C) dx (some tb)/\s.heap.get? e=none/\s.heap.get? tb=none/\H' e=none/\H' tb=none
def uc{P:Pg}{w:Wo}{H:Hp}{h:Heap}{a:Addr}{o:HO}(x:pj P w H h a o):∃ob,h.get? a=some ob:=by
 cases o with
 | lst xs=>obtain⟨_,_,_,_,e⟩:=x;exact⟨_,e⟩
 | tup xs=>obtain⟨_,_,_,o,e,_⟩:=x;exact⟨_,e⟩
 | dK kvs=>obtain⟨_,_,_,_,o,_,_,e,_⟩:=x;exact⟨_,e⟩
 | dT kvs=>obtain⟨_,_,_,_,o,_,_,e,_⟩:=x;exact⟨_,e⟩
 | set S n=>obtain⟨o,_,_,_,e,_⟩:=x;exact⟨_,e⟩
 | ins C dx fs=>obtain⟨_,_,_,e,_⟩:=x;exact⟨_,e⟩
 | own y=>exact x
 | xd fs=>obtain⟨_,⟨_,_,_,e,_⟩,_⟩:=x;exact⟨_,e⟩
 | rng lo hi=>obtain⟨_,_,_,e⟩:=x;exact⟨_,e⟩
 | frz ob u=>obtain⟨e,_⟩:=x;exact⟨_,e⟩
 | tbl ps=>exact⟨_,x⟩
 | met f y=>exact⟨_,x⟩
 | ext φ=>obtain⟨_,e,_⟩:=x;exact e
def yO{P:Pg}{w:Wo}{H:Hp}{h:Heap}{T:Addr}(lb:uz P w H h)(tn:h.get? T=none):H T=none:=by
 cases z:H T with
 | none=>rfl
 | some o=>obtain⟨ob,Vb⟩:=uc (lb T o z);rw[Vb]at tn;cases tn
variable {P:Pg}{w:Wo}{K:nz}{mg:QQZ}{N:QQQ}{qual:Str}{scope:Scope}{f:Addr}{cd:Vl}{s0:Sd}{H0:Hp}
section
variable {E:XK}
def rW{fs ex:QXQ}{H H':Hp}{h h':Heap}(u:Un fs ex H H' h h')(hex:ex=[]){b:Addr}(hb:h'.get? b=none):h.get? b=none:=by
 cases q:h.get? b with
 | none=>rfl
 | some o=>obtain⟨o',e⟩:=u.there b o q (by rw[hex];simp);rw[e]at hb;cases hb
def Cq{RP:QQY}{Y:St}{H:Hp}{s:Sd}{e C T:Addr}{tb dx:Option Addr}{h':Heap}(I:Inv (rn (yt P w) P w K mg base N qual scope f cd A outer s0 H0 E) RP Y H s)(he:s0.heap.get? e=none)(Tf:∀T,tb=some T->s0.heap.get? T=none/\H T=none)(hn:H e=none)(q:E (.ref C) dx H)(hT:s0.heap.get? T=none/\H T=none) (k1:∀b o,s.heap.get? b=some o->b∉rg (envOfC qual scope s0.heap.objs.size f cd::outer)->b≠e->tb≠some b->h'.get? b=some o) (k2:∀b o,s.heap.get? b=some o->b∈rg (envOfC qual scope s0.heap.objs.size f cd::outer)->∃sl,h'.get? b=some {o with slots:=sl}) (x':Ji h' e (.ref C) dx (some T)):
  yt P w outer H0 s0 E (.ref e) {s with heap:=h'}:=by
 have Su:=I.lz;have R5:∀b o,H b=some o->∀u,s.heap.get? b=some u->h'.get? b=some u:=λb o hb u hu=>k1 b u hu (λz=>by rw[Su b z]at hb;cases hb) (λz=>by rw[z,hn]at hb;cases hb) (λz=>by rw[(Tf b z).2]at hb;cases hb);have oldf:∀b o,s0.heap.get? b=some o->b∉rg [envOfC qual scope s0.heap.objs.size f cd]:=λb o hb z=>by
  have:b=s0.heap.objs.size:=by have hz:b∈[s0.heap.objs.size]:=z;exact c8.mp hz
  rw[this]at hb;exact absurd (cp hb) (dv _)
 have fr:∀b,b∈rg (envOfC qual scope s0.heap.objs.size f cd::outer)->b∈rg [envOfC qual scope s0.heap.objs.size f cd]\/b∈rg outer:=λb hb=>by
  have hb:b∈s0.heap.objs.size::rg outer:=hb;rcases bT.mp hb with z|z
  .exact .inl (by rw[z];exact ck)
  .exact .inr z
 have Sg:Un (rg outer) [] H0 H s0.heap s.heap:=I.base;refine⟨e,C,dx,H,T,rfl,q,I.os,I.bare,⟨λb o hb h0 nf ne=>?_,λb o hb h0 hf ne=>?_,Sg.free,λb o hb ne=>?_,Sg.lD,Sg.lA,Sg.lE⟩,λb o hb=>?_,x',he,hT.1,hn,hT.2⟩
 .have hs:=Sg.keep b o hb h0 nf ne;refine k1 b o hs (λz=>?_) (λz=>by rw[z,he]at hb;cases hb) λz=>by rw[(Tf b z).1]at hb;cases hb
  rcases fr b z with z|z
  .exact oldf b o hb z
  .exact nf z
 .obtain⟨sl,hs⟩:=Sg.slot b o hb h0 hf ne;have:b∈rg (envOfC qual scope s0.heap.objs.size f cd::outer):=ci _ hf;obtain⟨Ui,h2⟩:=k2 b _ hs this;exact⟨Ui,h2⟩
 .obtain⟨o',hs⟩:=Sg.there b o hb ne;by_cases z:b∈rg (envOfC qual scope s0.heap.objs.size f cd::outer)
  .obtain⟨sl,h2⟩:=k2 b o' hs z;exact⟨_,h2⟩
  .exact⟨o',k1 b o' hs z (λz=>by rw[z,he]at hb;cases hb) λz=>by rw[(Tf b z).1]at hb;cases hb⟩
 .refine(I.lb b o hb).ly (λb' u Ss hu=>?_) (λ_ q=>q) λ_ _ q=>q;rcases Ss with z|z
  .subst z;exact R5 b' o hb u hu
  .exact R5 b' _ z u hu
def Ly{RP:QQY}{Y:St}{H:Hp}{s:Sd}{e C:Addr}{tb dx:Option Addr}(I:Inv (rn (yt P w) P w K mg base N qual scope f cd A outer s0 H0 E) RP Y H s)(hx:Ji s.heap e (.ref C) dx tb)(he:s0.heap.get? e=none)(hT:∀T,tb=some T->s0.heap.get? T=none/\H T=none)(hn:H e=none)(q:E (.ref C) dx H):
  (rn (yt P w) P w K mg base N qual scope f cd A outer s0 H0 E).xe (.ref e) s:=
 JP (base:=base) (outer:=outer) I.ok.frames I.stack rfl hx λh' T tn k1 k2 x'=>Cq I he hT hn q ⟨rW (show Un (rg outer) [] H0 H s0.heap s.heap from I.base) rfl tn,yO I.lb tn⟩ k1 k2 x'
def Mr{RP:QQY}{Y:St}{H:Hp}{s:Sd}{e C T0:Addr}{dx:Option Addr}{F:Vl}(I:Inv (rn (yt P w) P w K mg base N qual scope f cd A outer s0 H0 E) RP Y H s)(hx:B6 s.heap e (.ref C) dx (some T0) F)(he:s0.heap.get? e=none)(hT:s0.heap.get? T0=none/\H T0=none)(hn:H e=none)(q:E (.ref C) dx H):
  (rn (yt P w) P w K mg base N qual scope f cd A outer s0 H0 E).xe (.ref e) s:=
 JK (base:=base) (outer:=outer) I.ok.frames I.stack rfl hx λh' T tn k1 k2 x'=>Cq (tb:=some T0) I he (λT z=>by cases z;exact hT) hn q (by
  rcases tn with tn|rfl
  .exact⟨rW (show Un (rg outer) [] H0 H s0.heap s.heap from I.base) rfl tn,yO I.lb tn⟩
  .exact hT) (λb o hb nf ne nt=>k1 b o hb nf ne λz=>nt (by rw[z])) k2 x'
end
def Ll(K:nz)(C:Addr):Prop:=
 ∃nm q N bs bm bmB hdct sn sub ab col dd k0 k1 k2 k3 k5,∃B Bn Tx nid Tn inN:String,∃bmN,∃mN:QQZ,ExcBaseFacts Bn Tx inN bmN/\bmB.contains (Value.type Bn)=true/\ExcBaseFacts B nid Tn bmB/\bm.contains (Value.type "BaseException")=true/\mN "__init__"=none/\
  ∀h:Heap,K.In h->h.get? C=some (excClassObj nm q C N bs bm hdct sn sub ab col dd k0 k1 k2 k3 k5 Tx)/\h.Ns N mN/\OwnTail h bmB bm
section
variable {E:XK}
def nO:uM (yt P w) (rn (yt P w) P w K mg base N qual scope f cd A outer s0 H0 E) E:=by
 rintro RP Y H s ev s' I ⟨e,C,dx,H',tb,rfl,q,os,bare,un,lb,x,he,ht,ne,nt⟩
 obtain⟨hh,g,d,t,US⟩:=s';obtain rfl:US=s.os:=os;have I':=I.call (h':=hh) (g':=g) (d':=d) (t':=t) (ch:=[]) un lb bare (λb z=>absurd z (by simp));have Sg:Un (rg outer) [] H0 H s0.heap s.heap:=I.base;refine Ly I' x (rW Sg rfl he) (λT eT=>?_) ne q;cases eT;exact⟨rW Sg rfl ht,nt⟩
def FH{X:Cx}(hX:X=rn (yt P w) P w K mg base N qual scope f cd A outer s0 H0 E){C:Addr}{x:Str}{np RX pos:Pos}{e:Expr}{ta:TA}(hC:Ll X.K C)(hg:Gl X x)(hm:X.mg x=some (.ref C))(ha:PA X [e] ta)(hs:starEach [e] X.env=[(false,eval e X.env)]:=by rfl)(Sa:vq x:=by decide):
  PS X (.Raise (some (.Call (.Name x np) [e] [] RX)) none pos) (λ_ Y H=>ta Y H λvs H1=>vs.length<=10/\E (.ref C) none H1):=by
 intro RP s Y H D I h;obtain⟨nm,q,N',bs,bm,bmB,hdct,sn,sub,ab,col,dd,k0,k1,k2,k3,k5,B,Bn,Tx,nid,Tn,inN,bmN,mN,f1,f2,f3,f4,f5,TX⟩:=hC;have hcalm:X.A.handled=none:=I.ok.hd (by rw[hX];rfl);refine wpAny_Raise_call_subU (nm:=nm) (q:=q) (N:=N') (bs:=bs) (hdct:=hdct) (sn:=sn) (sub:=sub) (ab:=ab) (col:=col) (dd:=dd) (k0:=k0) (k1:=k1) (k2:=k2) (k3:=k3) (k5:=k5) f1 f2 f3 f4 hcalm (by rw[hs];rfl) f5 (ud I hg hm ⟨rfl,?_⟩ Sa);rw[hs];refine evalArgs_kwB rfl ?_;have TJ:=ha RX RP s Y H _ I h;rw[hs]at TJ;refine pC TJ λus s1 zz=>x5 zz λvs H1 I1 r1 q1=>?_;refine wpAny_evalAll_nil ?_;obtain⟨c1,c2,c3⟩:=TX s1.heap I1.ls;refine⟨rfl,?_,c1,c2,c3,λh' e' md=>?_⟩
 .have:=r1.length;have hz:=cP;show us.length<=sizeLine;have:=q1.1;lia
 .subst hX;obtain⟨mk,mn,t,mt,_⟩:=md;have I2:Inv _ RP Y H1 {s1 with heap:=h'}:=I1.kept (t':=s1.toks) mk;have Sg:Un (rg outer) [] H0 H1 s0.heap s1.heap:=I1.base;refine Ly I2 (tb:=none) ⟨_,_,mt,rfl,rfl,rfl,(by show 1<6;decide),rfl,λT z=>by cases z⟩ (rW Sg rfl mn) (λT z=>by cases z) ?_ q1.2;cases z:H1 e' with
  | none=>rfl
  | some o=>obtain⟨ob,Vb⟩:=uc (I1.lb e' o z);rw[Vb]at mn;cases mn
end
def RJ(d:Addr)(f:Str)(v:V)(h:Heap):Prop:=∃u,h.Ns1 d (λy=>if y=f then some u else none)/\nW v u
end L2
namespace L3
open L2
abbrev XR:=Addr->Option (Str×D)->Mp->Prop
abbrev sv:=V0 D->Mp->DK->XR->Prop
def OF(K:nz)(H:Hp)(dx:Option Addr)(y:Option (Str×D)):Prop:=(dx=none/\y=none)\/Gc λd f z v=>dx=some d/\y=some (f,z)/\H d=some (.ext (RJ d f v))/\o9 K H z v
def K3(K:nz)(R:XR)(E:XK):Prop:=∀C dx H M y,HM K H M->OF K H dx y->R C y M->E (.ref C) dx H
def QV(K:nz)(sp:sv):Sp:=λvs H Q' E=>Gc λds M Q R=>nq K H ds vs/\HM K H M/\sp ds M Q R/\Up K H Q' Q/\K3 K R E
abbrev Iu(P:Pg)(w:Wo)(K:nz)(mg:QQZ)(base:Heap)(k:Nat)(f:Addr)(fd:FuncData)(ps:QQQ)(sp:sv):Prop:=xg P w K mg base (yt P w) k f fd ps (QV K sp)
variable {X:Cx}{x:Str}{p pos np RX:Pos}{e:Expr}{es:V0 Expr}{t:rM}{k:Nat}{f C:Addr}{fd:FuncData}{ps:QQQ}{sp:sv}{R:XR}{E:XK}
def NI(sp:sv)(R:XR)(t:rM):T3:=λU M Q=>t U M λds M1=>sp ds M1 Q R
def ny(F:Iu X.prog X.w X.K X.mg X.base k f fd ps sp)(hr:pJ k X.A)(hg:Gl X x)(hm:X.mg x=some (.ref f))(hk:W.keepIn X.K (.ref f)=true)(hb:rq X.K fd ps [])(hx:uM (yt X.prog X.w) X E)(hR:K3 X.K R E)(ha:A3 X (e::es) t) (Sa:vq x:=by decide) (he:wj X e es:=by rfl) (Se:wX X pos es:=by rfl):
  E3 X (.Call (.Name x p) (e::es) [] pos) (NI sp R t):=PE.mono (EH F hr hg hm hk hb .nil hx ha Sa he Se) λY H Q' zz=>x7 zz λU M Q hs hm ht k=>
 ⟨U,M,_,hs,hm,ht,λvs H1 ds M1 hd RS e1 q1=>⟨ds,M1,Q,R,by rw[cJ];exact hd,RS,q1,qK e1 k,hR⟩⟩
def Nu(C:Addr)(sp:sv)(R:XR)(t:rM):T3:=λU M Q=>t U M λds M1=>∀x,M1 x=none->sp (.ref x::ds) (mS M1 x (.ins C [])) (λd M2=>d=.k9/\Q (.ref x) M2) R
def GS(cl:Cls X.K C)(Mk':Mk X.K C f)(F:Iu X.prog X.w X.K X.mg X.base k f fd ps sp)(hr:pJ (k+1) X.A)(hg:Gl X x)(hm:X.mg x=some (.ref C))(hb:rq X.K fd ps [])(hx:uM (yt X.prog X.w) X E)(hR:K3 X.K R E)(ha:A3 X (e::es) t) (Sa:vq x:=by decide) (he:wj X e es:=by rfl) (Se:wX X pos es:=by rfl):
  E3 X (.Call (.Name x p) (e::es) [] pos) (Nu C sp R t):=PE.mono (Fm Mk' F hr hg hm hb .nil hx ha Sa he Se) λY H Q' zz=>x7 zz λU M Q hs hm ht k=>
 ⟨U,M,_,hs,hm,ht,λvs H1 ds M1 hd RS e1 q1=>λxa dx n1 n2 ne=>by
  obtain⟨R7,e2⟩:=BZ RS cl n1 n2 ne;refine⟨.ref xa::ds,_,_,R,?_,R7,q1 xa (RS.fresh n1),λv H3 d M3 hd3 Sz e3 q3=>?_,hR⟩
  .rw[cJ];exact .cons .ref (hd.mono e2)
  .obtain⟨z,q3⟩:=q3;subst z;exact⟨hd3.kZ,k _ _ _ _ .ref Sz (e1.trans (e2.trans e3)) q3⟩⟩
variable {P:Pg}{w:Wo}{K:nz}{mg:QQZ}{base:Heap}{N:QQQ}{qual:Str}{scope:Scope}{cd:Vl}{A:Ar}{outer:V0 Env}{s0:Sd}{H0:Hp}{ta:rM}
def Mn(C:Addr)(R:XR)(ta:rM):rO:=λ_ U M=>ta U M λds M1=>ds.length<=10/\R C none M1
def G1(hC:Ll K C)(hg:Gl (rn (yt P w) P w K mg base N qual scope f cd A outer s0 H0 E) x)(hm:mg x=some (.ref C))(hR:K3 K R E)(ha:A3 (rn (yt P w) P w K mg base N qual scope f cd A outer s0 H0 E) [e] ta) (hs:starEach [e] (rn (yt P w) P w K mg base N qual scope f cd A outer s0 H0 E).env=[(false,eval e (rn (yt P w) P w K mg base N qual scope f cd A outer s0 H0 E).env)]:=by rfl) (Sa:vq x:=by decide):
  S3 (rn (yt P w) P w K mg base N qual scope f cd A outer s0 H0 E) (.Raise (some (.Call (.Name x np) [e] [] RX)) none pos) (Mn C R ta):=
 PS.mono (FH rfl hC hg hm ha hs Sa) λD' Y H ⟨U,M,D,hs,hm,ht,_⟩=>⟨U,M,_,hs,hm,ht,λvs H1 ds M1 hd RS e1 q1=>⟨by rw[<-hd.length];exact q1.1,hR C none H1 M1 none RS (.inl ⟨rfl,rfl⟩) q1.2⟩⟩
def PK{x qual:Str}{st:Stmt}{f:Addr}{fd:FuncData}{N ps:QQQ}{k:Nat}{sp:sv}(F:LU K x qual st f fd)(S:qB N ps (nv st))(len:∀ds M Q R,sp ds M Q R->ds.length=ps.length) (Sh:∀(R8:Vl) (A:Ar) (outer:V0 Env) (s:Sd) (H:Hp) (E:XK) (R:XR),pJ k (A.deeper (envOfC qual (nv st) s.heap.objs.size f R8))->K3 K R E->
   ∃t,zP (rn (yt P w) P w K mg base N qual (nv st) f R8 A outer s H E) (pD st) t/\∀ds M Q,sp ds M Q R->t {nx:=λ_ M'=>∃RW,nJ RW M'/\Q .k9 RW,rt:=λd M'=>∃RW,nJ RW M'/\Q d RW} (ug N ds) M):Iu P w K mg base (k+1) f fd ps sp:=by
 obtain⟨oc,od,kV,SK,pm,an,R8,ct,Tb,rfl,lk,SD⟩:=F.ex;refine LL lk SD S (λvs H Q E h=>?_) λA outer s H vs Q' E hr h=>?_
 .obtain⟨ds,M,Q,R,hd,_,hs,_⟩:=h;rw[<-hd.length];exact len ds M Q R hs
 .obtain⟨ds,M,Q,R,hd,hm,hs,k,hR⟩:=h;obtain⟨t,ht,hb⟩:=Sh R8 A outer s H E R hr hR;exact⟨_,ht,ug N ds,M,_,Ao hd,hm,hb ds M Q hs,λσ' H' δ' M' _ x2 x3 _ ⟨RW,y1,y2⟩=>k .k9 H' .k9 RW .k9 (x2.sub y1) x3 y2,λv H' d M' x1 x2 x3 ⟨RW,y1,y2⟩=>k v H' d RW x1 (x2.sub y1) x3 y2,λ_ _ _ _ _ _ _ _ z=>z,λ_ _ _ _ _ _ _ _ z=>z⟩
end L3
namespace L2
def TKept(H H':Hp):Prop:=(∀b xs,H b=some (.tup xs)->H' b=some (.tup xs))/\∀b o u,H b=some (.frz o u)->H' b=some (.frz o u)
def Ou(X:Cx)(RP:QQY)(Y:St)(J:Hp->Prop)(E:XK)(ev:Vl)(s':Sd):Prop:=yZ λH s=>J H/\Inv X RP Y H s/\yt X.prog X.w X.stack H s E ev s'
def Pq(X:Cx)(RP:QQY)(Y:St)(J:Hp->Prop)(E:XK)(ev:Vl)(s':Sd):Prop:=P8 λa C dx H' tb H1 s1=>ev=.ref a/\E (.ref C) dx H'/\Inv X RP Y H' s'/\Ji s'.heap a (.ref C) dx (some tb)/\H' a=none/\H' tb=none/\J H1/\TKept H1 H'/\Inv X RP Y H1 s1/\s1.heap.get? a=none
def Mi{X:Cx}{M:Model}{E₁ E₂:QQX}{RP:QQY}{Y:St}{J:Hp->Prop}{E:XK}{ev:Vl}{s':Sd}{outer:V0 Env}{L:Addr}(h:Ou X RP Y J E ev s')(Sv:X.stack=X.env::outer)(hL:X.env.frame=some L):
  wpAny M X.A (noteFrame ev X.env) (λ_ s₂=>wpAny M X.A (setFlight ev none) (λ_ s₃=>Pq X RP Y J E ev s₃) E₂ s₂) E₁ s':=by
 obtain⟨H,s,jH,I,e,C,dx,H',tb,rfl,q,os,bare,un,lb,x,he,ht,ne,nt⟩:=h;obtain⟨hh,g,d,t,US⟩:=s';obtain rfl:US=s.os:=os;have I':=I.call (h':=hh) (g':=g) (d':=d) (t':=t) (ch:=[]) un lb bare (λb z=>absurd z (by simp));have hF:=I'.stack;have Su:=I'.lz;have TK:=I.ok.frames;rw[Sv]at hF TK;refine EO (base:=X.base) (outer:=outer) TK hF hL x λh' T tn k1 k2 x'=>?_;have R5:∀b o,H' b=some o->∀u,hh.get? b=some u->h'.get? b=some u:=λb o hb u hu=>k1 b u hu (λz=>by rw[Su b (by rw[Sv];exact z)]at hb;cases hb) (λz=>by rw[z,ne]at hb;cases hb) (λz=>by cases z;rw[nt]at hb;cases hb);have un':Un (rg X.stack) [] H H' s.heap h':=by
  refine⟨λb o hb h0 nf nx=>?_,λb o hb h0 hf nx=>?_,un.free,λb o hb nx=>?_,un.lD,un.lA,un.lE⟩
  .exact k1 b o (un.keep b o hb h0 nf nx) (λz=>nf (by rw[Sv];exact z)) (λz=>by rw[z,he]at hb;cases hb) λz=>by cases z;rw[ht]at hb;cases hb
  .obtain⟨sl,hs⟩:=un.slot b o hb h0 hf nx;obtain⟨Ui,h2⟩:=k2 b _ hs (by rw[<-Sv];exact hf);exact⟨Ui,h2⟩
  .obtain⟨o',hs⟩:=un.there b o hb nx;by_cases z:b∈rg (X.env::outer)
   .obtain⟨sl,h2⟩:=k2 b o' hs z;exact⟨_,h2⟩
   .exact⟨o',k1 b o' hs z (λz=>by rw[z,he]at hb;cases hb) λz=>by cases z;rw[ht]at hb;cases hb⟩
 have UZ:uz X.prog X.w H' h':=λb o hb=>(lb b o hb).ly (λb' u Ss hu=>by
  rcases Ss with z|z
  .subst z;exact R5 b' o hb u hu
  .exact R5 b' _ z u hu) (λ_ q=>q) λ_ _ q=>q
 have I3:Inv X RP Y H' {heap:=h',gens:=g,drawn:=d,toks:=t,os:=s.os}:=Inv.call (s:=s) (ch:=[]) I un' UZ bare (λb z=>absurd z (by simp));refine⟨e,C,dx,H',T,H,s,rfl,q,I3,x',ne,?_,jH,⟨un.lD,un.lA⟩,I,he⟩;cases z:H' T with
 | none=>rfl
 | some o=>obtain⟨ob,Vb⟩:=uc (lb T o z);have tn:hh.get? T=none:=tn;rw[Vb]at tn;cases tn
variable {X:Cx}{RP:V0 (Addr × Obj)}{Y σ':St}{H H1:Hp}{s s1:Sd}{ev:Vl}{E':QQX}{a:Addr}
def Inv.adopt{o:HO}(I:Inv X RP Y H s)(I1:Inv X RP σ' H1 s1)(n1:s1.heap.get? a=none)(hn:H a=none)(ok:pj X.prog X.w (upd H a o) s.heap a o):Inv X RP Y (upd H a o) s:=by
 have ne:∀b ob,s1.heap.get? b=some ob->b≠a:=λb ob e z=>by rw[z,n1]at e;cases e
 have nh:∀b ob,H b=some ob->b≠a:=λb ob e z=>by rw[z,hn]at e;cases e
 refine⟨I.ok,I.os,I.bare,⟨I.base.keep,I.base.slot,λb o' e h0 hb=>?_,I.base.there,λb xs e=>?_,λb o' u e=>?_,λb ps e=>?_⟩,I.loc,I.cell,?_,λx c e=>?_,λp hp=>?_,λb ob e=>?_,I.len⟩
 .obtain⟨o2,e2⟩:=I1.base.there b o' e hb;rw[ni (ne b o2 e2)];exact I.base.free b o' e h0 hb
 .have:=I.base.lD b xs e;rw[ni (nh b _ this)];exact this
 .have:=I.base.lA b o' u e;rw[ni (nh b _ this)];exact this
 .obtain⟨more,this⟩:=I.base.lE b ps e;exact⟨more,by rw[ni (nh b _ this)];exact this⟩
 .obtain⟨m,⟨o2,_,_,e2,_⟩,_⟩:=I1.loc;rw[ni (ne _ o2 e2)];exact I.free
 .obtain⟨v,o2,e2,_⟩:=I1.cell x c e;rw[ni (ne _ o2 e2)];exact I.lh x c e
 .obtain⟨e1,e2,e3,e4,e5⟩:=I.pin p hp;exact⟨e1,by rw[ni (ne _ _ (I1.pin p hp).1)];exact e2,e3,e4,e5⟩
 .by_cases z:b=a
  .subst z;rw[m9]at e;cases e;exact ok
  .rw[ni z]at e;exact(I.lb b ob e).ly (λ_ _ _ q=>q) (λb' q=>by rw[ni (nh b' _ q)];exact q) λb' xs q=>by rw[ni (nh b' _ q)];exact q
def Inv.locs{h':Heap}{m':QQZ}(I:Inv X RP Y H s)(hn:h'.Ns X.env.locals m')(hs:Heap.SameBut X.env.locals s.heap h')(hl:σ'.length=X.N.length) (hm:∀m,s.heap.Ns X.env.locals m->(∀(i:Nat) (x:Str) (v:V),X.N[i]?=some x->Y[i]?=some (some v)->L4 X.env.scope x->∃u,nW v u/\Pv X.env s.heap m x u)->∀(i:Nat) (x:Str) (v:V),X.N[i]?=some x->σ'[i]?=some (some v)->L4 X.env.scope x->∃u,nW v u/\((X.env.kindOf x=some .local/\m' x=some u)\/((X.env.kindOf x=some .cell\/X.env.kindOf x=some .free)/\∃c,X.env.cells.lookup x=some c/\s.heap.IsCell c (some u)))):Inv X RP σ' H {s with heap:=h'}:=by
 obtain⟨m,hn0,hl0⟩:=id I.loc;obtain⟨oL,_,_,hoL,_⟩:=id hn0;have my:=I.my;refine⟨I.ok,I.os,I.bare,⟨λb o e n hb hx=>?_,λb o e n hb hx=>?_,I.base.free,λb o e hx=>?_,I.base.lD,I.base.lA,I.base.lE⟩,⟨_,hn,λj y v' e1 e2 e3=>?_⟩,λy c e=>?_,I.free,I.lh,λp hp=>?_,λb ob e=>?_,hl⟩
 .exact(hs.2 b (cI (cF (cp e) I.ok.above))).trans (I.base.keep b o e n hb hx)
 .obtain⟨sl,e1⟩:=I.base.slot b o e n hb hx;exact⟨sl,(hs.2 b (cI (cF (cp e) I.ok.above))).trans e1⟩
 .obtain⟨o',e1⟩:=I.base.there b o e hx;exact⟨o',(hs.2 b (cI (cF (cp e) I.ok.above))).trans e1⟩
 .obtain⟨u,r,q⟩:=hm m hn0 hl0 j y v' e1 e2 e3;refine⟨u,r,?_⟩;rcases q with q|⟨k,c,e,z⟩
  .exact .inl q
  .exact .inr ⟨k,c,e,z.sameBut hs (my y c e)⟩
 .obtain⟨w',z⟩:=I.cell y c e;exact⟨w',z.sameBut hs (my y c e)⟩
 .obtain⟨e,n,ne,nf,d⟩:=I.pin p hp;exact⟨(hs.2 p.1 ne).trans e,n,ne,nf,d⟩
 .refine(I.lb b ob e).ly (λc w' hc q=>(hs.2 c ?_).trans q) (λ_ q=>q) λ_ _ q=>q
  rintro rfl
  rcases hc with hc|hc
  .rw[<-hc,I.free]at e;cases e
  .rw[I.free]at hc;cases hc
def vk{M:Model}{A:Ar}{E:QQX}{i:Nat}{n:Str}{pos:Pos}{Q:Unit->Sd->Prop}(I:Inv X RP Y H s)(hN:X.N.Nodup)(hi:X.N[i]?=some n)(hk:X.env.scope.names.lookup n=some .local) (h:∀s',Inv X RP (Y.set i none) H s'->Q () s'):wpAny M A (do
   bindName X.env n Value.none
   unbindBehindTheSuite X.env n pos) Q E s:=by
 have hiσ:i<Y.length:=by rw[I.len];exact(bW.mp hi).1
 refine bQ (wpAny_bindName (so (v:=.k9) I hN hi (.inl hk) rfl (λs1 I1=>?_) (.inr hk)));have UR:(X.env.scope.kind==.class||(X.env.scope.kind==.module&&X.env.locals != X.env.globals))=false:=by rw[I.ok.kind];rfl
 obtain⟨m,hn,hl⟩:=id I1.loc;obtain⟨u,ru,lk⟩:=hl i n .k9 hi (by rw[dX hiσ]) (.inl hk);have em:m n=some u:=by
  rcases lk with⟨_,e⟩|⟨k,_⟩
  .exact e
  .have Um:X.env.kindOf n=some .local:=hk;rw[Um]at k;rcases k with k|k<;>cases k
 unfold unbindBehindTheSuite;refine gK (wpAny_unbindName_local hk hn em UR λh' u' Ts hs=>h _ ?_);refine I1.locs Ts hs (by simpa using I.len) λm2 R7 hl2 j y v' e1 e2 e3=>?_;have hj:j≠i:=λz=>by subst z;rw[dX hiσ]at e2;cases e2
 rw[eQ (cH hj)]at e2;obtain⟨u2,r2,q2⟩:=hl j y v' e1 (by rw[eQ (cH hj)];exact e2) e3;refine⟨u2,r2,?_⟩;rcases q2 with⟨k,e⟩|q2
 .refine .inl ⟨k,?_⟩;have:y≠n:=λe=>hj (zb hN e1 (e ▸ hi));simp[this,e]
 .exact .inr q2
noncomputable def Cx.marked(X:Cx)(ev:Vl)(E:QQX):Cx:={X with A:=X.A.mark (some ev),calm:=false,xe:=E}
def Inv.mark(I:Inv X RP Y H s):Inv (X.marked ev E') RP Y H s:=
 ⟨⟨I.ok.mod,I.ok.kind,I.ok.glob,I.ok.blt,I.ok.above,I.ok.inj,I.ok.has,I.ok.l8,(λz=>by cases z),I.ok.frames,I.ok.mo,I.ok.mz,I.ok.bs,I.ok.lV,I.ok.lM,I.ok.lT,I.ok.lC,I.ok.lZ⟩,I.os,I.bare,I.base,I.loc,I.cell,I.free,I.lh,I.pin,I.lb,I.len⟩
def Inv.unmark(ok:X.Ok)(I:Inv (X.marked ev E') RP Y H s):Inv X RP Y H s:=⟨ok,I.os,I.bare,I.base,I.loc,I.cell,I.free,I.lh,I.pin,I.lb,I.len⟩
def SP.unmark(ok:X.Ok){D:yd}{f:Flow}(h:SP (X.marked ev E') RP D f s):SP X RP D f s:=by
 cases f with
 | next=>obtain⟨a,b,I,q⟩:=h;exact⟨a,b,I.unmark ok,q⟩
 | brk=>obtain⟨a,b,I,q⟩:=h;exact⟨a,b,I.unmark ok,q⟩
 | cont=>obtain⟨a,b,I,q⟩:=h;exact⟨a,b,I.unmark ok,q⟩
 | ret v=>obtain⟨a,b,c,I,q⟩:=h;exact⟨a,b,c,I.unmark ok,q⟩
def y8{M:Model}{h:Heap}{a:Addr}{o:Obj}(ho:h.get? a=some o):W.Looks M h (typeOf (.ref a)) o.cls:=by intro A Q E s k q;unfold typeOf;exact bQ (wpAny_load (k a o ho) (cf q))
def CY{M:Model}{A:Ar}{E:QQX}{a C T:Addr}{Q:Unit->Sd->Prop}{dx:Option Addr}(x:Ji s.heap a (.ref C) dx (some T))(h:∀h':Heap,(∀b,h'.get? b=s.heap.get? b)->Q () {s with heap:=h'}):wpAny M A (setFlight (.ref a) none) Q E s:=by
 obtain⟨oe,vs,ho,hc,_,hd,h1,hv,hT⟩:=x;obtain⟨nTe,oT,ts,SM,Tj,h3,hn⟩:=hT T rfl;unfold setFlight;refine bQ (dq ho hd hv ?_);rw[b9 (by rfl)];refine fU SM Tj h3 (h _ λb=>?_);by_cases z:T=b
 .subst z;obtain⟨oc,od,Va,Tb⟩:=oT;obtain rfl:Va=.fields ts:=Tj;rw[d6 _ SM rfl,SM];show some (Obj.mk oc od (.fields (ts.setIfInBounds 3 .none)) Tb)=_;have:ts.setIfInBounds 3 .none=ts:=by
   apply Array.ext
   .simp
   .intro i h1 h2;rw[Array.getElem_setIfInBounds];split
    .rename_i e;subst e;rw[Array.getElem?_eq_getElem h3]at hn;exact(ce hn).symm
    .rfl
  rw[this]
 .exact eG _ _ z
def NC(X:Cx)(e:Expr)(t:St->Hp->VK->(Hp->Prop)->XK->Prop):Prop:=∀(RP:QQY) (s:Sd) (Y:St) (H:Hp) (Q:VK) (J:Hp->Prop) (E:XK),Inv X RP Y H s->t Y H Q J E->wpAny (model X.prog X.w) X.A (eval e X.env) (EP X RP Y Q) (Ou X RP Y J E) s
def Rt(X:Cx)(st:Stmt)(t:yd->St->Hp->(Hp->Prop)->XK->Prop):Prop:=∀(RP:QQY) (s:Sd) (Y:St) (H:Hp) (D:yd) (J:Hp->Prop) (E:XK),Inv X RP Y H s->t D Y H J E->wpAny (model X.prog X.w) X.A (exec st X.env) (SP X RP D) (Ou X RP Y J E) s
def J7{X:Cx}{i:Nat}{x:Str}{e:Expr}{te:St->Hp->VK->(Hp->Prop)->XK->Prop}{pos R1:Pos}(hN:X.N.Nodup)(hi:X.N[i]?=some x)(hx:Bo X.env.scope x)(he:NC X e te)(hs:swapsWith e (some (.Name x R1)) pos.line X.env=pure false:=by rfl)(hf:BP X x:=by first|exact .inl rfl|exact .inr rfl|assumption):
  Rt X (.Assign [.Name x R1] e pos) (λD Y H J E=>te Y H (λv H'=>D.nx (Y.set i (some v)) H') J E):=by
 intro RP s Y H D J E I h;refine gG (pC (he RP s Y H _ J E I h) λv s1 zz=>x5 zz λy H1 I1 r1 q1=>?_) hs;exact so I1 hN hi hx r1 (λs2 I2=>⟨_,H1,I2,q1⟩) hf
variable {k:Nat}{f C:Addr}{fd:FuncData}{ps:QQQ}{sp:Sp}{SN:V0 V}{ds:V0 Vl}{m:Str}{p pos RT:Pos}{e o:Expr}{es:V0 Expr}{t:TA}
section
variable {x:Str}
def Hh(F:xg X.prog X.w X.K X.mg X.base (yt X.prog X.w) k f fd ps sp)(hr:pJ k X.A)(hg:Gl X x)(hm:X.mg x=some (.ref f))(hk:W.keepIn X.K (.ref f)=true)(hb:rq X.K fd ps ds)(hd:nI SN ds) (ha:PA (X.lQ λ_ _=>False) (e::es) t) (Sa:vq x:=by decide) (he:wj X e es:=by rfl) (Se:wX X pos es:=by rfl):
  NC X (.Call (.Name x p) (e::es) [] pos) (λY H Q J E=>t Y H λvs H1=>J H1/\sp (vs++SN) H1 Q E):=by
 intro RP s Y H Q J E I h;refine eK (ud I hg hm ?_ Sa);refine iE (h₀:=X.base) I.ok.mod.mi hk (de (ha pos RP s Y H _ I.lQ h) (λus s1 ⟨vs,H1,I1,r,jH,q⟩=>⟨I1.ls,?_⟩) λ_ _ z=>z.elim) he Se;have I1:=I1.xeOf;have r2:nI (vs++SN) (us++ds):=r.append hd;have hl:(us++ds).length=ps.length:=by rw[<-r2.length];exact F.len _ _ _ _ q
 refine gT (fS (F.run X.A X.stack s1 H1 ⟨us,[]⟩ (us++ds) (vs++SN) Q E hr I1.l7 (hb s1 us I1.ls hl) r2 q) λr s' hq=>?_);cases r with
 | error e=>exact⟨H1,s1,jH,I1,hq⟩
 | ok fl=>
  cases fl with
  | ret u=>exact I1.after hq
  | next=>exact False.elim hq
  | brk=>exact False.elim hq
  | cont=>exact False.elim hq
end
def MW{P:Pg}{w:Wo}{H:Hp}{h:Heap}{a C:Addr}(x:tH a C h):pj P w H h a (.ext (tH a C)):=by refine⟨x,?_,λh1 h2 ⟨oe,vs,e1,e2,e3,e4⟩ k=>⟨oe,vs,k oe e1,e2,e3,e4⟩⟩;obtain⟨oe,_,e,_⟩:=x;exact⟨oe,e⟩
def Ii{X:Cx}{st b₀:Stmt}{SQ:V0 Stmt}{cn n:Str}{cnp TF pos:Pos}{Cc L:Addr}{outer:V0 Env}{i:Nat}{t:yd->St->Hp->(Hp->Prop)->XK->Prop}{th:TS}(hb:Rt X st t)(Sv:X.stack=X.env::outer)(hL:X.env.frame=some L)(hg:Gl X cn)(hm:X.mg cn=some (.ref Cc)) (hN:X.N.Nodup) (hi:X.N[i]?=some n) (hk:X.env.scope.names.lookup n=some .local) (hs:∀ev E',yk (X.marked ev E') (b₀::SQ) th) (Sa:vq cn:=by decide):
  PS X (.Try [st] [.ExceptHandler (some (.Name cn cnp)) (some n) (b₀::SQ) TF] [] [] pos) (λD Y H=>∃(J:Hp->Prop) (E:XK),t D Y H J E/\∀C dx H1 H',J H1->TKept H1 H'->E (.ref C) dx H'->dx=none/\W.exmOne X.K (.ref C) (.ref Cc)=some true/\
   ∀a,H' a=none->th {nx:=λσ' H2=>D.nx (σ'.set i none) H2,rt:=D.rt,bk:=λσ' H2=>D.bk (σ'.set i none) H2,ct:=λσ' H2=>D.ct (σ'.set i none) H2} (Y.set i (some (.ref a))) (upd H' a (.ext (tH a C)))):=by
 intro RP s Y H D I ⟨J,E,h,hh⟩;refine wpAny_Try_except (de (Q:=λf s'=>SP X RP D f s') (fY (pC (hb RP s Y H D J E I h) λf s1 q=>?_)) (λf s1 q=>?_) λev s1 x=>?_)
 .cases f with
  | next=>exact fM q
  | brk=>exact q
  | cont=>exact q
  | ret v=>exact q
 .cases f with
  | next=>exact fM q
  | brk=>exact q
  | cont=>exact q
  | ret v=>exact q
 .refine de (Mi x Sv hL) (λ_ s2 y=>pC y λ_ s3 z=>?_) λ_ _ z=>z;obtain⟨a,C,dx,H',tb,H1,s1,rfl,q,I3,x3,na,nt,jH,tk,I1,n1⟩:=z;obtain⟨rfl,RS,h1⟩:=hh C dx H1 H' jH tk q;refine wpAny_handleBy_cons (codeAny_handlers_test (ud (X:=X.marked (.ref a) λ_ _=>False) I3.mark hg hm ?_ Sa)) (by intro z;cases z);obtain⟨oe,vs,ho,hc,TL,hd,_⟩:=id x3;refine W.exm_one I3.ls (y8 ho) (by rw[hc];exact RS) _ _ _ _ (λ_ _ z=>z) ?_;refine codeAny_handlers_suite_as (CY x3 λh' hh'=>?_);have I4:Inv X RP Y H' {s3 with heap:=h'}:=I3.kept (t':=s3.toks) λb u z=>by rw[hh' b];exact z
  have I5:Inv X RP Y (upd H' a (.ext (tH a C))) {s3 with heap:=h'}:=I4.adopt I1 n1 na (MW ⟨oe,vs,by show h'.get? a=_;rw[hh' a];exact ho,hc,hd,TL⟩);refine so (v:=.ref a) I5 hN hi (.inl hk) rfl (λs6 I6=>?_) (.inr hk);refine de (hs (.ref a) _ RP _ _ _ _ I6.mark (h1 a na)) (λf s7 q7=>?_) λ_ _ z=>z;have q7:=SP.unmark I.ok q7;cases f with
  | next=>obtain⟨σ',H2,I7,q⟩:=q7;exact vk I7 hN hi hk λs8 I8=>⟨_,H2,I8,q⟩
  | brk=>obtain⟨σ',H2,I7,q⟩:=q7;exact vk I7 hN hi hk λs8 I8=>⟨_,H2,I8,q⟩
  | cont=>obtain⟨σ',H2,I7,q⟩:=q7;exact vk I7 hN hi hk λs8 I8=>⟨_,H2,I8,q⟩
  | ret v=>obtain⟨y,σ',H2,I7,r,q⟩:=q7;exact vk I7 hN hi hk λs8 I8=>⟨y,_,H2,I8,r,q⟩
structure we(K:nz)(C:Addr):Prop where
 hd:(W.clsIn K C).isSome=true
 ga:W.findIn K (.ref C) "__getattribute__"=some (some (.builtin "BaseException.__getattribute__"))
 gt:W.findIn K (.ref C) "__getattr__"=some none
 ha:W.findIn K (.ref C) "__class__"=some (some (.builtin "object.__class__"))
 hn:W.specialIn K (.builtin "object.__class__") "__get__"=some (some (.builtin "getset_descriptor.__get__"))
 mC:W.takesIn K (.builtin "object.__class__")=some true
 hm:W.mroIn K C (.type "object")=some true
 hb:W.mroIn K C (.type "BaseException")=some true
def Ka:builtinKind "BaseException.__getattribute__"=some Manifest.AttrKind.slot:=by decide+kernel
def Ht:splitId "BaseException.__getattribute__"=some ("BaseException","__getattribute__"):=by decide+kernel
variable {prog:Pg}{w:Wo}{A:Ar}{E:QQX}{K:nz}{ox:Obj}
section
variable {x:Addr}
def IV{UL:Vl}{Q:Unit->Sd->Prop}{M:Model}(c:we K C)(X:K.In s.heap)(hx:s.heap.get? x=some ox)(hc:ox.cls=.ref C)(hq:Q () s):wpAny M A (checkBuiltinCall "BaseException.__getattribute__" {pos:=[Value.ref x,UL]}) Q E s:=by
 unfold checkBuiltinCall;simp only[Ka,Ht];unfold isInstance;refine bQ (bQ ?_);refine(y8 hx).at ?_;rw[hc];refine(W.looks_mroIn X c.hb).at ?_;rw[bV (by decide)];have ha:=F.args_bexc_ga (Value.ref x) UL;unfold argsOk at ha;have:∀t:Sem Unit,t=pure ()->wpAny M A t Q E s:=λt z=>by rw[z];exact cf hq
 exact this _ ha
def D4{od:Option Obj}(c:we K C):W.findObj K C od "__class__"=some (.bind (.builtin "getset_descriptor.__get__") (.builtin "object.__class__")):=by unfold W.findObj;obtain⟨cd,SD⟩:=dO.mp c.hd;rw[SD,c.ha];simp only[Option.bind_some,c.hn,c.mC]
def Jg{tk:Tok}{Q:PySem.Fin->Sd->Prop}(c:we K C)(X:K.In s.heap){od:Option Obj}(I:W.InstAt s.heap x ox C od)(h:Q (.done (.ret (.ref C))) s):wpAny (model prog w) A (Builtin.«object.__getattribute__» {pos:=[.ref x,.str "__class__" tk]}) Q E s:=by have L0:=I.type (M:=model prog w);unfold Builtin.«object.__getattribute__» slotArgs;refine bQ ?_;rw[bV (by simp)];dsimp only;rw[bV (by simp)];refine cf ?_;dsimp only;refine bQ ?_;unfold Builtin.ObjectAttr.attrName;refine cf (bQ (L0.at (bQ ((W.looks_find X I (D4 c)).at ?_))));dsimp only;unfold Builtin.ObjectAttr.bindTo;dsimp only;refine bQ (dA (gT (W.class_get X I c.hm ?_)));exact cf h
def FU{Q:Option Vl->Sd->Prop}(c:we K C)(X:K.In s.heap){od:Option Obj}(I:W.InstAt s.heap x ox C od)(h:Q (some (.ref C)) {s with toks:=s.toks+1}):wpAny (model prog w) A (getAttr? (.ref x) "__class__") Q E s:=by have L0:=I.type (M:=model prog w);unfold getAttr?;refine bQ (wpAny_mkText ?_);unfold getAttrBy?;refine bQ (iq ?_);unfold getAttrBy;refine dA (bQ (L0.at (bQ ((jc X c.ga).at ?_))));dsimp only;rw[bV (by simp)];unfold getAttrByItsOwn;refine bQ ?_;unfold hookBefore;rw[b9 (by rfl)];refine(jc X c.gt).at (bQ (iq (dA ?_)));unfold callGetattribute;rw[bV (by simp)];unfold boundAndCalled;refine bQ ?_;rw[jh.ga.bind (.ref x)];refine cf ?_;refine gT (js jh.ga.plain F.entry_bexc_ga (IV c X I.at_ I.cls ?_));exact Jg c X I (W.handed_on rfl (cf h))
def G7(c:we K C):W.KitX K (.ref x) (.ref C) (λh=>yZ λox od=>W.InstAt h x ox C od) where
 ty:=λM h _ ⟨_,_,I⟩=>I.type
 it:=λM h X _=>by
  obtain⟨cd,SD⟩:=dO.mp c.hd;unfold W.clsIn at SD;split at SD
  .rename_i heq;intro A Q E s k q;unfold isType;exact bQ (wpAny_loadPart (k C _ (X C _ heq)) (cf q))
  .cases SD
 ne:=λh tp dd its n sl X htp=>by
  obtain⟨cd,SD⟩:=dO.mp c.hd;unfold W.clsIn at SD;split at SD
  .rename_i heq;refine cE.mpr λq=>?_;have e:=Value.ref.inj (dr.mp q);subst e;have z:=(X C _ heq).symm.trans htp;cases z
  .cases SD
 ca:=λX ⟨_,_,I⟩ h=>FU c X I h
end
end L2
namespace L3
open L2
theorem _root_.L2.TKept.ext{K:nz}{H H':Hp}(h:TKept H H'):nX K H H':=⟨λa xs q=>by
 rcases q with(q|⟨u,q⟩)|q
 .exact .inl (.inl (h.1 a xs q))
 .exact .inl (.inr ⟨u,h.2 a u _ q⟩)
 .exact .inr q,λa o xs q=>h.2 a o _ q⟩
abbrev LA:=rH->Mp->DK->XR->Prop
def Rz(K:nz)(t:LA):St->Hp->VK->(Hp->Prop)->XK->Prop:=λY H Q' J E=>Gc λU M Q R=>vO K H Y U/\HM K H M/\t U M Q R/\(∀v H' d M',o9 K H' d v->HM K H' M'->nX K H H'->Q d M'->Q' v H')/\(∀H1,nX K H H1->J H1)/\K3 K R E
def Qe(X:Cx)(e:Expr)(t:LA):Prop:=NC X e (Rz X.K t)
def NC.mono{X:Cx}{e:Expr}{t t':St->Hp->VK->(Hp->Prop)->XK->Prop}(h:NC X e t)(m:∀Y H Q J E,t' Y H Q J E->t Y H Q J E):NC X e t':=λRP s Y H Q J E I q=>h RP s Y H Q J E I (m Y H Q J E q)
variable {X:Cx}{x:Str}{p pos np RX:Pos}{e:Expr}{es:V0 Expr}{t:rM}{k:Nat}{f C:Addr}{fd:FuncData}{ps:QQQ}{sp:sv}
def uQ(F:Iu X.prog X.w X.K X.mg X.base k f fd ps sp)(hr:pJ k X.A)(hg:Gl X x)(hm:X.mg x=some (.ref f))(hk:W.keepIn X.K (.ref f)=true)(hb:rq X.K fd ps [])(ha:A3 (X.lQ λ_ _=>False) (e::es) t) (Sa:vq x:=by decide) (he:wj X e es:=by rfl) (Se:wX X pos es:=by rfl):
  Qe X (.Call (.Name x p) (e::es) [] pos) (λU M Q R=>t U M λds M1=>sp ds M1 Q R):=NC.mono (Hh F hr hg hm hk hb .nil ha Sa he Se) λY H Q' J E ⟨U,M,Q,R,hs,hm,ht,k,kJ,kR⟩=>
 ⟨U,M,_,hs,hm,ht,λvs H1 ds M1 hd RS e1 q1=>⟨kJ H1 e1,ds,M1,Q,R,by rw[cJ];exact hd,RS,q1,qK e1 k,kR⟩⟩
variable {b₀:Stmt}{SQ:V0 Stmt}{cn n:Str}{cnp TF RT Vc:Pos}{Cc L:Addr}{outer:V0 Env}{i ix:Nat}{te:LA}{th:rO}
def Nc(K:nz)(ix i:Nat)(Cc:Addr)(te:LA)(th:rO):rO:=λD U M=>∃R,te U M (λd M1=>D.nx (U.set ix (some d)) M1) R/\∀C y M',R C y M'->y=none/\W.exmOne K (.ref C) (.ref Cc)=some true/\
 ∀a,M' a=none->th {nx:=λδ' M2=>D.nx (δ'.set i none) M2,rt:=D.rt,bk:=λδ' M2=>D.bk (δ'.set i none) M2,ct:=λδ' M2=>D.ct (δ'.set i none) M2} (U.set i (some (.ref a))) (mS M' a (.exc (tH a C)))
def vO.unset{K:nz}{H:Hp}{Y:St}{U:rH}{i:Nat}(h:vO K H Y U):vO K H (Y.set i none) (U.set i none):=λj e q=>by
 by_cases hj:j=i
 .subst hj;by_cases hl:j<U.length
  .rw[dX hl]at q;cases q
  .rw[fT (by simpa using hl)]at q;cases q
 .rw[eQ (cH hj)]at q ⊢;exact h j e q
def IL(he:Qe X e te)(Sv:X.stack=X.env::outer)(hL:X.env.frame=some L)(hg:Gl X cn)(hm:X.mg cn=some (.ref Cc))(hN:X.N.Nodup)(TH:X.N[ix]?=some x)(hx:X.env.scope.names.lookup x=some .local)(hi:X.N[i]?=some n)(hk:X.env.scope.names.lookup n=some .local) (hs:∀ev E',zP (X.marked ev E') (b₀::SQ) th) (Sa:vq cn:=by decide) (SH:swapsWith e (some (.Name x Vc)) RT.line X.env=pure false:=by rfl):
  S3 X (.Try [.Assign [.Name x Vc] e RT] [.ExceptHandler (some (.Name cn cnp)) (some n) (b₀::SQ) TF] [] [] pos) (Nc X.K ix i Cc te th):=
 PS.lG (Ii (th:=GU X.K th) (J7 hN TH (.inl hx) he SH (.inr hx)) Sv hL hg hm hN hi hk hs Sa) λD' Y H hl ⟨U,M,D,hs,hm,⟨R,ht,hh⟩,k1,k2,k3,k4⟩=>by
  refine⟨λH1=>nX X.K H H1,λcv d H'=>∃C M' y,cv=.ref C/\HM X.K H' M'/\OF X.K H' d y/\R C y M',⟨U,M,_,R,hs,hm,ht,λv H1 d M1 hd RS e1 q1=>?_,λ_ z=>z,λC dx H' M' y h1 h0 h2=>⟨C,M',y,rfl,h1,h0,h2⟩⟩,λC dx H1 H' jH tk ⟨C',M',y,ec,Tw,TL,r⟩=>?_⟩
  .exact k1 _ H1 _ M1 ((hs.mono e1).set hd (by rw[hl];exact(bW.mp TH).1)) RS e1 (by simp) q1
  .cases ec;obtain⟨r0,r1,r2⟩:=hh C y M' r;have dn:dx=none:=by
    rcases TL with z|⟨d,f,z,v,_,e,_⟩
    .exact z.1
    .rw[r0]at e;cases e
   refine⟨dn,r1,λa na=>?_⟩;have e1:nX X.K H H':=jH.trans (L2.TKept.ext tk);have e2:nX X.K H' (upd H' a (.ext (tH a C))):=.new na;refine⟨_,_,_,((hs.mono e1).mono e2).set (.ref (i:=a)) (by rw[hl];exact(bW.mp hi).1),Tw.new (c:=.exc (tH a C)) na m9,r2 a (Tw.fresh na),λσ2 H2 δ2 M2 y1 y2 y3 y4 y5=>?_,λv H2 d M2 y1 y2 y3 y5=>?_,λσ2 H2 δ2 M2 y1 y2 y3 y4 y5=>?_,λσ2 H2 δ2 M2 y1 y2 y3 y4 y5=>?_⟩
   .exact k1 _ H2 _ M2 y1.unset y2 (e1.trans (e2.trans y3)) (by simpa using y4) y5
   .exact k2 _ H2 _ M2 y1 y2 (e1.trans (e2.trans y3)) y5
   .exact k3 _ H2 _ M2 y1.unset y2 (e1.trans (e2.trans y3)) (by simpa using y4) y5
   .exact k4 _ H2 _ M2 y1.unset y2 (e1.trans (e2.trans y3)) (by simpa using y4) y5
def NJ(M:Mp)(a C:Addr):Option (Addr×(Heap->Prop))->Prop
 | none=>M a=some (.exc (tH a C))
 | some (d,φ)=>M a=some (.exc (Q5 a C d))/\M d=some (.exc φ)
def NJ.inst{P:Pg}{w:Wo}{K:nz}{H:Hp}{M:Mp}{h:Heap}{a C:Addr}{dx:Option (Addr×(Heap->Prop))}(e:NJ M a C dx)(hm:HM K H M)(ok:uz P w H h):yZ λox od=>W.InstAt h a ox C od:=by
 match dx,e with
 | none,e=>obtain⟨⟨oe,vs,e1,e2,e3,e4⟩,_⟩:=ok a _ (hm a _ e);exact⟨oe,none,e1,e2,by unfold W.notCls;rw[e3],by rw[e4];trivial⟩
 | some (d,φ),e=>obtain⟨⟨oe,vs,e1,e2,e3,e4⟩,_⟩:=ok a _ (hm a _ e.1);obtain⟨_,⟨od,g⟩,_⟩:=ok d _ (hm d _ e.2);exact⟨oe,some od,e1,e2,by unfold W.notCls;rw[e3],by rw[e4];exact g⟩
def vB(K:nz)(ds:V0 D)(M:Mp)(Q:DK):Prop:=match ds with
 | [.ref a,c]=>yZ λC dx=>NJ M a C dx/\we K C/\(Nl c).elim False λcv=>(W.kitOne K (.ref C) cv).elim False λb=>Q (.bl b) M
 | _=>False
def Dp{X:Cx}:C3 X (.builtin "isinstance") (vB X.K):=by
 intro RP s Y H vs us Q' I rv h;obtain⟨ds,M,Q,hd,hm,q,k⟩:=h;unfold vB at q;split at q
 .rename_i a c;obtain⟨v,u,rfl,hv,hw⟩:=tT hd
  .obtain⟨C,dx,ea,hC,q⟩:=q;obtain⟨cv,ec,q⟩:=nU q;obtain⟨b,eb,qb⟩:=nU q;obtain⟨uv,uw,rfl,T1,rv2⟩:=yM rv;have ecv:uw=cv:=by
    cases c with
    | ref C=>cases hw.kX;cases ec;exact rv2
    | ty n=>cases hw.lK;cases ec;exact rv2
    | _=>cases ec
   subst ecv;cases hv.kX;cases T1;exact eJ (G7 hC) I.ls (ea.inst hm I.lb) eb (λz=>nomatch z) λtk=>⟨.bl b,H,I.tok tk,rfl,k _ _ _ _ .bl hm .refl qb⟩
 .exact q.elim
end L3
namespace L2
noncomputable def zc(es:Array DictEntry):Bool:=es.toList.all λe=>match e.key with|.str _ _=>true|_=>false
def zt{es:Array DictEntry}(h:zc es=true):StrKeys es:=λe he=>by
 have:=cL.mp h e (jo.mpr he);cases z:e.key with
 | str n t=>exact⟨n,t,rfl⟩
 | _=>rw[z]at this;cases this
abbrev Pr:V0 Vl:=[.type "ValueError",.type "Exception",.type "BaseException",.type "object"]
def Kg{K:nz}{C C2 N:Addr}{nm q:Str}{bs sub:V0 Vl}{hdct ab:Bool}{sn:QQQ}{col:Option Bool}{dd od1 od2 dd2:Option Addr}{k0 k1 k2 k3 k5:Option Vl}{oc1 oc2 c0:Vl}{es1 es2:Array DictEntry}{ep1 ep2:Nat}{sl1 sl2 QG:Array (Option Vl)}{cd2:ClassData} (l1:K.lookup C=some (excClassObj nm q C N bs (.ref C2::Pr) hdct sn sub ab col dd k0 k1 k2 k3 k5 "ValueError.__new__")) (n1:K.lookup N=some ⟨oc1,od1,.dict es1 ep1,sl1⟩) (s1:zc es1=true) (i1:nsFind es1 "__init__"=none) (l2:K.lookup C2=some ⟨c0,dd2,.cls cd2,QG⟩) (n2:K.lookup cd2.ns=some ⟨oc2,od2,.dict es2 ep2,sl2⟩) (s2:zc es2=true) (i2:nsFind es2 "__init__"=none):Ll K C:=by
 refine⟨nm,q,N,bs,.ref C2::Pr,Pr,hdct,sn,sub,ab,col,dd,k0,k1,k2,k3,k5,"ValueError","ValueError","ValueError.__new__","ValueError.__new__","ValueError.__init__","ValueError.__init__",Pr,λn=>nsFind es1 n,jx,by decide+kernel,jx,?_,i1,λh X=>⟨X C _ l1,⟨_,es1,ep1,X N _ n1,rfl,zt s1,λ_=>rfl⟩,.own (X C2 _ l2) ⟨_,es2,ep2,X _ _ n2,rfl,zt s2,λ_=>rfl⟩ i2 .base⟩⟩;rw[jV];have:Pr.contains (.type "BaseException")=true:=by decide+kernel
 rw[this,Bool.or_true]
def Km{K:nz}{t:Vl}{C:Addr}{cd:ClassData}{b:Bool}(q0:W.subIn K (.ref C) (.type "BaseException")=some true)(q1:W.clsIn K C=some cd)(q2:W.typeIn K (.ref C)=some (.type "type"))(s:W.subIn K t (.ref C)=some b):W.exmOne K t (.ref C)=some b:=by unfold W.exmOne;rw[q0,b9 (by rfl)];unfold W.kitCls;simp only;rw[q1,q2,b9 (by rfl)];exact s
end L2
namespace L3
open L2
def Ag:W.kitMeta "ValueError"=true:=by decide+kernel
def Aa:bootBuiltins "ValueError"=some (.type "ValueError"):=by decide+kernel
theorem wt{α:Type}{g:zK}{tb:rO}{ok:Mp->Prop}{E:yE}(f:α->D)(Vd:α->Prop)(J:rH->Mp->Prop)(lb:∀U M,J U M->ok M):∀(ds:List α) (U:rH) (M:Mp),J U M->
  (∀d∈ds,∀U M,J U M->∀nx:rH->Mp->Prop,(Vd d->∀δ' M',J δ' M'->nx δ' M')->g (f d) U M λδ2 M2=>tb {E with nx:=nx,ct:=nx,bk:=E.nx} δ2 M2)->((∀d∈ds,Vd d)->∀U M,J U M->E.nx U M)->zQ g tb ok E (ds.map f) U M
 | [],U,M,j,_,hn=>hn (λ_ z=>absurd z (bY)) U M j
 | d::r,U,M,j,ht,hn=>ht d ck U M j (λδ' M'=>ok M'/\zQ g tb ok E (r.map f) δ' M') λgd δ' M' j'=>⟨lb δ' M' j',wt f Vd J lb r δ' M' j' (λe he=>ht e (ci _ he)) λh=>hn λe he=>by
  rcases bT.mp he with z|z
  .rw[z];exact gd
  .exact h e z⟩
def NR(x y:D)(M:Mp)(Q:DK):Prop:=match x,y with
 | .int i,.int j=>Le i j/\Q (.int (i ^ j.toNat)) M
 | _,_=>False
def MN{X:Cx}:ul X (binaryOp .Pow) (R3 X.K NR):=λRP s Y H vx vy v u Q' I rx ry h=>by
 obtain⟨x,y,M,Q,hx,hy,hm,q,k⟩:=h;unfold NR at q;split at q
 .cases hx.int_inv;cases hy.int_inv;exact L1 RP s Y H _ _ v u Q' I rx ry ⟨_,_,rfl,rfl,q.1,k _ _ _ _ .int hm .refl q.2⟩
 .exact q.elim
def QQ(ta tb:T3):T3:=λU M Q=>ta U M λx M1=>tb U M1 λy M2=>NR x y M2 Q
def NB{X:Cx}{a b:Expr}{ta tb:T3}{pos:Pos}(ha:E3 X a ta)(hb:E3 X b tb):E3 X (.BinOp a .Pow b pos) (QQ ta tb):=PE.mono (Ig MN ha hb) CK
end L3
namespace L2
variable {prog:Pg}{w:Wo}{A:Ar}{s:Sd}{K:nz}{x C:Addr}{ox:Obj}{own:QXQ}{name:Str}{v:Vl}
section
variable {E:QQX}{cd:ClassData}
end
variable {nm q:Str}{bs bm bmB:V0 Vl}{hdct:Bool}{sn:QQQ}{sub:V0 Vl}{ab:Bool}{col:Option Bool}{dd:Option Addr}{k0 k1 k2 k3 k5:Option Vl}{B Bn Tx nid Tn inN:String}{bmN:V0 Vl}{h:Heap}{g:Array GenState}{d:Drawn}{t:Nat}{os:OsState}
section
variable {E:QQX}{N:Addr}
end
variable {M:Model}{env:Env}
section
variable {E:QQX}{N:Addr}
end
variable {X:Cx}{RP:V0 (Addr × Obj)}{Y σ':St}{H H1:Hp}{s1:Sd}{a:Addr}
section
variable {f:Str}
end
variable {qual:Str}{scope:Scope}{outer:V0 Env}{s0:Sd}{H0:Hp}{P:Pg}{mg:QQZ}{base:Heap}
section
variable {N:QQQ}{f:Addr}{cd:Vl}{E:XK}
end
end L2
namespace L3
open L2
variable {P:Pg}{w:Wo}{K:nz}{mg:QQZ}{base:Heap}{N:QQQ}{qual:Str}{scope:Scope}{f:Addr}{cd:Vl}{A:Ar}{outer:V0 Env}{s0:Sd}{H0:Hp}{E:XK}{x:Str}{np RX pos:Pos}{e:Expr}{C fI:Addr}{fdI:FuncData}{ps:QQQ}{fl:Str}{k:Nat}{R:XR}{ta:rM}{X:Cx}{b₀:Stmt}{SQ:V0 Stmt}{cn:Str}{cnp TF epos:Pos}{Cc L:Addr}{te:LA}{th:rO}
end L3
namespace L2
end L2
namespace L3
open L2
variable {X:Cx}{pos RT:Pos}{o e:Expr}{es:V0 Expr}{ta:T3}{t:rM}
structure FA where
 f:Addr
 d:FuncData
 p:QQQ
structure DG(K:nz)(st:Stmt)(py qual:Str)(ps:QQQ)(x:FA):Prop where
 pe:x.p=ps
 fn:LU K py qual st x.f x.d
 b:rq K x.d x.p []
 ty:W.isFn K (.ref x.f)=true
structure TG(K:nz)(mg:QQZ)(st:Stmt)(py:Str)(ps:QQQ)(x:FA):Prop extends DG K st py py ps x where
 mg:mg py=some (.ref x.f)
structure MG(K:nz)(C:Addr)(st:Stmt)(py qual:Str)(ps:QQQ)(x:FA):Prop extends DG K st py qual ps x where
 at_:W.findIn K (.ref C) py=some (some (.ref x.f))
structure CG(K:nz)(mg:QQZ)(nm:Str)(C:Addr):Prop extends Cls K C where
 mg:mg nm=some (.ref C)
def DG.kp{K:nz}{st:Stmt}{py qual:Str}{ps:QQQ}{x:FA}(h:DG K st py qual ps x):W.keepIn K (.ref x.f)=true:=h.fn.kp
def xW(K:nz)(C:Addr)(fs:QQQ):Prop:=∀f,fs.contains f=true->ra K C f
def qP{K:nz}{C:Addr}:xW K C []:=λf h=>by simp at h
def m8{K:nz}{C:Addr}{g:Str}{fs:QQQ}(h:W.findIn K (.ref C) g=some none)(r:xW K C fs):xW K C (g::fs):=λf q=>by
 rw[jV,iZ]at q;rcases q with q|q
 .rw[eq_of_beq q];exact h
 .exact r f q
abbrev Fq(P:Pg)(w:Wo)(K:nz)(mg:QQZ)(base:Heap)(k:Nat)(x:FA)(sp:rf):Prop:=Ov P w K mg base k x.f x.d x.p sp
abbrev Dh(P:Pg)(w:Wo)(K:nz)(mg:QQZ)(base:Heap)(k:Nat)(x:FA)(sp:sv):Prop:=Iu P w K mg base k x.f x.d x.p sp
noncomputable def ML(N P:QQQ)(sc:Scope):Bool:=sc.kind==.function&&(!sc.isCoroutine&&(!sc.isGenerator&&(decide N.Nodup&&(decide (N.take P.length=P)&&((P.all λx=>sc.names.lookup x==some .local||sc.names.lookup x==some .cell)&&sc.names.all λy=>!(y.2==.free))))))
def RE{N P:QQQ}{sc:Scope}(h:ML N P sc=true):qB N P sc:=by
 unfold ML at h;simp only[bR,Bool.not_eq_true',dr,fA]at h;obtain⟨h1,h2,h3,h4,h5,h6,h7⟩:=h;refine⟨h1,h2,h3,h4,h5,λx hx=>?_,λy hy e=>?_⟩
 .have:=cL.mp h6 x hx
  simpa using this
 .have:=cL.mp h7 y hy;rw[e]at this;simp at this
variable {P:Pg}{w:Wo}{K:nz}{mg:QQZ}{base:Heap}
def QX{x qual:Str}{st:Stmt}{fa:FA}{N ps:QQQ}{k:Nat}{sp:rf}(F:DG K st x qual ps fa)(S:qB N ps (nv st))(len:∀ds M Q,sp ds M Q->ds.length=ps.length) (Sh:∀(R8:Vl) (A:Ar) (outer:V0 Env) (s:Sd) (H:Hp) (E:XK),pJ k (A.deeper (envOfC qual (nv st) s.heap.objs.size fa.f R8))->
   ∃t,zP (rn Jj P w K mg base N qual (nv st) fa.f R8 A outer s H E).mj (pD st) t/\∀ds M Q,sp ds M Q->t {nx:=λ_ M'=>∃RW,nJ RW M'/\Q .k9 RW,rt:=λd M'=>∃RW,nJ RW M'/\Q d RW} (ug N ds) M):Fq P w K mg base (k+1) fa sp:=by
 unfold Fq;rw[F.pe];exact Pk F.fn S len Sh
def tN{x qual:Str}{st:Stmt}{fa:FA}{N ps:QQQ}{k:Nat}{sp:sv}(F:DG K st x qual ps fa)(S:qB N ps (nv st))(len:∀ds M Q R,sp ds M Q R->ds.length=ps.length) (Sh:∀(R8:Vl) (A:Ar) (outer:V0 Env) (s:Sd) (H:Hp) (E:XK) (R:XR),pJ k (A.deeper (envOfC qual (nv st) s.heap.objs.size fa.f R8))->K3 K R E->
   ∃t,zP (rn (yt P w) P w K mg base N qual (nv st) fa.f R8 A outer s H E) (pD st) t/\∀ds M Q,sp ds M Q R->t {nx:=λ_ M'=>∃RW,nJ RW M'/\Q .k9 RW,rt:=λd M'=>∃RW,nJ RW M'/\Q d RW} (ug N ds) M):Dh P w K mg base (k+1) fa sp:=by
 unfold Dh;rw[F.pe];exact PK F.fn S len Sh
variable {k n:Nat}{f C:Addr}{fa:FA}{st:Stmt}{qual:Str}{ps:QQQ}{sp:rf}{x m:Str}{p:Pos}
def mP(F:Fq X.prog X.w X.K X.mg X.base k fa sp)(hr:pJ n X.A)(T:TG X.K X.mg st x ps fa)(ha:A3 X (e::es) t)(hn:k<=n:=by first|decide|lia)(hg:Gl X x:=by rfl)
  (Sa:vq x:=by decide) (he:wj X e es:=by rfl) (Se:wX X pos es:=by rfl):
  E3 X (.Call (.Name x p) (e::es) [] pos) (AJ sp t):=K8 F (hr.mono hn) hg T.mg T.toDG.kp T.b ha Sa he Se
def uY(F:Fq X.prog X.w X.K X.mg X.base k fa sp)(hr:pJ n X.A)(c:CG X.K X.mg x C)(i:Mk X.K C fa.f)(T:DG X.K st m qual ps fa)(ha:A3 X (e::es) t)(hn:k+1<=n:=by first|decide|lia)(hg:Gl X x:=by rfl)
  (Sa:vq x:=by decide) (he:wj X e es:=by rfl) (Se:wX X pos es:=by rfl):
  E3 X (.Call (.Name x p) (e::es) [] pos) (LD C sp t):=Jw c.toCls i F (hr.mono hn) hg c.mg T.b ha Sa he Se
def vJ{pl:Sem Bool}(cm:GL X.K C m fa.f)(F:Fq X.prog X.w X.K X.mg X.base k fa sp)(hr:pJ n X.A)(c:CG X.K X.mg x C)(T:DG X.K st m qual ps fa)(ha:A3 X (e::es) t)(hn:k<=n:=by first|decide|lia)(hg:Gl X x:=by rfl)
  (Sa:vq x:=by decide) (Sv:wj X e es:=by rfl) (Se:wX X pos es:=by rfl)
  (ht:eval (.Call (.Attribute (.Name x p) m RT) (e::es) [] pos) X.env=(do
   let ov<-eval (.Name x p) X.env
   standAt RT.atName
   let(f,first)<-holding [ov] (getMethod ov m pl)
   callWith pos f first (backTo pos (starEach (e::es) X.env)) (backToKw pos (keywordEach [] X.env))):=by rfl):
  E3 X (.Call (.Attribute (.Name x p) m RT) (e::es) [] pos) (AJ sp t):=J3 cm F (hr.mono hn) hg c.mg T.kp T.b ha Sa Sv Se ht
variable {h:Heap}{py:Str}{od an:Option Addr}{sl:Array (Option Vl)}{kv dc pm cd ct:Vl}
def Fc{fd:FuncData}{oc:Vl}(l:K.lookup f=some ⟨oc,od,.func fd,sl⟩):W.keepIn K (.ref f)=true:=by unfold W.keepIn;simp only;rw[l]
def JA{fd:FuncData}(l:K.lookup f=some ⟨.type "function",od,.func fd,sl⟩):W.isFn K (.ref f)=true:=by unfold W.isFn W.typeIn;simp only;rw[l];rfl
abbrev En(py qual:Str)(st:Stmt)(ps:QQQ):Prop:=∀(kV SK pm:Vl) (an:Option Addr) (R8 ct:Vl) (us:V0 Vl),us.length=ps.length->bindArgs (W.fnOf py qual (qH st) (pD st) (nv st) .none kV SK pm an R8 ct) ⟨us,[]⟩=pure (ps.zip us)
def LK(l:K.lookup f=some ⟨.type "function",od,.func (W.fnOf py qual (qH st) (pD st) (nv st) .none kv dc pm an cd ct),sl⟩)(k:W.codeIn K cd qual=true)(hb:En py qual st ps):
  DG K st py qual ps ⟨f,W.fnOf py qual (qH st) (pD st) (nv st) .none kv dc pm an cd ct,ps⟩:=⟨rfl,Ic l k (Fc l),(Ic l k (Fc l)).binds hb,JA l⟩
def ou(X:K.In h)(G:h.Ns mainGlobals mg)(a:W.nsIn K mainGlobals py=some (some (.ref f)))(l:K.lookup f=some ⟨.type "function",od,.func (W.fnOf py py (qH st) (pD st) (nv st) .none kv dc pm an cd ct),sl⟩)(k:W.codeIn K cd py=true)(hb:En py py st ps):
  TG K mg st py ps ⟨f,W.fnOf py py (qH st) (pD st) (nv st) .none kv dc pm an cd ct,ps⟩:=⟨LK l k hb,W.mg_of X G a⟩
def sS(a:W.findIn K (.ref C) py=some (some (.ref f)))(l:K.lookup f=some ⟨.type "function",od,.func (W.fnOf py qual (qH st) (pD st) (nv st) .none kv dc pm an cd ct),sl⟩)(k:W.codeIn K cd qual=true)(hb:En py qual st ps):
  MG K C st py qual ps ⟨f,W.fnOf py qual (qH st) (pD st) (nv st) .none kv dc pm an cd ct,ps⟩:=⟨LK l k hb,a⟩
def uo(X:K.In h)(G:h.Ns mainGlobals mg)(a:W.nsIn K mainGlobals py=some (some (.ref C)))(h1:W.plainGet K C Str.empty=true)(h2:W.hasDictIn K C=true)(h3:W.plainOver K C=true)(h4:W.findIn K (.ref C) "__setattr__"=some (some (.builtin "object.__setattr__"))):CG K mg py C:=⟨⟨h1,h2,h3,h4⟩,W.mg_of X G a⟩
def Pe(h1:(W.clsIn K C).isSome=true)(h2:W.findIn K (.ref C) "__getattribute__"=some (some (.builtin "BaseException.__getattribute__")))(h3:W.findIn K (.ref C) "__getattr__"=some none)(h4:W.findIn K (.ref C) "__class__"=some (some (.builtin "object.__class__"))) (h5:W.specialIn K (.builtin "object.__class__") "__get__"=some (some (.builtin "getset_descriptor.__get__"))) (h6:W.takesIn K (.builtin "object.__class__")=some true) (h7:W.mroIn K C (.type "object")=some true) (h8:W.mroIn K C (.type "BaseException")=some true):we K C:=⟨h1,h2,h3,h4,h5,h6,h7,h8⟩
def J5{x:Str}{a:Addr}{es:V0 DictEntry}{ep:Nat}{T:V0 (Str×QQQ)}(h:mg x=some (.ref a))(s:(a==sysModules)=false)(l:K.lookup a=some ⟨.type "dict",none,.dict es.toArray ep,#[]⟩) (r:KTD.Rows (λ(ss:QQQ) v=>∃t,v=Value.ref t/\rc K (λ_=>none) t (ss.map V.str)) es T):Hu K mg x T:=⟨a,_,_,_,h,s,l,⟨rfl,rfl,rfl⟩,rfl,by simpa using r⟩
def Po(ds:V0 D)(M:Mp)(Q:DK):Prop:=match ds with
 | [.ref a]=>(lO M a).elim False λes=>(C8 es).elim False λbs=>Q (.bl (bs.any id)) M
 | _=>False
def MX(hc:X.calm=true):C3 X (.builtin "any") Po:=by
 intro RP s Y H vs us Q' I rv h;obtain⟨ds,M,Q,hd,hm,q,k⟩:=h;unfold Po at q;split at q
 .rename_i a;obtain⟨v,rfl,hv⟩:=oy hd;obtain⟨es,e0,q⟩:=nU q;obtain⟨bs,e1,q⟩:=nU q;cases hv.kX;obtain⟨u,rfl,ru⟩:=sf rv;cases ru;obtain⟨xs,h1,h2,_⟩:=mU hm e0;obtain⟨its,r,pl,hz⟩:=I.list h1;have U6:=Bh e1 h2 r;subst U6;have SJ:a≠s.heap.objs.size:=by obtain⟨o,_,e,_⟩:=pl;exact cI (cp e)
  refine call_any_walk (fu pl.isList ?_);refine⟨s.heap.objs.size,_,_,_,_,_,λi=>(bs[i]?).getD false,rfl,jr (A:=X.A.in1) (I.ok.hd hc) _ a SJ (bs.map Value.bool).toArray,⟨⟨_,cz _ rfl,rfl,rfl⟩,?_⟩,λi v s' Q E hP hQ=>?_,λh' tk hk=>?_⟩
  .obtain⟨o,n,e,c,d,q⟩:=pl;exact⟨o,bX _ e,c,n,q⟩
  .simp only[gQ,cD]at hP;cases e2:bs[i]? with
   | none=>rw[e2]at hP;cases hP
   | some b=>rw[e2]at hP;cases hP;have hQ:Q ((bs[i]?).getD false) s':=hQ;rw[e2]at hQ;exact dB hQ
  .have ea:(List.range (bs.map Value.bool).toArray.size).any (λi=>(bs[i]?).getD false)=bs.any id:=by
    rw[b7,bP];rw[gX,e7,e7];constructor
    .rintro ⟨i,hi,z⟩
     have UJ:=eA.mp hi;rw[bZ UJ]at z;exact⟨_,fF UJ,z⟩
    .rintro ⟨b,hb,z⟩
     obtain⟨i,hi,e⟩:=gu hb;refine⟨i,eA.mpr hi,?_⟩;rw[bZ hi,e];exact z
   rw[ea];refine⟨.bl (bs.any id),H,?_,rfl,k _ _ _ _ .bl hm .refl q⟩;exact I.kept (h':=h') (t':=tk) λb o e=>hk b o (by simpa using cI (cp e)) (bX _ e)
 .exact q.elim
def Np:bootBuiltins "any"=some (.builtin "any"):=by decide+kernel
variable {a b:Expr}{tb:T3}
def Qt(n:Bool)(x y:D)(M:Mp)(Q:DK):Prop:=match x,y with
 | .bl i,.bl j=>Q (.bl (n ^^ (i==j))) M
 | _,_=>False
def NX(i j:Bool):((Value.bool i==Value.bool j):Bool)=(i==j):=by cases i<;>cases j<;>rfl
def MC:ul X (compareOp .Is) (R3 X.K (Qt false)):=by
 intro RP s Y H vx vy v u Q' I rx ry h;obtain⟨x,y,M,Q,hx,hy,hm,q,k⟩:=h;unfold Qt at q;split at q
 .cases hx.k7;cases hy.k7;cases rx;cases ry;refine wpAny_is_plain rfl ?_;rw[NX];rw[Bool.false_xor]at q;exact⟨.bl _,H,I,rfl,k _ _ _ _ .bl hm .refl q⟩
 .exact q.elim
def Qx(n:Bool)(ta tb:T3):T3:=λU M Q=>ta U M λx M1=>tb U M1 λy M2=>Qt n x y M2 Q
def Mz(ha:E3 X a ta)(hb:E3 X b tb)(hm:behindInMarks .Is b=false:=by first|exact Ej _|with_unfolding_all rfl):E3 X (.Compare a [.Is] [b] pos) (Qx false ta tb):=PE.mono (Br MC ha hb hm) CK
end L3
namespace L2
variable {prog:Pg}{w:Wo}{A:Ar}{E:QQX}{s:Sd}{K:nz}{x C:Addr}{ox od:Obj}{f:Str}{v:Vl}{X:Cx}{e:Expr}{pos:Pos}{ta:TE}
end L2
namespace L3
open L2
variable {X:Cx}{cn n x:Str}{e:Expr}{cnp TF pos RT Vc p1 p2 p3 p4:Pos}{Cc L:Addr}{outer:V0 Env}{i ix:Nat}{te:LA}{fl:Str}
end L3
namespace L2
variable {prog:Pg}{w:Wo}{A:Ar}{E:QQX}{s:Sd}
end L2
namespace L3
open L2
variable {X:Cx}{pos:Pos}{cn n x:Str}{e:Expr}{cnp TF RT p1 p2 p4:Pos}{Cc L:Addr}{outer:V0 Env}{i ix:Nat}{te:LA}{ta:T3}{fl f:Str}
end L3
namespace L2
variable {P:Pg}{w:Wo}{K:nz}{mg:QQZ}{base:Heap}{N:QQQ}{qual:Str}{scope:Scope}{f:Addr}{cd:Vl}{A:Ar}{outer:V0 Env}{s0:Sd}{H0:Hp}{E:XK}
def PY{X:Cx}(hX:X=rn (yt P w) P w K mg base N qual scope f cd A outer s0 H0 E){To:Scope}{N':QQQ}{C:Addr}{s1:Sd}{H1:Hp}{ex:QXQ}{RP Sn:QQY}{Y σ':St}{J:Hp->Prop}{use:Option (Vl->Sem Unit)}{Q:QQX}{acc ev:Vl}{s':Sd} (I1:Inv X RP Y H1 s1) (hf:∀b∈ex,wm X RP H1 b) (hC:s1.heap.objs.size<=C) (hp:∀b∈ex,∃o,(b,o)∈Sn) (h:Ou (X.comp To N' C s1 H1 ex) Sn σ' J E ev s'):
  notedBy (model X.prog X.w) X.A (compEnvC To (xi X.env To.names []) C X.env) (λx s2=>compPost (model X.prog X.w) X.A X.xe use Q acc C (.error x) s2) ev s':=by
 subst hX;obtain⟨H,s,_,I,e,Cc,dx,H',tb,rfl,q,os,bare,un,lb,x,he,ht,ne,nt⟩:=h;have I':=I.lW (s':=s') (ch:=[]) os un lb bare (λb z=>absurd z (by simp));have hF:=I1.stack;have u:Un (rg (envOfC qual scope s0.heap.objs.size f cd::outer)) ex H1 H' s1.heap s'.heap:=I'.base;have fresh:∀b,s.heap.get? b=none->s1.heap.get? b=none:=λb hb=>by
  cases z:s1.heap.get? b with
  | none=>rfl
  | some o=>
   by_cases hx:b∈ex
   .obtain⟨o',Si⟩:=hp b hx;rw[(I.pin (b,o') (cV _ Si)).1]at hb;cases hb
   .obtain⟨o',Si⟩:=I.base.there b o z hx;rw[Si]at hb;cases hb
 have he1:=fresh e he;have ht1:=fresh tb ht;have hFr:s'.heap.FunFrames base (envOfC qual scope s0.heap.objs.size f cd::outer):=I'.stack;have Su:∀b∈rg (envOfC qual scope s0.heap.objs.size f cd::outer),H' b=none:=I'.lz;obtain⟨m,hNs,_⟩:=id I'.loc;have hNs:s'.heap.Ns C m:=hNs;obtain⟨oC,_,_,hoC,_⟩:=id hNs;have nC:∀b,s1.heap.get? b≠none->b≠C:=λb hb z=>by refine hb ?_;rw[z];exact gS hC
 have hCe:C≠e:=λz=>by have:=I.loc;obtain⟨m2,h2,_⟩:=this;obtain⟨o2,_,_,e2,_⟩:=h2;have e2:s.heap.get? C=some o2:=e2;rw[z,he]at e2;cases e2
 have hCt:C≠tb:=λz=>by have:=I.loc;obtain⟨m2,h2,_⟩:=this;obtain⟨o2,_,_,e2,_⟩:=h2;have e2:s.heap.get? C=some o2:=e2;rw[z,ht]at e2;cases e2
 have hCf:C∉rg (envOfC qual scope s0.heap.objs.size f cd::outer):=λz=>by obtain⟨o,ho,_⟩:=uK I1.stack z;exact absurd (cp ho) (Nat.not_lt.mpr hC)
 refine Dm (base:=base) (env:=envOfC qual scope s0.heap.objs.size f cd) (outer:=outer) (L:=s0.heap.objs.size) rfl I1.ok.frames hFr rfl x (cE.mpr λz=>by have:=dr.mp z;cases this) λh' T tn k1 k2 k3 x'=>?_;refine⟨m,hNs.at λo ho=>k1 C o ho hCf hCe λz=>hCt (ce z).symm,λh2 sb Sx _=>?_⟩;have Te:T≠e:=λz=>by obtain⟨oe,_,ho,_⟩:=x;rw[z,ho]at tn;cases tn
 have TC:T≠C:=λz=>by rw[z,hoC]at tn;cases tn
 have x2:B6 h2 e (.ref Cc) dx (some T) (rawInt ↑s0.heap.objs.size):=by obtain⟨oe,vs,ho,hc,TL,hd,h1,hv,hT⟩:=x';refine⟨oe,vs,(sb.2 e (cH hCe)).trans ho,hc,TL,hd,h1,hv,λT' eT=>?_⟩;cases eT;obtain⟨n1,oT,ts,SM,r⟩:=hT T rfl;exact⟨n1,oT,ts,(sb.2 T TC).trans SM,r⟩
 unfold PySem.passOn;have x3:=x2;obtain⟨oe,vs,ho,hc,TL,hd,h1,hv,hT⟩:=x3;refine bQ (dq (s:={s' with heap:=h2}) ho hd hv ?_);rw[bV (show ¬((some T:Option Addr).elim Value.none Value.ref==Value.none)=true from λz=>by have:=dr.mp z;cases this)];refine bQ (ww (s:={s' with heap:=h2}) Sx.frame x2 λh3 up _ x4=>wpAny_throw ?_);have st:∀b o,s'.heap.get? b=some o->b∉rg (envOfC qual scope s0.heap.objs.size f cd::outer)->b≠e->tb≠b->b≠C->h3.get? b=some o:=λb o hb nf n1 n2 n3=>by
  have nT:T≠b:=λz=>by rw[z,hb]at tn;cases tn
  exact(up b nT).trans ((sb.2 b n3).trans (k1 b o hb nf n1 λz=>n2 (ce z)))
 have stf:∀b o,s'.heap.get? b=some o->b∈rg (envOfC qual scope s0.heap.objs.size f cd::outer)->∃sl,h3.get? b=some {o with slots:=sl}:=λb o hb hf=>by
  have nT:T≠b:=λz=>by rw[z,hb]at tn;cases tn
  have n3:b≠C:=λz=>hCf (z ▸ hf);obtain⟨sl,q2⟩:=k2 b o hb hf;exact⟨sl,(up b nT).trans ((sb.2 b n3).trans q2)⟩
 have n1e:∀b o,s1.heap.get? b=some o->b≠e:=λb o hb z=>by rw[z,he1]at hb;cases hb
 have n1t:∀b o,s1.heap.get? b=some o->tb≠b:=λb o hb z=>by rw[<-z,ht1]at hb;cases hb
 have n1C:∀b o,s1.heap.get? b=some o->b≠C:=λb o hb=>nC b (by rw[hb];exact λz=>nomatch z);have un3:Un (rg (envOfC qual scope s0.heap.objs.size f cd::outer)) ex H1 H' s1.heap h3:=by
  refine⟨λb o hb h0 nf nx=>st b o (u.keep b o hb h0 nf nx) nf (n1e b o hb) (n1t b o hb) (n1C b o hb),λb o hb h0 hf nx=>?_,u.free,λb o hb nx=>?_,u.lD,u.lA,u.lE⟩
  .obtain⟨sl,hs⟩:=u.slot b o hb h0 hf nx;obtain⟨Ui,Uv⟩:=stf b _ hs hf;exact⟨Ui,Uv⟩
  .obtain⟨o',hs⟩:=u.there b o hb nx;by_cases z:b∈rg (envOfC qual scope s0.heap.objs.size f cd::outer)
   .obtain⟨sl,Uv⟩:=stf b o' hs z;exact⟨_,Uv⟩
   .exact⟨o',st b o' hs z (n1e b o hb) (n1t b o hb) (n1C b o hb)⟩
 have R5:∀b o,H' b=some o->∀ob,s'.heap.get? b=some ob->h3.get? b=some ob:=λb o hb ob Vb=>st b ob Vb (λz=>by rw[Su b z]at hb;cases hb) (λz=>by rw[z,ne]at hb;cases hb) (λz=>by rw[<-z,nt]at hb;cases hb) (λz=>by
  have fr:H' C=none:=I'.free;rw[z,fr]at hb;cases hb)
 have hok3:uz P w H' h3:=λb o hb=>(lb b o hb).ly (λb' ob Ss hu=>by
  rcases Ss with z|z
  .subst z;exact R5 b' o hb ob hu
  .exact R5 b' _ z ob hu) (λ_ q=>q) λ_ _ q=>q
 have os1:s'.os=s1.os:=I'.os;have I3:=I1.lW (s':={s' with heap:=h3}) (ch:=ex) os1 un3 hok3 bare λb hb=>⟨(hf b hb).2.2.2.1,(hf b hb).2.1,(hf b hb).2.2.2.2.1,(hf b hb).2.2.2.2.2⟩;have b1:Un (rg outer) [] H0 H1 s0.heap s1.heap:=I1.base;refine Mr I3 x4 (rW b1 rfl he1) ⟨rW b1 rfl ?_,yO lb tn⟩ ne q;cases z:s1.heap.get? T with
 | none=>rfl
 | some o=>
  by_cases hx:T∈ex
  .obtain⟨o',Si⟩:=hp T hx;have:=(I'.pin (T,o') (cV _ Si)).1;have this:s'.heap.get? T=some o':=this;rw[tn]at this;cases this
  .obtain⟨o',Si⟩:=u.there T o z hx;rw[tn]at Si;cases Si
variable {X:Cx}{ix:V0 (Option Nat)}{N':QQQ}{tg iter Sj:Expr}{Sk:V0 Expr}{pos:Pos}{g:TG}{tt:TT}{te:TE}{N0:QQQ}{Tp:Scope}
def Rp(X:Cx)(scope:Scope)(N':QQQ)(Sj:Expr)(te:TE)(E:XK):Prop:=∀C s0 H0 ex RP s Y H Q,Inv (X.comp scope N' C s0 H0 ex) RP Y H s->te Y H Q->wpAny (model X.prog X.w) X.A (eval Sj (X.comp scope N' C s0 H0 ex).env) (EP (X.comp scope N' C s0 H0 ex) RP Y Q) (Ou (X.comp scope N' C s0 H0 ex) RP Y (λ_=>True) E) s
def Cr{wi:TI}{i:Nat}{x:Str}{px SG:Pos}(hX:X=rn (yt P w) P w K mg base N0 qual Tp f cd A outer s0 H0 E)(hN:X.N.Nodup)(TH:X.N[i]?=some x)(hx:Bo X.env.scope x)(hc:X.calm=true)(S:oQ X scope ix N')(hi:PI X tg iter wi)(hg:∀C s0 H0 ex,PG (X.comp scope N' C s0 H0 ex) tg g)(ht:∀C s0 H0 ex,PF (X.comp scope N' C s0 H0 ex) Sk tt) (he:Rp X scope N' Sj te E) (SH:swapsWith (.ListComp Sj [⟨tg,iter,Sk,0⟩] scope pos) (some (.Name x px)) SG.line X.env=pure true) (hf:BP X x:=by first|exact .inl rfl|exact .inr rfl|assumption) (hs:∀x,foldedSetIterable iter X.env x=pure x:=by intro _;rfl):
  PS X (.Assign [.Name x px] (.ListComp Sj [⟨tg,iter,Sk,0⟩] scope pos) SG) (DZ (ET ix wi g tt te) (yR i)):=by
 intro RP s Y H D I h;rw[je _ _ _ _ SH];refine bQ (io (bQ ?_));show wpAny _ X.A (do let _<-comprehension (.ListComp Sj [⟨tg,iter,Sk,0⟩] scope pos) scope X.env _ (newList []) false (eval iter X.env) (some (assign (.Name x px) X.env))) _ _ s;refine bQ (de (gz (use:=some (assign (.Name x px) X.env)) (Q:=λ_ s'=>SP X RP D .next s') rfl hs (sX (S.cells I.ok)) S.kind S.nam
  (de (hi RP s Y H _ I h) (λxv s₁ h₁=>de h₁ (λitv s₂ h₂=>?_) λ_ _ e=>e) λ_ _ e=>e)) (λ_ s' hq=>cf (cf hq)) λ_ _ e=>e)
 obtain⟨it,fp,tn,J,H2,e,I2,T,S9,f2,hw⟩:=h₂;subst e;refine vU (RR:=λacc C=>compPost (model X.prog X.w) X.A X.xe (some (assign (.Name x px) X.env)) (λ_ s'=>SP X RP D .next s') acc C) hc S I2 T S9 f2 hg ht (XP:=λC s0 H0 ex RP Y=>Ou (X.comp scope N' C s0 H0 ex) RP Y (λ_=>True) E) he (λC D e s' hC z=>by
  obtain⟨Sn,σ',hp,z⟩:=z;exact PY hX I2 f2 hC hp z) hw λDa C s' H' m Ur hCn hn I3 q=>?_
 show wpAny _ X.A (assign (.Name x px) X.env (.ref Da)) _ _ _;refine ir (xh I3 hN TH hx (v:=.ref Da) rfl (λs4 I4 ⟨a,sb,ha⟩=>?_) hf);have ca:C≠a:=λz=>by
  rcases ha with y|y
  .exact absurd (cF I2.lt Ur) (by rw[z,y];exact dv _)
  .obtain⟨v,r⟩:=I2.cell x a y;exact absurd (cF r.lt Ur) (by rw[z];exact dv _)
 exact⟨m,hn.sameBut sb ca,λh' Ub=>⟨_,H',I2.letGo I4 Ur hCn Ub,q⟩⟩
end L2
namespace L3
open L2
variable {X:Cx}{scope:Scope}{ix:V0 (Option Nat)}{N':QQQ}{tg iter Sj:Expr}{Sk:V0 Expr}{pos:Pos}{g:zK}{tt:xJ}{wi:Gg}{R:XR}{P:Pg}{w:Wo}{K:nz}{mg:QQZ}{base:Heap}{N0:QQQ}{qual:Str}{Tp:Scope}{f:Addr}{cd:Vl}{A:Ar}{outer:V0 Env}{s0:Sd}{H0:Hp}{E:XK}
section
variable {t:LA}
def NZ(hR:K3 X.K R E)(he:∀C s0 H0 ex,Qe (X.comp scope N' C s0 H0 ex) Sj t):Rp X scope N' Sj (lo X.K λU M Q=>t U M Q R) E:=λC s0 H0 ex RP s Y H Q I q=>by obtain⟨U,M,Q3,hs,hm,ht,k⟩:=q;exact he C s0 H0 ex RP s Y H Q (λ_=>True) E I ⟨U,M,Q3,R,hs,hm,ht,k,λ_ _=>trivial,hR⟩
def sL{i:Nat}{x:Str}{px SG:Pos}(hX:X=rn (yt P w) P w K mg base N0 qual Tp f cd A outer s0 H0 E)(hR:K3 X.K R E)(hN:X.N.Nodup)(TH:X.N[i]?=some x)(hx:Bo X.env.scope x)(hc:X.calm=true)(S:oQ X scope ix N')(hi:I3 X tg iter wi)(hg:∀C s0 H0 ex,G3 (X.comp scope N' C s0 H0 ex) tg g)(ht:∀C s0 H0 ex,F3 (X.comp scope N' C s0 H0 ex) Sk tt) (he:∀C s0 H0 ex,Qe (X.comp scope N' C s0 H0 ex) Sj t) (SH:swapsWith (.ListComp Sj [⟨tg,iter,Sk,0⟩] scope pos) (some (.Name x px)) SG.line X.env=pure true:=by rfl)
  (hf:BP X x:=by first|exact .inl rfl|exact .inr rfl|assumption) (hs:∀x,foldedSetIterable iter X.env x=pure x:=by intro _;rfl):
  S3 X (.Assign [.Name x px] (.ListComp Sj [⟨tg,iter,Sk,0⟩] scope pos) SG) (rm (E5 ix wi g tt λU M Q=>t U M Q R) (pk i)):=PS.lG (Cr (g:=PV X.K g) (tt:=MT X.K tt) (te:=lo X.K λU M Q=>t U M Q R) hX hN TH hx hc S hi hg ht (NZ hR he) SH hf hs) λD' Y H hl zz=>Bg zz λU M D hs hm ht k1 k2 k3 k4=>
 BE Y H _ ⟨U,M,_,hs,hm,ht,λv H1 d M1 hd RS e1 q1=>k1 _ H1 _ M1 ((hs.mono e1).set hd (by rw[hl];exact(bW.mp TH).1)) RS e1 (by simp) q1⟩
end
def LV(ds:V0 D)(M:Mp)(Q:DK):Prop:=match ds with
 | [.str x]=>∃n:Int,PySem.intText? x=some n/\x.length<=640/\Q (.int n) M
 | _=>False
def BR:C3 X (.type "int") LV:=by
 intro RP s Y H vs us Q' I rv h;obtain⟨ds,M,Q,hd,hm,q,k⟩:=h;unfold LV at q;split at q
 .obtain⟨n,h0,h1,q⟩:=q;obtain⟨v,rfl,hv⟩:=oy hd;cases hv.str_inv;obtain⟨u,rfl,r1⟩:=sf rv;obtain⟨tk,rfl⟩:=r1;exact W.KIN.call_text h0 h1 ⟨.int n,H,I.tok _,⟨_,rfl⟩,k _ _ _ _ .int hm .refl q⟩
 .exact q.elim
theorem uN{α:Type}{g:zK}{tt:xJ}{te:T3}{ok:Mp->Prop}{Q:DK}(f:α->D)(keep:α->Bool)(val:α->Option D)(J:rH->Mp->Prop)(lb:∀U M,J U M->ok M):∀(ds:List α) (acc:V0 D) (U:rH) (M:Mp),J U M->acc.length+ds.length<=sizeLine->
  (∀d∈ds,∀U M,J U M->∀(k:rH->DK) (k2:rH->Mp->Prop),(keep d=true->∀y,val d=some y->∀δ2 M4,J δ2 M4->k δ2 y M4)->(keep d=false->∀δ2 M3,J δ2 M3->k2 δ2 M3)->g (f d) U M λδ2 M2=>tt δ2 M2 λb M3=>if b=true then te δ2 M3 (k δ2)else k2 δ2 M3)->
  (∀ys,(ds.filter keep).mapM val=some ys->∀U M,J U M->∀p,M p=none->Q (.ref p) (mS M p (.lst (acc++ys))))->tI g tt te ok Q (ds.map f) acc U M
 | [],acc,U,M,j,hl,_,hq=>⟨by simpa using hl,λp hp=>by have:=hq [] rfl U M j p hp;rw[cJ]at this;exact this⟩
 | d::r,acc,U,M,j,hl,ht,hq=>by
  rw[b8]at hl;refine⟨by lia,?_⟩;refine ht d ck U M j (λδ2 y M4=>ok M4/\tI g tt te ok Q (r.map f) (acc++[y]) δ2 M4) (λδ2 M3=>ok M3/\tI g tt te ok Q (r.map f) acc δ2 M3) (λhk y hy δ2 M4 j'=>⟨lb _ _ j',uN f keep val J lb r (acc++[y]) δ2 M4 j' (by rw[bS,cC];lia) (λe he=>ht e (ci _ he)) λys So U M j p hp=>?_⟩) λhk δ2 M3 j'=>⟨lb _ _ j',uN f keep val J lb r acc δ2 M3 j' (by lia) (λe he=>ht e (ci _ he)) λys So=>hq ys ?_⟩
  .rw[df];refine hq (y::ys) ?_ U M j p hp;rw[gL,b9 hk,dP,hy,So];rfl
  .rw[gL,bV (by rw[hk];exact cg)];exact So
variable {RT:Pos}{a b o e:Expr}{es:V0 Expr}{ta tb:T3}
section
variable {t:rM}
def sF{K:nz}(h:X.K=K):C3 X (.builtin "isinstance") (vB K):=by subst h;exact Dp
def Je(x:D)(ds:V0 D)(M:Mp)(Q:DK):Prop:=match x,ds with
 | .ref a,[.int i,y]=>0<=i/\i<1000000/\(lO M a).elim False λes=>es.length<sizeLine/\i.toNat<=es.length/\Q .k9 (mS M a (.lst (es.take i.toNat++y::es.drop i.toNat)))
 | _,_=>False
def D5:M3 X "list.insert" Je:=by
 intro RP s Y H vx vs v us Q' I rx rv h;obtain⟨x,ds,M,Q,hx,hd,hm,q,k⟩:=h;unfold Je at q;split at q
 .rename_i a i y;obtain⟨h0,hi,q⟩:=q;obtain⟨es,e1,hz,hle,q⟩:=nU q;obtain⟨w0,w,rfl,hw0,hw⟩:=tT hd;cases hx.kX;cases hw0.int_inv;cases rx;obtain⟨u0,u,rfl,r0,r1⟩:=yM rv;obtain⟨t0,rfl⟩:=r0;obtain⟨xs,h1,h2⟩:=ue hm e1;obtain⟨z,its,n,r,hl,e⟩:=I.lO h1;have R4:=h2.length;have hr:=r.length;have UW:¬(!Builtin.List.listFitsIndex i)=true:=by
   have:Builtin.List.listFitsIndex i=true:=by unfold Builtin.List.listFitsIndex;simp;lia
   rw[this];exact cg
  refine fC F.slot_list_insert ⟨_,e,rfl⟩ F.entry_list_insert (F.args_list_insert_3 _ _ _) (ji a its.toArray n i t0 u UW (by rw[b7];lia)) ⟨e,?_⟩;have hk:(if i<0 then(i+((its.toArray.size:Nat):Int)).toNat else min i.toNat its.toArray.size)=i.toNat:=by rw[bV (by lia),b7];lia
  have ei:(its.toArray.extract 0 i.toNat).push u++its.toArray.extract i.toNat=(its.take i.toNat++u::its.drop i.toNat).toArray:=by apply iP.mp;simp;rw[dh (by rw[cU];lia)]
  refine⟨.k9,_,I.lY (its':=its.take i.toNat++u::its.drop i.toNat) h1 e ?_ ((r.take i.toNat).append (.cons r1 (r.drop i.toNat))) ?_,rfl,?_⟩
  .show(its.toArray.extract 0 (if i<0 then(i+((its.toArray.size:Nat):Int)).toNat else min i.toNat its.toArray.size)).push u++its.toArray.extract (if i<0 then(i+((its.toArray.size:Nat):Int)).toNat else min i.toNat its.toArray.size)=_;rw[hk];exact ei
  .rw[bS,b8,cQ,cU];lia
  .obtain⟨R7,ex⟩:=hm.put (c:=.lst (es.take i.toNat++y::es.drop i.toNat)) (oP e1) λex=>⟨_,m9,((h2.mono ex).take i.toNat).append (.cons (hw.mono ex) ((h2.mono ex).drop i.toNat))⟩;exact k _ _ _ _ .k9 R7 ex q
 .exact q.elim
def vE(ho:E3 X o ta)(ha:A3 X (e::es) t)(RY:attributeBase o "insert" X.env (eval o X.env)=eval o X.env:=by rfl)
  (R6:((backTo pos (starEach (e::es) X.env)).all (λx=>!x.1)&&(backToKw pos (keywordEach [] X.env)).all (λx=>x.1.isSome)&&decide ((e::es).length+([]:V0 Keyword).length+(if ([]:V0 Keyword).isEmpty then 0 else 1)<30))=true:=by rfl)
  (RZ:(RT.endLine==pos.line)=true:=by rfl) (hs:wj X e es:=by rfl) (R0:wX X pos es:=by rfl):
  E3 X (.Call (.Attribute o "insert" RT) (e::es) [] pos) (Ph Je ta t):=EJ PySem.F.slot_list_insert PySem.F.type_list_insert D5 ho ha RY R6 RZ hs R0
end
end L3
namespace L2
variable {X:Cx}
def QZ:V->Option Int->Option Int->Hp->VK->Prop:=λx lo hi H Q=>∃z:Str,x=.str z/\z.length<=sizeLine/\Q (.str (Txt.slice z lo hi)) H
def MH:Ow X QZ:=by
 intro RP s Y H x v vl vu lo hi sl Q I rx hs pl pu h;obtain⟨z,rfl,hz,q⟩:=h;obtain⟨t,rfl⟩:=rx;refine⟨"str",_,PySem.F.slot_str_getitem.lookup,gc _ _ _,?_⟩;have RV:∀l u:Option (Int×Tok),partValue l=vl->partValue u=vu->l.map (·.1)=lo->u.map (·.1)=hi->wpAny (model X.prog X.w) X.A (getItem (.str z t) (.ref sl)) (EP X RP Y Q) X.xe s:=λl u e1 e2 e3 e4=>by subst e1 e2 e3 e4;exact wpAny_getItem_str_slice (l:=l) (u:=u) (st:=none) hs rfl (post_val_or_str ⟨di (Txt.slice_le z _ _) hz,λt' k=>⟨.str _,H,I.tok k,⟨t',rfl⟩,q⟩⟩)
 cases pl with
 | none=>
  cases pu with
  | none=>exact RV none none rfl rfl rfl rfl
  | int j u=>exact RV none (some (j,u)) rfl rfl rfl rfl
 | int i t0=>
  cases pu with
  | none=>exact RV (some (i,t0)) none rfl rfl rfl rfl
  | int j u=>exact RV (some (i,t0)) (some (j,u)) rfl rfl rfl rfl
def Jl(n d:Nat):Option Int->Nat
 | none=>d
 | some i=>min i.toNat n
def GO(A B:Nat):sliceRange (A:Int) (B:Int) 1=(List.range (B - A)).map (A+·):=by
 unfold sliceRange;simp only[show(1:Int)>0 by decide,gO];have e:(if (A:Int)<B then((B:Int) - A+1 - 1) / 1 else 0).toNat=B - A:=by
  split
  .rw[kI];lia
  .show 0=B - A;lia
 rw[e];refine d3 λk _=>?_;lia
def yI(x:Str){l u:Option Int}(hl:∀i,l=some i->0<=i)(hu:∀i,u=some i->0<=i):(Txt.slice x l u).cps.toList=(x.cps.toList.drop (Jl x.length 0 l)).take (Jl x.length x.length u - Jl x.length 0 l):=by
 have hx:x.cps.toList.length=x.length:=by simp[Str.length]
 have e:Builtin.Str.strSliceIndices l u 1 x.length=(List.range (Jl x.length x.length u - Jl x.length 0 l)).map (Jl x.length 0 l+·):=by
  rw[<-GO];unfold Builtin.Str.strSliceIndices;simp only[show(1:Int)>0 by decide,gO];congr 1
  .cases l with
   | none=>rfl
   | some i=>have:=hl i rfl;show max (0:Int) (min (if i<0 then i+x.length else i) x.length)=((min i.toNat x.length:Nat):Int);rw[bV (by lia)];lia
  .cases u with
   | none=>rfl
   | some i=>have:=hu i rfl;show max (0:Int) (min (if i<0 then i+x.length else i) x.length)=((min i.toNat x.length:Nat):Int);rw[bV (by lia)];lia
 have hA:Jl x.length 0 l<=x.length:=by
  cases l with
  | none=>exact dY _
  | some i=>exact iG ..
 have hB:Jl x.length x.length u<=x.length:=by
  cases u with
  | none=>exact cq _
  | some i=>exact iG ..
 generalize Jl x.length 0 l=A at e hA ⊢;generalize Jl x.length x.length u=B at e hB ⊢;unfold Txt.slice;rw[e];split
 .rename_i h;have h:B - A=x.length:=by simpa using h
  have:A=0\/x.length=0:=by lia
  rcases this with z|z
  .rw[z,gD,dh (by lia)]
  .have:x.cps.toList=[]:=gF.mp (by lia);rw[this];simp
 .by_cases hab:A<=B
  .have:=StrLaws.picks x.cps.toList (B - A) A (by lia)
   simpa using this
  .have:B - A=0:=by lia
   rw[this];simp
end L2
namespace L3
open L2
variable {X:Cx}{pos:Pos}{o i value:Expr}{to ti tv:T3}
def O5(te:T3)(tl th:Lz):T3:=λU M Q=>te U M λx M1=>tl U M1 λl M2=>th U M2 λu M3=>match x with|.str z=>z.length<=sizeLine/\Q (.str (Txt.slice z l u)) M3|_=>False
def pY{e:Expr}{te:T3}{lo hi:Option Expr}{tl th:Lz}{p2:Pos}(he:E3 X e te)(hl:O3 X lo tl)(hu:O3 X hi th):E3 X (.Subscript e (.Slice lo hi none p2) pos) (O5 te tl th):=PE.mono (CB MH he hl hu) λY H Q' zz=>x7 zz λU M Q hs hm ht k=>
 ⟨U,M,_,hs,hm,ht,λv H1 x M1 hx RS e1 q1=>⟨U,M1,_,hs.mono e1,RS,q1,λl H2 M2 R7 e2 q2=>⟨U,M2,_,hs.mono (e1.trans e2),R7,q2,λu H3 M3 Sz e3 q3=>by
  cases x with
  | str z=>cases hx.str_inv;exact⟨z,rfl,q3.1,k _ _ _ _ .str Sz (e1.trans (e2.trans e3)) q3.2⟩
  | _=>exact q3.elim⟩⟩⟩
end L3
namespace L2
variable {X:Cx}
def Jk(X:Cx)(e:Expr)(t:TE):Prop:=∀(RP:QQY) (s:Sd) (Y:St) (H:Hp) (Q:VK),1<=s.toks->Inv X RP Y H s->t Y H Q->wpAny (model X.prog X.w) X.A (eval e X.env) (EP X RP Y Q) X.xe s
def LQ(X:Cx)(e:Expr)(t:TE):Prop:=∀(RP:QQY) (s:Sd) (Y:St) (H:Hp) (Q:VK),Inv X RP Y H s->t Y H Q->wpAny (model X.prog X.w) X.A (eval e X.env) (λv s'=>1<=s'.toks/\EP X RP Y Q v s') X.xe s
def P3(X:Cx)(st:Stmt)(t:TS):Prop:=∀(RP:QQY) (s:Sd) (Y:St) (H:Hp) (D:yd),1<=s.toks->Inv X RP Y H s->t D Y H->wpAny (model X.prog X.w) X.A (exec st X.env) (SP X RP D) X.xe s
def QC(X:Cx)(st:Stmt)(t:TS):Prop:=∀(RP:QQY) (s:Sd) (Y:St) (H:Hp) (D:yd),Inv X RP Y H s->t D Y H->wpAny (model X.prog X.w) X.A (exec st X.env) (λf s'=>1<=s'.toks/\SP X RP D f s') X.xe s
def Hw(X:Cx)(st:V0 Stmt)(t:TS):Prop:=∀(RP:QQY) (s:Sd) (Y:St) (H:Hp) (D:yd),1<=s.toks->Inv X RP Y H s->t D Y H->wpAny (model X.prog X.w) X.A (execs st X.env) (SP X RP D) X.xe s
def EA{α:Type}{t:Sem α}{Q:α->Sd->Prop}{M:Model}{A:Ar}{E:QQX}{s:Sd}(ht:1<=s.toks)(h:wpAny M A t Q E s):wpAny M A t (λa s'=>1<=s'.toks/\Q a s') E s:=de (wpAny_toks_of ht h) (λ_ _ x=>x) λ_ _ x=>x.2
def Ng{st:Stmt}{t:TS}(h:PS X st t):P3 X st t:=λRP s Y H D _ I q=>h RP s Y H D I q
def KF{st:V0 Stmt}{t:TS}(h:yk X st t):Hw X st t:=λRP s Y H D _ I q=>h RP s Y H D I q
def AC{st:Stmt}{RU:V0 Stmt}{t u:TS}(h1:P3 X st t)(h2:Hw X RU u):Hw X (st::RU) (Lq t u):=by
 intro RP s Y H D ht I h;refine fY (pC (EA ht (h1 RP s Y H {D with nx:=u D} ht I h)) λf s1 ⟨k,q⟩=>?_);cases f with
 | next=>obtain⟨σ',H',I',q⟩:=q;exact h2 RP s1 σ' H' D k I' q
 | ret v=>exact q
 | brk=>exact q
 | cont=>exact q
def FB{st:Stmt}{RU:V0 Stmt}{t u:TS}(h1:QC X st t)(h2:Hw X RU u):yk X (st::RU) (Lq t u):=by
 intro RP s Y H D I h;refine fY (pC (h1 RP s Y H {D with nx:=u D} I h) λf s1 ⟨k,q⟩=>?_);cases f with
 | next=>obtain⟨σ',H',I',q⟩:=q;exact h2 RP s1 σ' H' D k I' q
 | ret v=>exact q
 | brk=>exact q
 | cont=>exact q
def Kj{i:Nat}{x:Str}{e:Expr}{te:TE}{pos R1:Pos}(hN:X.N.Nodup)(hi:X.N[i]?=some x)(hx:Bo X.env.scope x)(he:Jk X e te)(hs:swapsWith e (some (.Name x R1)) pos.line X.env=pure false:=by rfl)(hf:BP X x:=by first|exact .inl rfl|exact .inr rfl|assumption):
  P3 X (.Assign [.Name x R1] e pos) (DZ te (yR i)):=by
 intro RP s Y H D ht I h;refine gG (pC (he RP s Y H _ ht I h) λv s1 zz=>x5 zz λy H1 I1 r1 q1=>?_) hs;exact so I1 hN hi hx r1 (λs2 I2=>⟨_,H1,I2,q1⟩) hf
def Lb{i:Nat}{x:Str}{e:Expr}{te:TE}{pos R1:Pos}(hN:X.N.Nodup)(hi:X.N[i]?=some x)(hx:Bo X.env.scope x)(he:LQ X e te)(hs:swapsWith e (some (.Name x R1)) pos.line X.env=pure false:=by rfl)(hf:BP X x:=by first|exact .inl rfl|exact .inr rfl|assumption):
  QC X (.Assign [.Name x R1] e pos) (DZ te (yR i)):=by
 intro RP s Y H D I h;refine gG (pC (he RP s Y H _ I h) λv s1 zz=>?_) hs;obtain⟨k,y,H1,I1,r1,q1⟩:=zz;exact EA k (so I1 hN hi hx r1 (λs2 I2=>⟨_,H1,I2,q1⟩) hf)
variable {o e:Expr}{es:V0 Expr}{to:TE}{t:TA}{name:Str}{RT RX:Pos}{T id:String}{r:V→V0 V→Hp→VK→Prop}
def NQ{y:Str}{j:Nat}{p1:Pos}(pa:PlainAttrs T)(slot:Slot T name id)(UV:typeOf (.builtin id)=pure (.type "method_descriptor"))(hm:Oz X id r)(ho:PE X o to) (RY:attributeBase o name X.env (eval o X.env)=eval o X.env:=by rfl)
  (R6:((backTo RX (starEach [.Constant (.str y) j p1] X.env)).all (λx=>!x.1)&&(backToKw RX (keywordEach [] X.env)).all (λx=>x.1.isSome)
   &&decide ([Expr.Constant (.str y) j p1].length+([]:V0 Keyword).length+(if ([]:V0 Keyword).isEmpty then 0 else 1)<30))=true:=by rfl)
  (RZ:(RT.endLine==RX.line)=true:=by rfl) (hs:starEach [.Constant (.str y) j p1] X.env=[(false,eval (.Constant (.str y) j p1) X.env)]:=by rfl):
  LQ X (.Call (.Attribute o name RT) [.Constant (.str y) j p1] [] RX) (Qk X.K T r to (LJ (tC (.str y)) Ms)):=by
 intro RP s Y H Q I h;refine fQ RY R6 RZ rfl (pC (ho RP s Y H _ I h) λv s1 zz=>?_);obtain⟨x,H1,I1,r1,ty,q1⟩:=zz;obtain⟨h1,h2⟩:=Di I1 r1 ty;refine⟨T,id,pa,slot,UV,h1,h2,?_⟩;rw[hs];refine e8 rfl (fB ?_);refine d9 (gy (k:=j) (pos:=p1) (ft ?_));exact EA (Nat.succ_le_succ (dY _)) (hm RP _ Y H1 x [.str y] v _ Q (I1.tok _) r1 (.cons ⟨_,rfl⟩ .nil) q1)
def MD(pa:PlainAttrs T)(slot:Slot T name id)(UV:typeOf (.builtin id)=pure (.type "method_descriptor"))(hm:Oz X id r)(ho:Jk X o to)(ha:PA X (e::es) t) (RY:attributeBase o name X.env (eval o X.env)=eval o X.env:=by rfl)
  (R6:((backTo RX (starEach (e::es) X.env)).all (λx=>!x.1)&&(backToKw RX (keywordEach [] X.env)).all (λx=>x.1.isSome)
   &&decide ((e::es).length+([]:V0 Keyword).length+(if ([]:V0 Keyword).isEmpty then 0 else 1)<30))=true:=by rfl)
  (RZ:(RT.endLine==RX.line)=true:=by rfl) (hs:wj X e es:=by rfl) (R0:wX X RX es:=by rfl):
  Jk X (.Call (.Attribute o name RT) (e::es) [] RX) (Qk X.K T r to t):=by
 intro RP s Y H Q ht I h;refine fQ RY R6 RZ rfl (pC (ho RP s Y H _ ht I h) λv s1 zz=>?_);obtain⟨x,H1,I1,r1,ty,q1⟩:=zz;obtain⟨h1,h2⟩:=Di I1 r1 ty;refine⟨T,id,pa,slot,UV,h1,h2,?_⟩;have hA:=ha RX RP s1 Y H1 _ I1 q1;rw[hs]at hA ⊢;refine e8 (by show(false||(backTo RX (starEach es X.env)).any (·.1))=false;rw[R0]<;>rfl) (fB ?_);exact pC hA λus s2 zz=>x5 zz λvs H2 I2 r2 q2=>hm RP s2 Y H2 x vs v us Q I2 r1 r2 q2
def QS(to:TE)(y z:Str):TE:=λY H Q=>to Y H λx H1=>∃a:Str,x=.str a/\a.length<=1048576/\Q (.str (Txt.replace a y z)) H1
def BX{y z:Str}{j j2:Nat}{p1 p2:Pos}(ho:PE X o to)(hyz:(y==z)=false)(hz:z.length<=14) (RY:attributeBase o "replace" X.env (eval o X.env)=eval o X.env:=by rfl)
  (R6:((backTo RX (starEach [.Constant (.str y) j p1,.Constant (.str z) j2 p2] X.env)).all (λx=>!x.1)&&(backToKw RX (keywordEach [] X.env)).all (λx=>x.1.isSome)
   &&decide ([Expr.Constant (.str y) j p1,.Constant (.str z) j2 p2].length+([]:V0 Keyword).length+(if ([]:V0 Keyword).isEmpty then 0 else 1)<30))=true:=by rfl)
  (RZ:(RT.endLine==RX.line)=true:=by rfl) (hs:starEach [.Constant (.str y) j p1,.Constant (.str z) j2 p2] X.env=[(false,eval (.Constant (.str y) j p1) X.env),(false,eval (.Constant (.str z) j2 p2) X.env)]:=by rfl):
  Jk X (.Call (.Attribute o "replace" RT) [.Constant (.str y) j p1,.Constant (.str z) j2 p2] [] RX) (QS to y z):=by
 intro RP s Y H Q ht I h;refine fQ RY R6 RZ rfl (pC (EA ht (ho RP s Y H _ I h)) λv s1 zz=>?_);obtain⟨k1,x,H1,I1,r1,a,ea,hl,q1⟩:=zz;subst ea;obtain⟨t0,rfl⟩:=r1;refine⟨"str",_,e9,PySem.F.slot_str_replace,PySem.F.type_str_replace,gc _ _ _,(λ_ e=>nomatch e),?_⟩;rw[hs];refine e8 rfl (fB ?_);refine d9 (gy (k:=j) (pos:=p1) (d9 (gy (k:=j2) (pos:=p2) (ft ?_))));refine SC.replaceW (eU k1) (Nat.succ_ne_zero _) (cI (fZ _)) hyz hl hz λt' k=>?_;exact⟨.str _,H1,I1.tok k,⟨t',rfl⟩,q1⟩
end L2
namespace L3
open L2
variable {X:Cx}{o e:Expr}{es:V0 Expr}{ta:T3}{t:rM}{RT pos:Pos}
def P9(X:Cx)(e:Expr)(t:T3):Prop:=Jk X e (lo X.K t)
def Rk(X:Cx)(st:Stmt)(t:rO):Prop:=P3 X st (GU X.K t)
def Rq(X:Cx)(st:Stmt)(t:rO):Prop:=QC X st (GU X.K t)
def J9(X:Cx)(st:V0 Stmt)(t:rO):Prop:=Hw X st (GU X.K t)
def Jk.mono{t t':TE}(h:Jk X e t)(m:∀Y H Q,t' Y H Q->t Y H Q):Jk X e t':=λRP s Y H Q k I q=>h RP s Y H Q k I (m Y H Q q)
def LQ.mono{t t':TE}(h:LQ X e t)(m:∀Y H Q,t' Y H Q->t Y H Q):LQ X e t':=λRP s Y H Q I q=>h RP s Y H Q I (m Y H Q q)
def El{t u:rO}:∀D' Y H,GU X.K (yT t u) D' Y H->Lq (GU X.K t) (GU X.K u) D' Y H:=λD' Y H zz=>Bg zz λU M D hs hm ht k1 k2 k3 k4=>
 ⟨U,M,{D with nx:=u D},hs,hm,ht,λσ1 H1 δ1 M1 TZ RS e1 l1 q1=>⟨δ1,M1,D,TZ,RS,q1,λσ' H' δ' M' x1 x2 x3 x4 x5=>k1 σ' H' δ' M' x1 x2 (e1.trans x3) (x4.trans l1) x5,λv H' d M' x1 x2 x3 x4=>k2 v H' d M' x1 x2 (e1.trans x3) x4,λσ' H' δ' M' x1 x2 x3 x4 x5=>k3 σ' H' δ' M' x1 x2 (e1.trans x3) (x4.trans l1) x5,λσ' H' δ' M' x1 x2 x3 x4 x5=>k4 σ' H' δ' M' x1 x2 (e1.trans x3) (x4.trans l1) x5⟩,k2,k3,k4⟩
def Gm{st:Stmt}{RU:V0 Stmt}{t u:rO}(h1:Rq X st t)(h2:J9 X RU u):zP X (st::RU) (yT t u):=yk.mono (FB h1 h2) El
def rP{st:Stmt}{RU:V0 Stmt}{t u:rO}(h1:S3 X st t)(h2:J9 X RU u):J9 X (st::RU) (yT t u):=λRP s Y H D k I q=>AC (Ng h1) h2 RP s Y H D k I (El D Y H q)
def DI{st:Stmt}{RU:V0 Stmt}{t u:rO}(h1:Rk X st t)(h2:zP X RU u):J9 X (st::RU) (yT t u):=λRP s Y H D k I q=>AC h1 (KF h2) RP s Y H D k I (El D Y H q)
def Ih{i:Nat}{x:Str}{te:T3}(hi:X.N[i]?=some x):∀D' Y H,Y.length=X.N.length->GU X.K (rm te (pk i)) D' Y H->DZ (lo X.K te) (yR i) D' Y H:=λD' Y H hl zz=>Bg zz λU M D hs hm ht k1 k2 k3 k4=>⟨U,M,_,hs,hm,ht,λv H1 d M1 hd RS e1 q1=>k1 _ H1 _ M1 ((hs.mono e1).set hd (by rw[hl];exact(bW.mp hi).1)) RS e1 (by simp) q1⟩
def Lc{i:Nat}{x:Str}{te:T3}{R1:Pos}(hN:X.N.Nodup)(hi:X.N[i]?=some x)(hx:Bo X.env.scope x)(he:P9 X e te)(SH:swapsWith e (some (.Name x R1)) pos.line X.env=pure false:=by rfl)
  (hf:BP X x:=by first|exact .inl rfl|exact .inr rfl|assumption):Rk X (.Assign [.Name x R1] e pos) (rm te (pk i)):=λRP s Y H D k I q=>Kj hN hi hx he SH hf RP s Y H D k I (Ih hi D Y H I.len q)
def JY{i:Nat}{x:Str}{te:T3}{R1:Pos}(hN:X.N.Nodup)(hi:X.N[i]?=some x)(hx:Bo X.env.scope x)(he:LQ X e (lo X.K te))(SH:swapsWith e (some (.Name x R1)) pos.line X.env=pure false:=by rfl)
  (hf:BP X x:=by first|exact .inl rfl|exact .inr rfl|assumption):Rq X (.Assign [.Name x R1] e pos) (rm te (pk i)):=λRP s Y H D I q=>Lb hN hi hx he SH hf RP s Y H D I (Ih hi D Y H I.len q)
def FX{y:Str}{j:Nat}{p1:Pos}(ho:E3 X o ta)(RY:attributeBase o "split" X.env (eval o X.env)=eval o X.env:=by rfl)
  (R6:((backTo pos (starEach [.Constant (.str y) j p1] X.env)).all (λx=>!x.1)&&(backToKw pos (keywordEach [] X.env)).all (λx=>x.1.isSome)&&decide ([Expr.Constant (.str y) j p1].length+([]:V0 Keyword).length+(if ([]:V0 Keyword).isEmpty then 0 else 1)<30))=true:=by rfl)
  (RZ:(RT.endLine==pos.line)=true:=by rfl) (hs:starEach [.Constant (.str y) j p1] X.env=[(false,eval (.Constant (.str y) j p1) X.env)]:=by rfl):
  LQ X (.Call (.Attribute o "split" RT) [.Constant (.str y) j p1] [] pos) (lo X.K (PR yA ta (rY (c3 (.str y)) vw))):=LQ.mono (NQ e9 gI gJ zG ho RY R6 RZ hs) λY H Q' zz=>x7 zz λU M Q hs hm ht k=>
 ⟨U,M,_,hs,hm,ht,λv H1 x M1 hx RS e1 q1=>by
  cases x with
  | str z=>cases hx.str_inv;exact⟨rfl,.str z,[.str y],M1,Q,.str,.cons .str .nil,RS,q1,qK e1 k⟩
  | _=>exact q1.elim⟩
def FF(ho:P9 X o ta)(ha:A3 X (e::es) t)(RY:attributeBase o "split" X.env (eval o X.env)=eval o X.env:=by rfl)
  (R6:((backTo pos (starEach (e::es) X.env)).all (λx=>!x.1)&&(backToKw pos (keywordEach [] X.env)).all (λx=>x.1.isSome)&&decide ((e::es).length+([]:V0 Keyword).length+(if ([]:V0 Keyword).isEmpty then 0 else 1)<30))=true:=by rfl)
  (RZ:(RT.endLine==pos.line)=true:=by rfl) (hs:wj X e es:=by rfl) (R0:wX X pos es:=by rfl):
  P9 X (.Call (.Attribute o "split" RT) (e::es) [] pos) (PR yA ta t):=Jk.mono (MD e9 gI gJ zG ho ha RY R6 RZ hs R0) λY H Q' zz=>x7 zz λU M Q hs hm ht k=>
 ⟨U,M,_,hs,hm,ht,λv H1 x M1 hx RS e1 q1=>by
  cases x with
  | str z=>cases hx.str_inv;exact⟨rfl,U,M1,_,hs.mono e1,RS,q1,λvs H2 ds M2 SF R7 e2 q2=>⟨.str z,ds,M2,Q,.str,SF,R7,q2,qK (e1.trans e2) k⟩⟩
  | _=>exact q1.elim⟩
def OQ(y z:Str)(ta:T3):T3:=λU M Q=>ta U M λx M1=>match x with|.str a=>a.length<=1048576/\Q (.str (Txt.replace a y z)) M1|_=>False
def C5{y z:Str}{j j2:Nat}{p1 p2:Pos}(ho:E3 X o ta)(hyz:(y==z)=false:=by decide)(hz:z.length<=14:=by decide)
  (RY:attributeBase o "replace" X.env (eval o X.env)=eval o X.env:=by rfl)
  (R6:((backTo pos (starEach [.Constant (.str y) j p1,.Constant (.str z) j2 p2] X.env)).all (λx=>!x.1)&&(backToKw pos (keywordEach [] X.env)).all (λx=>x.1.isSome)
   &&decide ([Expr.Constant (.str y) j p1,.Constant (.str z) j2 p2].length+([]:V0 Keyword).length+(if ([]:V0 Keyword).isEmpty then 0 else 1)<30))=true:=by rfl)
  (RZ:(RT.endLine==pos.line)=true:=by rfl) (hs:starEach [.Constant (.str y) j p1,.Constant (.str z) j2 p2] X.env=[(false,eval (.Constant (.str y) j p1) X.env),(false,eval (.Constant (.str z) j2 p2) X.env)]:=by rfl):
  P9 X (.Call (.Attribute o "replace" RT) [.Constant (.str y) j p1,.Constant (.str z) j2 p2] [] pos) (OQ y z ta):=Jk.mono (BX ho hyz hz RY R6 RZ hs) λY H Q' zz=>x7 zz λU M Q hs hm ht k=>
 ⟨U,M,_,hs,hm,ht,λv H1 x M1 hx RS e1 q1=>by
  cases x with
  | str z=>cases hx.str_inv;exact⟨z,rfl,q1.1,k _ _ _ _ .str RS e1 q1.2⟩
  | _=>exact q1.elim⟩
end L3
namespace L3
open L2
def Dc(i:Nat){X:Cx}{pos:Pos}{x:Str}(h1:X.N[i]?=some x:=by rfl)(h2:L4 X.env.scope x:=by first|exact Or.inl rfl|exact Or.inr (Or.inl rfl)|exact Or.inr (Or.inr rfl))(h3:vq x:=by decide)(h4:(x==("__classdict__":Str))=false:=by decide):E3 X (.Name x pos) (v3 i):=MZ i (pv i h1 h2 h3 h4)
variable {X:Cx}{pos:Pos}
def RN{N:QQQ}(h:decide N.Nodup=true):N.Nodup:=bU h
def mT(i:Nat){x:Str}{e:Expr}{te:T3}{R1:Pos}{ps:QQQ}{sc:Scope}(S:qB X.N ps sc)(he:E3 X e te)(hi:X.N[i]?=some x:=by rfl)(hx:Bo X.env.scope x:=by first|exact Or.inl rfl|exact Or.inr rfl)(SH:swapsWith e (some (.Name x R1)) pos.line X.env=pure false:=by rfl)(hf:BP X x:=by first|exact .inl rfl|exact .inr rfl|assumption):S3 X (.Assign [.Name x R1] e pos) (rm te (pk i)):=IF S.nd hi hx he SH hf
def om(i:Nat){x:Str}{ps:QQQ}{sc:Scope}(S:qB X.N ps sc)(hi:X.N[i]?=some x:=by rfl)(hx:Bo X.env.scope x:=by first|exact Or.inl rfl|exact Or.inr rfl)(hf:BP X x:=by first|exact .inl rfl|exact .inr rfl|assumption):G3 X (.Name x pos) (pk i):=EB S.nd hi hx hf
def nw(i:Nat){x:Str}(hN:decide X.N.Nodup=true:=by kernel_rfl)(hi:X.N[i]?=some x:=by rfl)(hx:Bo X.env.scope x:=by first|exact Or.inl rfl|exact Or.inr rfl)(hf:BP X x:=by first|exact .inl rfl|exact .inr rfl|assumption):G3 X (.Name x pos) (pk i):=EB (RN hN) hi hx hf
abbrev Sc(n:Nat)(N:QQQ)(s:Stmt):=qB N (N.take n) (nv s)
def sk{n:Nat}{N:QQQ}{s:Stmt}(h:ML N (N.take n) (nv s)=true:=by decide+kernel):Sc n N s:=RE h
def nP{X:Cx}{e0:Expr}{t0:T3}(h0:E3 X e0 t0)(g0:starEach [e0] X.env=(false,eval e0 X.env)::starEach [] X.env:=by rfl):A3 X [e0] (rY t0 vw):=(oW h0 rV g0)
def qd{X:Cx}{e0 e1:Expr}{t0 t1:T3}(h0:E3 X e0 t0)(h1:E3 X e1 t1)(g0:starEach [e0,e1] X.env=(false,eval e0 X.env)::starEach [e1] X.env:=by rfl)(g1:starEach [e1] X.env=(false,eval e1 X.env)::starEach [] X.env:=by rfl):A3 X [e0,e1] (rY t0 (rY t1 vw)):=(oW h0 (oW h1 rV g1) g0)
def qF{X:Cx}{e0 e1 e2:Expr}{t0 t1 t2:T3}(h0:E3 X e0 t0)(h1:E3 X e1 t1)(h2:E3 X e2 t2)(g0:starEach [e0,e1,e2] X.env=(false,eval e0 X.env)::starEach [e1,e2] X.env:=by rfl)(g1:starEach [e1,e2] X.env=(false,eval e1 X.env)::starEach [e2] X.env:=by rfl)(g2:starEach [e2] X.env=(false,eval e2 X.env)::starEach [] X.env:=by rfl):A3 X [e0,e1,e2] (rY t0 (rY t1 (rY t2 vw))):=(oW h0 (oW h1 (oW h2 rV g2) g1) g0)
abbrev v0:=@Dc 0
abbrev V1:=@Dc 1
abbrev V2:=@Dc 2
abbrev V3:=@Dc 3
abbrev v5:=@Dc 5
abbrev v4:=@Dc 4
abbrev v6:=@Dc 6
abbrev v7:=@Dc 7
abbrev v8:=@Dc 8
abbrev v9:=@Dc 9
abbrev QB:=@Dc 10
abbrev Rm:=@Dc 13
abbrev P6:=@Dc 15
abbrev QW:=@Dc 14
abbrev Ry:=@Dc 11
abbrev RH:=@Dc 12
variable {P:Pg}{w:Wo}{K:nz}{mg:QQZ}{base:Heap}
def fq{x qual:Str}{st:Stmt}{fa:FA}{N ps:QQQ}{k:Nat}{sp:rf}(F:DG K st x qual ps fa)(S:qB N ps (nv st)) (hb:∀{R8:Vl} {A:Ar} {outer:V0 Env} {s:Sd} {H:Hp} {E:XK},pJ k (A.deeper (envOfC qual (nv st) s.heap.objs.size fa.f R8))->(A.deeper (envOfC qual (nv st) s.heap.objs.size fa.f R8)).units+9<cLine->
   ∃t,zP (rn Jj P w K mg base N qual (nv st) fa.f R8 A outer s H E).mj (pD st) t/\∀ds M Q,sp ds M Q->t {nx:=λ_ M'=>∃RW,nJ RW M'/\Q .k9 RW,rt:=λd M'=>∃RW,nJ RW M'/\Q d RW} (ug N ds) M) (len:∀ds M Q,sp ds M Q->ds.length=ps.length:=by walk_at "l"):Fq P w K mg base (k+1) fa sp:=QX F S len λ_ _ _ _ _ _ h=>hb h (yi h)
def Af{X:Cx}{scope:Scope}{ix:V0 (Option Nat)}{N':QQQ}(h:DL X.env.scope X.N scope ix N'=true:=by kernel_rfl):oQ X scope ix N':=tM h
end L3
namespace Z
open L2 L3
def tR{M:L3.Mp}{x:PySem.Addr}{ds:V0 L3.D}(h:M x=none):∃M',M'=L3.mS M x (.lst ds)/\nJ M M'/\L3.lO M' x=some ds:=⟨_,rfl,nJ.new h,L3.mI⟩
def pQ(i:Nat):Stmt:=PySem.Challenge.pw_callboard_k06_plan_texts_spoiled.main.body.getD i (.Pass ⟨0,0,0,0⟩)
abbrev tm(i j:Nat):Stmt:=KS (pQ i) j
def za:Sc 1 ["told","word"] (pQ 18):=sk
def Kt:Sc 2 ["holds","words"] (pQ 33):=sk
def DW:Sc 1 ["text"] (pQ 34):=sk
def z9:Sc 1 ["things"] (pQ 35):=sk
def BN:Sc 3 ["chosen","known","most"] (pQ 36):=sk
def qz:Sc 1 ["phones","name","lines","rank"] (pQ 37):=sk
def qy:Sc 2 ["groups","phone_names","name","manner","members"] (pQ 38):=sk
def zL:Sc 4 ["kind","part","phone_names","names"] (pQ 39):=sk
def qw:Sc 3 ["wish","phone_names","names","form","parts","kind","part"] (pQ 40):=sk
def rE:Sc 3 ["wishes","phone_names","names","on","wish"] (pQ 41):=sk
def tf:Sc 3 ["phones","groups","wishes","phone_names","names"] (pQ 42):=sk
def xk:Sc 1 ["parts","words","part"] (pQ 51):=sk
def B1:Sc 2 ["on","told"] (pQ 52):=sk
def wq:Sc 1 ["plan","rows"] (pQ 53):=sk
def Bm:Sc 1 ["word"] (pQ 54):=sk
def Eb:Sc 2 ["kind","word"] (pQ 55):=sk
def sG:Sc 2 ["form","words","has_list","single","parts"] (pQ 56):=sk
def Bv:Sc 1 ["words"] (pQ 57):=sk
def A4:Sc 1 ["words"] (pQ 58):=sk
def qp:Sc 1 ["text","rows","phones","groups","wishes","plan"] (pQ 59):=sk
def Gy:Sc 2 ["_law_script","_law_k"] (pQ 61):=sk
def CJ:Sc 3 ["_law_cell","_law_factor","_law_many"] (pQ 62):=sk
def qG:Sc 2 ["_law_seed","_law_which","_law_letters","_law_size","_law_place","_law_rest","_law_sign_here"] (pQ 63):=sk
def uB:Sc 3 ["_law_row_here","_law_cell","_law_most","_law_first","_law_size"] (pQ 64):=sk
def rh:Sc 2 ["_law_seed","_law_most","_law_phones_here","_law_k","_law_lines"] (pQ 65):=sk
def re:Sc 2 ["_law_seed","_law_own","_law_groups_here","_law_g","_law_manner"] (pQ 66):=sk
def qk:Sc 3 ["_law_cell","_law_own","_law_names","_law_a","_law_place","_law_b","_law_c","_law_pick","_law_first"] (pQ 67):=sk
def o6:Sc 2 ["_law_script","_law_most","_law_seed","_law_phones_here","_law_own","_law_groups_here","_law_names","_law_wishes","_law_k","_law_cell","_law_mixed"] (pQ 68):=sk
def nc:Sc 2 ["_law_script","_law_made","_law_phones_here","_law_groups_here","_law_wishes","_law_words","_law_old","_law_at_here","_law_new","_law_k","_law_name","_law_turned","_law_on","_law_told","_law_parts","_law_part"] (pQ 69):=sk
def tX:Sc 2 ["_law_on","_law_told","_law_words","_law_part"] (pQ 70):=sk
def ur:Sc 3 ["_law_phones_here","_law_groups_here","_law_wishes","_law_rows"] (pQ 71):=sk
def qo:Sc 1 ["_law_line","_law_found","_law_refused","e"] (pQ 72):=sk
def zA:Sc 1 ["_law_word_here"] (pQ 73):=sk
def zY:Sc 3 ["_law_word_here","_law_low","_law_high"] (pQ 74):=sk
def xt:Sc 3 ["_law_words","_law_most","_law_names"] (pQ 75):=sk
def rD:Sc 3 ["_law_words","_law_names","_law_own","_law_word_here","_law_rest"] (pQ 76):=sk
def oq:Sc 1 ["_law_line","_law_rows","_law_own","_law_words","_law_names"] (pQ 77):=sk
def xC:Sc 1 ["_law_m","_law_signs"] (pQ 78):=sk
def pA:Sc 3 ["_law_line","_law_m","_law_way","_law_at_here","_law_sign_here","_law_two"] (pQ 79):=sk
def nS:Sc 3 ["_law_line","_law_m","_law_way","_law_rows","_law_at_here","_law_rest","_law_words","_law_place","_law_some_here"] (pQ 80):=sk
def rC:Sc 1 ["_law_script","_law_phones_here","_law_groups_here","_law_wishes","_law_line","_law_k","_law_m","_law_way","_law_found","_law_refused"] (pQ 81):=sk
def Bf:Sc 4 ["self","phones","groups","wishes"] (tm 43 0):=sk
def CL:Sc 2 ["self","told"] (tm 9 0):=sk
def Ba:Sc 1 ["self"] (tm 8 1):=sk
def Bw:Sc 2 ["self","told"] (tm 10 0):=sk
def xS:Sc 2 ["self","told"] (tm 11 0):=sk
def zM:Sc 2 ["self","told"] (tm 13 0):=sk
def zB:Sc 2 ["self","told"] (tm 15 0):=sk
def A7:Sc 2 ["self","told"] (tm 16 0):=sk
def yy:Sc 2 ["self","told"] (tm 17 0):=sk
def Bc:Sc 2 ["self","told"] (tm 8 0):=sk
noncomputable def tO:V0 (Str×QQQ):=[("bar",["phone","names"]),("shut",["name","phones"]),("always",["name","name"]),("night",["name","name","hour","hour"]),("busy",["name","name"]),("silent",["name","name","turns"]),("wait",["phone"]),("breaks",["phone"])]
set_option genInjectivity false in
structure Ad where
 (ao c U V H I J ap L M N A aq X O P k m Q R n h Y S ar au av aw ax ay az aA Z t B aB aC aD aE aF aa ab ac i ad l ae af ag ah o:FA)
 (q u v ai C w E x y z j aV g aL aM:Addr)
structure Gl(K:nz)(mg:QQZ)(a:Ad):Prop where
 q:CG K mg "Wish" a.q
 u:CG K mg "Bar" a.u
 v:CG K mg "Shut" a.v
 ai:CG K mg "Forward" a.ai
 C:CG K mg "Always" a.C
 w:CG K mg "Night" a.w
 E:CG K mg "Busy" a.E
 x:CG K mg "Silent" a.x
 y:CG K mg "Wait" a.y
 z:CG K mg "Breaks" a.z
 j:CG K mg "Plan" a.j
 a4:mg "CallError"=some (.ref a.aV)
 aW:mg "NoPlan"=some (.ref a.g)
 a5:mg "NoDeed"=some (.ref a.aL)
 a6:mg "NoSheet"=some (.ref a.aM)
 ao:TG K mg (pQ 18) "wish_of" ["told"] a.ao
 c:TG K mg (pQ 33) "need" ["holds","words"] a.c
 U:TG K mg (pQ 34) "is_name" ["text"] a.U
 V:TG K mg (pQ 35) "all_unlike" ["things"] a.V
 H:TG K mg (pQ 36) "is_choice" ["chosen","known","most"] a.H
 I:TG K mg (pQ 37) "check_phones" ["phones"] a.I
 J:TG K mg (pQ 38) "check_groups" ["groups","phone_names"] a.J
 ap:TG K mg (pQ 39) "part_holds" ["kind","part","phone_names","names"] a.ap
 L:TG K mg (pQ 40) "check_wish" ["wish","phone_names","names"] a.L
 M:TG K mg (pQ 41) "check_wishes" ["wishes","phone_names","names"] a.M
 N:TG K mg (pQ 42) "check_plan" ["phones","groups","wishes"] a.N
 A:TG K mg (pQ 51) "row_of" ["parts"] a.A
 aq:TG K mg (pQ 52) "wish_row" ["on","told"] a.aq
 X:TG K mg (pQ 53) "show_plan" ["plan"] a.X
 O:TG K mg (pQ 54) "number_of" ["word"] a.O
 P:TG K mg (pQ 55) "part_of" ["kind","word"] a.P
 k:TG K mg (pQ 56) "parts_of" ["form","words"] a.k
 m:TG K mg (pQ 57) "told_wish" ["words"] a.m
 Q:TG K mg (pQ 58) "read_wish" ["words"] a.Q
 R:TG K mg (pQ 59) "read_plan" ["text"] a.R
 n:TG K mg (pQ 61) "_law_at" ["_law_script","_law_k"] a.n
 h:TG K mg (pQ 62) "_law_draw" ["_law_cell","_law_factor","_law_many"] a.h
 Y:TG K mg (pQ 63) "_law_word" ["_law_seed","_law_which"] a.Y
 S:TG K mg (pQ 64) "_law_some" ["_law_row_here","_law_cell","_law_most"] a.S
 ar:TG K mg (pQ 65) "_law_phones" ["_law_seed","_law_most"] a.ar
 au:TG K mg (pQ 66) "_law_groups" ["_law_seed","_law_own"] a.au
 av:TG K mg (pQ 67) "_law_wish" ["_law_cell","_law_own","_law_names"] a.av
 aw:TG K mg (pQ 68) "_law_plan" ["_law_script","_law_most"] a.aw
 ax:TG K mg (pQ 69) "_law_renamed" ["_law_script","_law_made"] a.ax
 ay:TG K mg (pQ 70) "_law_row" ["_law_on","_law_told"] a.ay
 az:TG K mg (pQ 71) "_law_text" ["_law_phones_here","_law_groups_here","_law_wishes"] a.az
 aA:TG K mg (pQ 72) "_law_asked" ["_law_line"] a.aA
 Z:TG K mg (pQ 73) "_law_is_name" ["_law_word_here"] a.Z
 t:TG K mg (pQ 74) "_law_figure" ["_law_word_here","_law_low","_law_high"] a.t
 B:TG K mg (pQ 75) "_law_all_there" ["_law_words","_law_most","_law_names"] a.B
 aB:TG K mg (pQ 76) "_law_wish_row" ["_law_words","_law_names","_law_own"] a.aB
 aC:TG K mg (pQ 77) "_law_plan_text" ["_law_line"] a.aC
 aD:TG K mg (pQ 78) "_law_sign" ["_law_m"] a.aD
 aE:TG K mg (pQ 79) "_law_spoiled_signs" ["_law_line","_law_m","_law_way"] a.aE
 aF:TG K mg (pQ 80) "_law_spoiled_rows" ["_law_line","_law_m","_law_way"] a.aF
 aa:TG K mg (pQ 81) "law" ["_law_script"] a.aa
 ab:MG K a.j (tm 43 0) "__init__" "Plan.__init__" ["self","phones","groups","wishes"] a.ab
 ac:MG K a.u (tm 9 0) "__init__" "Bar.__init__" ["self","told"] a.ac
 i:MG K a.q (tm 8 1) "told" "Wish.told" ["self"] a.i
 ad:MG K a.v (tm 10 0) "__init__" "Shut.__init__" ["self","told"] a.ad
 l:MG K a.ai (tm 11 0) "__init__" "Forward.__init__" ["self","told"] a.l
 ae:MG K a.w (tm 13 0) "__init__" "Night.__init__" ["self","told"] a.ae
 af:MG K a.x (tm 15 0) "__init__" "Silent.__init__" ["self","told"] a.af
 ag:MG K a.y (tm 16 0) "__init__" "Wait.__init__" ["self","told"] a.ag
 ah:MG K a.z (tm 17 0) "__init__" "Breaks.__init__" ["self","told"] a.ah
 o:MG K a.q (tm 8 0) "__init__" "Wish.__init__" ["self","told"] a.o
 a7:Ll K a.g
 aG:we K a.g
 a8:W.exmOne K (.ref a.g) (.ref a.aV)=some true
 a9:Mk K a.j a.ab.f
 ba:Mk K a.u a.ac.f
 bb:Mk K a.v a.ad.f
 bc:Mk K a.C a.l.f
 bd:Mk K a.w a.ae.f
 be:Mk K a.E a.l.f
 bf:Mk K a.x a.af.f
 bg:Mk K a.y a.ag.f
 bh:Mk K a.z a.ah.f
 bi:zV K a.u "told" a.i.f
 bj:zV K a.v "told" a.i.f
 bk:zV K a.C "told" a.i.f
 bl:zV K a.w "told" a.i.f
 bm:zV K a.E "told" a.i.f
 bn:zV K a.x "told" a.i.f
 bo:zV K a.y "told" a.i.f
 bp:zV K a.z "told" a.i.f
 aj:GL K a.q "__init__" a.o.f
 aX:GL K a.ai "__init__" a.l.f
 T:xW K a.j ["phones","groups","wishes","on","phone_rows","group_rows"]
 aN:xW K a.u ["form","phone","targets"]
 aO:xW K a.v ["form","target","callers"]
 aP:xW K a.C ["form","target","goal"]
 ak:xW K a.w ["form","target","goal","first","last"]
 aQ:xW K a.E ["form","target","goal"]
 aH:xW K a.x ["form","target","goal","turns"]
 aY:xW K a.y ["form","phone"]
 aZ:xW K a.z ["form","phone"]
 aR:W.kitOne K (.type "str") (.type "tuple")=some false
 aS:W.kitOne K (.type "int") (.type "tuple")=some false
 aT:W.kitOne K (.type "tuple") (.type "tuple")=some true
 bq:W.kitOne K (.ref a.g) (.ref a.g)=some true
 br:W.kitOne K (.ref a.g) (.type "ValueError")=some true
 bs:W.kitOne K (.ref a.g) (.ref a.aL)=some false
 bt:W.kitOne K (.ref a.g) (.ref a.aM)=some false
 aI:mg "range"=none
 a0:mg "enumerate"=none
 r:mg "tuple"=none
 F:mg "isinstance"=none
 al:mg "str"=none
 am:mg "list"=none
 e:mg "len"=none
 aU:mg "zip"=none
 aJ:mg "int"=none
 an:mg "all"=none
 bu:mg "any"=none
 a1:mg "set"=none
 bv:mg "min"=none
 a2:mg "dict"=none
 bw:mg "ValueError"=none
 bx:KD K mg "PHONE_FORM" (.tup ((["name","lines","rank"]:QQQ).map D.str))
 bz:KD K mg "GROUP_FORM" (.tup ((["name","manner","phones"]:QQQ).map D.str))
 bA:KD K mg "LIST_KINDS" (.tup ((["names","phones"]:QQQ).map D.str))
 bB:KD K mg "NUMBER_KINDS" (.tup ((["lines","rank","hour","turns"]:QQQ).map D.str))
 aK:Hu K mg "FORMS" tO
 bC:KD K mg "MOST_FIGURES" (.int 2)
 bD:KD K mg "FIGURES" (.str "0123456789")
 bE:KD K mg "MOST_PHONES" (.int 8)
 bF:KD K mg "MOST_LINES" (.int 3)
 bG:KD K mg "MOST_RANK" (.int 9)
 bH:KD K mg "MOST_GROUPS" (.int 3)
 bI:KD K mg "MANNERS" (.tup ((["all","turns"]:QQQ).map D.str))
 bJ:KD K mg "MOST_MEMBERS" (.int 4)
 bK:KD K mg "MOST_WISHES" (.int 16)
 bL:KD K mg "MOST_SIGNS" (.int 6)
 bM:KD K mg "LETTERS" (.str "abcdefghijklmnopqrstuvwxyz")
 a3:KD K mg "MOST_LISTED" (.int 6)
 bN:KD K mg "LAST_HOUR" (.int 23)
 bO:KD K mg "MOST_TURNS" (.int 9)
noncomputable def nQ(c f m:Int):Int:=(c % 2147483647+5)*f % 2147483629 / 89 % m
def oi{c f m:Int}(h:0<m):0<=nQ c f m:=cT _ (by lia)
def oj{c f m:Int}(h:0<m):nQ c f m<m:=cO _ h
def Jt:rf:=λds M Q=>Ef λc f m=>ds=[.int c,.int f,.int m]/\0<m/\Q (.int (nQ c f m)) M
noncomputable def pM:Str:="abcdefghijklmnopqrstuvwxyz"
noncomputable def qE(i:Int):Str:=⟨#[97+i.toNat]⟩
noncomputable def size(s:Int):Int:=1+s % 6
noncomputable def qR(s:Int):Int:=s / 6 % size s
noncomputable def uX(s v:Int):Str:=vM (qE (s / 36 % 26)) (qR s)++qE ((s / 936+v) % 26)++vM (qE (s / 36 % 26)) (size s - 1 - qR s)
def KR:rf:=λds M Q=>yZ λs v=>ds=[.int s,.int v]/\Q (.str (uX s v)) M
noncomputable def cell(ns:V0 Int)(i:Int):Int:=if 0<=i/\i<ns.length then ns.getD i.toNat 0 else 0
def O0:rf:=λds M Q=>yZ λns i=>ds=[.rl (ns.map D.int),.int i]/\Q (.int (cell ns i)) M
def CN(c:Int):0<size c:=by unfold size;have:=cT c (show(6:Int)≠0 by decide);lia
def EG(c:Int):size c<=6:=by unfold size;have:=cO c (show(0:Int)<6 by decide);lia
def Cf(i n:Int):(vM (qE i) n).length=n.toNat:=by show((List.replicate n.toNat (qE i).cps).foldl (·++·) #[]:Array Nat).size=n.toNat;rw[yw];show n.toNat*1=n.toNat;lia
def xI:pM.length<=sizeLine:=by decide+kernel
variable {P:Pg}{w:Wo}{K:nz}{mg:QQZ}{base:Heap}{a:Ad}(G:Gl K mg a)
def oR:Fq P w K mg base 1 a.h Jt:=by
 refine fq G.h.toDG CJ (λr u=>⟨_,(mG (mM (mL (mL (mL (mL (mL (mL v0 mE) mE) V1) mE) mE) V2))),?_⟩)
 rintro ds M Q ⟨c,f,m,rfl,hm,q⟩
 refine⟨by decide,.inl ?_,by decide,⟨by decide,by decide⟩,hm,M,.refl,q⟩;have h1:0<=c % 2147483647:=cT _ (by decide);have h2:c % 2147483647<2147483647:=cO _ (by decide);exact⟨by lia,by lia⟩
def AL{i:Int}(h0:0<=i)(h1:i<26):tY pM.cps.toList i=some (97+i.toNat):=by
 obtain⟨n,rfl⟩:=cK h0;have hn:n<26:=by lia
 have key:∀n:_root_.Fin 26,tY pM.cps.toList ((n.val:Nat):Int)=some (97+n.val):=by decide+kernel
 exact key ⟨n,hn⟩
def E8:Fq P w K mg base 1 a.Y KR:=by
 refine fq G.Y.toDG qG (λr u=>⟨_,(mF (mT 2 qG mK)
 (mF (mT 3 qG (mL mE (mL v0 mE)))
 (mF (mT 4 qG (mL (mL v0 mE) V3))
 (mF (mT 5 qG (mX V2 (mL (mL v0 mE) mE)))
 (mF (mT 6 qG (mX V2 (mL (mL (mL v0 mE) V1) mE)))
 (mG (mM (mL (mL (mL v5 v4) v6) (mL v5 (mL (mL V3 mE) v4)))))))))),?_⟩)
 rintro ds M Q ⟨c,v,rfl,q⟩
 have hs:=CN c;have hs6:=EG c;have Ue:0<=qR c:=cT _ (by lia);have Tq:qR c<size c:=cO _ hs;have l1:=Cf (c / 36 % 26) (qR c);have l2:=Cf (c / 36 % 26) (size c - 1 - qR c);have hz:=cP;refine⟨by decide,⟨by decide,by decide⟩,hs,⟨by decide,by decide⟩,by decide,xI,i' (AL (cT _ (by decide)) (cO _ (by decide))) ?_⟩;refine⟨⟨by decide,by decide⟩,by decide,xI,i' (AL (cT _ (by decide)) (cO _ (by decide))) ?_⟩;refine⟨⟨?_,?_,?_⟩,?_,⟨?_,?_,?_⟩,?_,M,.refl,q⟩
 .show qR c<4096;lia
 .show -4096<qR c;lia
 .show(1:Nat)<4096;decide
 .show(vM (qE (c / 36 % 26)) (qR c)).length+1<=sizeLine;lia
 .show size c - 1 - qR c<4096;lia
 .show -4096<size c - 1 - qR c;lia
 .show(1:Nat)<4096;decide
 .show(vM (qE (c / 36 % 26)) (qR c)++qE ((c / 936+v) % 26)).length+(vM (qE (c / 36 % 26)) (size c - 1 - qR c)).length<=sizeLine;rw[cR];have:(qE ((c / 936+v) % 26)).length=1:=rfl;lia
def AS:Fq P w K mg base 1 a.n O0:=by
 refine fq G.n.toDG Gy (λr u=>⟨_,(mF (nB (yV u mE V1 (mJ mZ rfl G.e mY (nP v0)))
 (mG (mM (mX v0 V1)))
 mR)
 (mG (mM mE))),?_⟩)
 rintro ds M Q ⟨ns,i,rfl,q⟩
 refine oo (λh0=>?_) (λh0=>?_)
 .have h0:0<=i:=bU h0;refine oo (λh1=>?_) (λh1=>?_)
  .have h1:i<((ns.map D.int).length:Int):=bU h1;rw[bP]at h1;have hi:i.toNat<ns.length:=by lia
   have e:tY (ns.map D.int) i=some (D.int (ns.getD i.toNat 0)):=by
    obtain⟨n,rfl⟩:=cK h0;have hn:n<ns.length:=by lia
    refine qI ?_;rw[cD,bZ hn];simp[hn]
   refine i' e ⟨M,.refl,?_⟩;have:cell ns i=ns.getD i.toNat 0:=by unfold cell;rw[b9 ⟨h0,h1⟩]
   rw[<-this];exact q
  .have h1:¬i<((ns.map D.int).length:Int):=λz=>h1 (cu z);rw[bP]at h1;refine⟨M,.refl,?_⟩;have:cell ns i=0:=by unfold cell;rw[bV (λz=>h1 z.2)]
   rw[<-this];exact q
 .have h0:¬0<=i:=λz=>h0 (cu z);refine⟨M,.refl,?_⟩;have:cell ns i=0:=by unfold cell;rw[bV (λz=>h0 z.1)]
  rw[<-this];exact q
inductive Wi where
 | bar (x:Str) (ns:QQQ)|shut (x:Str) (ns:QQQ)|always (x y:Str)|night (x y:Str) (f l:Int)|busy (x y:Str)|silent (x y:Str) (n:Int)|wait (x:Str)|breaks (x:Str)
abbrev names(ns:QQQ):D:=.tup (ns.map D.str)
noncomputable def Wi.told:Wi->V0 D
 | .bar x ns=>[.str "bar",.str x,names ns]
 | .shut x ns=>[.str "shut",.str x,names ns]
 | .always x y=>[.str "always",.str x,.str y]
 | .night x y f l=>[.str "night",.str x,.str y,.int f,.int l]
 | .busy x y=>[.str "busy",.str x,.str y]
 | .silent x y n=>[.str "silent",.str x,.str y,.int n]
 | .wait x=>[.str "wait",.str x]
 | .breaks x=>[.str "breaks",.str x]
noncomputable def Wi.cls(a:Ad):Wi->Addr
 | .bar _ _=>a.u
 | .shut _ _=>a.v
 | .always _ _=>a.C
 | .night _ _ _ _=>a.w
 | .busy _ _=>a.E
 | .silent _ _ _=>a.x
 | .wait _=>a.y
 | .breaks _=>a.z
noncomputable def Wi.more:Wi->V0 (Str×D)
 | .bar x ns=>[("phone",.str x),("targets",names ns)]
 | .shut x ns=>[("target",.str x),("callers",names ns)]
 | .always x y=>[("target",.str x),("goal",.str y)]
 | .night x y f l=>[("target",.str x),("goal",.str y),("first",.int f),("last",.int l)]
 | .busy x y=>[("target",.str x),("goal",.str y)]
 | .silent x y n=>[("target",.str x),("goal",.str y),("turns",.int n)]
 | .wait x=>[("phone",.str x)]
 | .breaks x=>[("phone",.str x)]
noncomputable def Wi.lX(v:Wi):V0 (Str×D):=("form",.tup v.told)::v.more
abbrev wF(ns:QQQ)(i:Int):Str:=ns.getD i.toNat Str.empty
noncomputable def ui(row:QQQ)(c m:Int):Nat:=(1+nQ c 40692 (if (row.length:Int)<m then(row.length:Int)else m)).toNat
noncomputable def PB(row:QQQ)(c:Int)(j:Nat):Str:=wF row ((nQ c 69621 row.length+(0+(j:Nat))) % row.length)
noncomputable def sP(row:QQQ)(c m:Int):QQQ:=(List.range (ui row c m)).map (PB row c)
def Ko:rf:=λds M Q=>Gc λr c m row=>ds=[.ref r,.int c,.int m]/\lO M r=some (row.map D.str)/\row≠[]/\0<m/\row.length<=64/\Q (names (sP row c m)) M
def Fu{row:QQQ}(h:row≠[])(x:Int):tY (row.map D.str) (x % row.length)=some (D.str (wF row (x % row.length))):=by
 have hl:0<row.length:=dE.mpr h;have h0:0<=x % row.length:=cT _ (by lia);have h1:x % row.length<row.length:=cO _ (by lia);obtain⟨n,hn⟩:=cK h0;rw[hn]at h1 ⊢;have Ts:n<row.length:=by lia
 refine qI ?_;rw[cD,bZ Ts];simp[wF,Ts]
def uc:Fq P w K mg base 2 a.S Ko:=by
 refine fq G.S.toDG uB (λr u=>⟨_,(mF (mT 3 uB (mP (oR G) r G.h (qF V1 mE (mJ mZ rfl G.e mY (nP v0)))))
 (mF (mT 4 uB (mL mE (mP (oR G) r G.h (qF V1 mE (mJ (On rfl) rfl G.bv Oj (qd V2 (mJ mZ rfl G.e mY (nP v0))))))))
 (mG (mM (nK tz rfl G.r qN (nP (oI rfl (Af (ix:=[none,some 0,some 3]) (N':=["_law_j","_law_row_here","_law_first"])) (vn rfl G.aI (nP v4)) (nw 0) oz (mX V1 (mL (mL V2 v0) (mJ mZ rfl G.e mY (nP V1))))))))))),?_⟩)
 rintro ds M Q ⟨r,c,m,row,rfl,hl,SJ,hm,h64,q⟩
 have R4:0<row.length:=dE.mpr SJ;have hz:=cP;have el:((row.map D.str).length:Int)=row.length:=by rw[bP]
 refine i' hl ⟨c,69621,_,rfl,by rw[el];lia,?_⟩;refine i' hl ⟨c,40692,_,rfl,by rw[el];split<;>lia,?_⟩;rw[el];have d0:=oi (c:=c) (f:=40692) (m:=if (row.length:Int)<m then(row.length:Int)else m) (by split<;>lia);have d1:=oj (c:=c) (f:=40692) (m:=if (row.length:Int)<m then(row.length:Int)else m) (by split<;>lia);have d2:nQ c 40692 (if (row.length:Int)<m then(row.length:Int)else m)<row.length+1:=by refine Int.lt_of_lt_of_le d1 ?_;split<;>lia
 refine⟨rfl,⟨?_,?_⟩,n8 (f:=λd=>match d with|.int j=>D.str (wF row ((nQ c 69621 row.length+j) % row.length))|_=>.k9) trivial _ [] _ ?_ (λd hd k hk=>?_) λp hp=>?_⟩
 .show -(2 ^ 62)<=1+nQ c 40692 (if (row.length:Int)<m then(row.length:Int)else m);lia
 .show 1+nQ c 40692 (if (row.length:Int)<m then(row.length:Int)else m)<2 ^ 62;lia
 .rw[bP,du];show 0+ui row c m<=sizeLine;unfold ui;lia
 .obtain⟨j,_,rfl⟩:=cj.mp hd;refine i' hl ⟨by rw[el];lia,i' hl ?_⟩;rw[el];exact i' (Fu SJ _) hk
 .refine i' (x:=(sP row c m).map D.str) ?_ ⟨M,.new hp,q⟩;unfold lO;rw[m7];show some ([]++((List.range (ui row c m)).map λi=>D.int (0+(i:Nat))).map _)=_;rw[cG,cB];unfold sP;rw[cB];rfl
noncomputable def tw(c:Int)(own all:QQQ):Wi:=
 let x:=wF own (nQ c 16807 own.length);let pl:=nQ c 39373 all.length;let y:=wF all pl;let z:=wF all ((pl+1+nQ c 742938285 ((all.length:Int) - 1)) % all.length);let k:=nQ c 1226874159 12
 if k=0 then .bar x (sP all c 3)
 else if k=1 then .shut y (sP own c 3)
 else if k=2 then .always y z
 else if k<5 then .night y z (nQ c 22695477 24) ((nQ c 22695477 24+1+nQ c 48271 23) % 24)
 else if k<7 then .busy y z
 else if k<9 then .silent y z ([1,1,2,3,9].getD (nQ c 950706376 5).toNat 0)
 else if k=9 then .wait x
 else .breaks x
def KZ:rf:=λds M Q=>Ju λc o n own all=>ds=[.int c,.ref o,.ref n]/\lO M o=some (own.map D.str)/\lO M n=some (all.map D.str)/\own≠[]/\2<=all.length/\own.length<=64/\all.length<=64/\Q (.tup (tw c own all).told) M
def Bs{row:QQQ}{x:Int}(h0:0<=x)(h1:x<row.length):tY (row.map D.str) x=some (D.str (wF row x)):=by
 obtain⟨n,rfl⟩:=cK h0;have Ts:n<row.length:=by lia
 refine qI ?_;rw[cD,bZ Ts];simp[wF,Ts]
def JG:Fq P w K mg base 3 a.av KZ:=by
 refine fq G.av.toDG qk (λr u=>⟨_,(mF (mT 3 qk (mX V1 (mP (oR G) r G.h (qF v0 mE (mJ mZ rfl G.e mY (nP V1))))))
 (mF (mT 4 qk (mP (oR G) r G.h (qF v0 mE (mJ mZ rfl G.e mY (nP V2)))))
 (mF (mT 5 qk (mX V2 v4))
 (mF (mT 6 qk (mX V2 (mL (mL (mL v4 mE) (mP (oR G) r G.h (qF v0 mE (mL (mJ mZ rfl G.e mY (nP V2)) mE)))) (mJ mZ rfl G.e mY (nP V2)))))
 (mF (mT 7 qk (mP (oR G) r G.h (qF v0 mE mE)))
 (mF (nB (mW u v7 mE)
 (mG (mM (og (qF mK V3 (mP (uc G) r G.S (qF V2 v0 mE))))))
 mR)
 (mF (nB (mW u v7 mE)
 (mG (mM (og (qF mK v5 (mP (uc G) r G.S (qF V1 v0 mE))))))
 mR)
 (mF (nB (mW u v7 mE)
 (mG (mM (og (qF mK v5 v6))))
 mR)
 (mF (nB (mW u v7 mE)
 (mF (mT 8 qk (mP (oR G) r G.h (qF v0 mE mE)))
 (mG (mM (og (oW mK (oW v5 (qF v6 v8 (mL (mL (mL v8 mE) (mP (oR G) r G.h (qF v0 mE mE))) mE))))))))
 mR)
 (mF (nB (mW u v7 mE)
 (mG (mM (og (qF mK v5 v6))))
 mR)
 (mF (nB (mW u v7 mE)
 (mG (mM (og (oW mK (qF v5 v6 (mX (og (oW mE (oW mE (qF mE mE mE)))) (mP (oR G) r G.h (qF v0 mE mE))))))))
 mR)
 (mF (nB (mW u v7 mE)
 (mG (mM (og (qd mK V3))))
 mR)
 (mG (mM (og (qd mK V3)))))))))))))))),?_⟩)
 rintro ds M Q ⟨c,o,n,own,all,rfl,ho,hn,SJ,h2,l1,l2,q⟩
 have R4:0<own.length:=dE.mpr SJ;have hne2:all≠[]:=λz=>by rw[z]at h2;simp at h2
 have e1:((own.map D.str).length:Int)=own.length:=by rw[bP]
 have e2:((all.map D.str).length:Int)=all.length:=by rw[bP]
 have p1:(0:Int)<own.length:=by lia
 have p2:(0:Int)<all.length:=by lia
 have p3:(0:Int)<(all.length:Int) - 1:=by lia
 refine i' ho ⟨c,_,_,rfl,by rw[e1];exact p1,?_⟩;rw[e1];refine i' ho (i' (Bs (oi p1) (oj p1)) ?_);refine i' hn ⟨c,_,_,rfl,by rw[e2];exact p2,?_⟩;rw[e2];refine i' hn (i' (Bs (oi p2) (oj p2)) ?_);refine i' hn ⟨c,_,_,rfl,by rw[e2];exact p3,?_⟩;rw[e2];refine i' hn ⟨by rw[e2];exact p2,?_⟩;rw[e2];refine i' hn (i' (Fu hne2 _) ?_);refine⟨c,_,_,rfl,by decide,?_⟩;have RV:∀t:V0 D,(tw c own all).told=t->∃RW,nJ RW M/\Q (.tup t) RW:=λt e=>⟨M,.refl,e ▸ q⟩;have k0:0<=nQ c 1226874159 12:=oi (by decide);refine oo (λh=>?_) (λh=>?_)
 .have h:nQ c 1226874159 12=0:=by simpa using h
  refine⟨n,c,3,all,rfl,hn,hne2,by decide,l2,lP rfl,RV _ ?_⟩;simp only[tw,b9 h,Wi.told]
 have h:¬nQ c 1226874159 12=0:=by simpa using h
 refine oo (λg=>?_) (λg=>?_)
 .have g:nQ c 1226874159 12=1:=by simpa using g
  refine⟨o,c,3,own,rfl,ho,SJ,by decide,l1,lP rfl,RV _ ?_⟩;simp only[tw,bV h,b9 g,Wi.told]
 have g:¬nQ c 1226874159 12=1:=by simpa using g
 refine oo (λi=>?_) (λi=>?_)
 .have i:nQ c 1226874159 12=2:=by simpa using i
  refine⟨lP rfl,RV _ ?_⟩;simp only[tw,bV h,bV g,b9 i,Wi.told]
 have i:¬nQ c 1226874159 12=2:=by simpa using i
 refine oo (λj=>?_) (λj=>?_)
 .have j:nQ c 1226874159 12<5:=bU j;refine⟨c,_,_,rfl,by decide,c,_,_,rfl,by decide,by decide,lP rfl,RV _ ?_⟩;simp only[tw,bV h,bV g,bV i,b9 j,Wi.told]
 have j:¬nQ c 1226874159 12<5:=λz=>j (cu z);refine oo (λl=>?_) (λl=>?_)
 .have l:nQ c 1226874159 12<7:=bU l;refine⟨lP rfl,RV _ ?_⟩;simp only[tw,bV h,bV g,bV i,bV j,b9 l,Wi.told]
 have l:¬nQ c 1226874159 12<7:=λz=>l (cu z);refine oo (λm=>?_) (λm=>?_)
 .have m:nQ c 1226874159 12<9:=bU m;have d0:0<=nQ c 950706376 5:=oi (by decide);have d1:nQ c 950706376 5<5:=oj (by decide);have e:tY [D.int 1,.int 1,.int 2,.int 3,.int 9] (nQ c 950706376 5)=some (D.int ([1,1,2,3,9].getD (nQ c 950706376 5).toNat 0)):=by
   obtain⟨t,ht⟩:=cK d0;rw[ht]at d1 ⊢;have:t<5:=by lia
   match t,this with
   | 0,_=>rfl
   | 1,_=>rfl
   | 2,_=>rfl
   | 3,_=>rfl
   | 4,_=>rfl
  refine⟨lP rfl,c,_,_,rfl,by decide,i' e ⟨lP rfl,RV _ ?_⟩⟩;simp only[tw,bV h,bV g,bV i,bV j,bV l,b9 m,Wi.told]
 have m:¬nQ c 1226874159 12<9:=λz=>m (cu z);refine oo (λr=>?_) (λr=>?_)
 .have r:nQ c 1226874159 12=9:=by simpa using r
  refine⟨lP rfl,RV _ ?_⟩;simp only[tw,bV h,bV g,bV i,bV j,bV l,bV m,b9 r,Wi.told]
 have r:¬nQ c 1226874159 12=9:=by simpa using r
 refine⟨lP rfl,RV _ ?_⟩;simp only[tw,bV h,bV g,bV i,bV j,bV l,bV m,bV r,Wi.told]
def GI(K:nz):rf:=λds M Q=>Ef λp d C=>ds=[.ref p,d]/\M p=some (.ins C [])/\ra K C "form"/\Q .k9 (mS M p (.ins C [("form",d)]))
def IT(K:nz):rf:=λds M Q=>Ju λp t x y C=>ds=[.ref p,.tup t]/\tY t 1=some x/\tY t 2=some y/\M p=some (.ins C [])/\ra K C "form"/\ra K C "target"/\ra K C "goal"/\Q .k9 (mS M p (.ins C [("form",.tup t),("target",x),("goal",y)]))
def vb(a:Ad)(k:Wi->Prop):rf:=λds M Q=>yZ λp v=>ds=[.ref p,.tup (Wi.told v)]/\k v/\M p=some (.ins (v.cls a) [])/\Q .k9 (mS M p (.ins (v.cls a) v.lX))
def uE:Fq P w K mg base 1 a.o (GI K):=by
 refine fq G.o.toDG Bc (λr u=>⟨_,(mG (p9 v0 V1)),?_⟩)
 rintro ds M Q ⟨p,d,C,rfl,hp,na,q⟩
 exact oZ hp ⟨na,by decide,_,.refl,q⟩
def wL:Fq P w K mg base 2 a.l (IT K):=by
 refine fq G.l.toDG xS (λr u=>⟨_,(mF (mV (vJ G.aj (uE G) r G.q G.o.toDG (qd v0 V1)))
 (mF (p9 v0 (mX V1 mE))
 (mG (p9 v0 (mX V1 mE))))),?_⟩)
 rintro ds M Q ⟨p,t,x,y,C,rfl,e1,e2,hp,n1,n2,n3,q⟩
 refine⟨p,_,C,rfl,hp,n1,i' e1 (oZ m7 ⟨n2,by show 1<1000;decide,?_⟩)⟩;refine i' e2 (oZ m7 ⟨n3,by show 2<1000;decide,_,?_,q⟩);rw[oF,oF];exact .refl
def Mu:Fq P w K mg base 2 a.ac (vb a λv=>∃x ns,v=.bar x ns):=by
 refine fq G.ac.toDG CL (λr u=>⟨_,(mF (mV (vJ G.aj (uE G) r G.q G.o.toDG (qd v0 V1)))
 (mF (p9 v0 (mX V1 mE))
 (mG (p9 v0 (mX V1 mE))))),?_⟩)
 rintro ds M Q ⟨p,v,rfl,⟨x,ns,rfl⟩,hp,q⟩
 refine⟨p,_,_,rfl,hp,(G.aN "form" rfl),oZ m7 ⟨(G.aN "phone" rfl),by show 1<1000;decide,?_⟩⟩;refine oZ m7 ⟨(G.aN "targets" rfl),by show 2<1000;decide,_,?_,q⟩;rw[oF,oF];exact .refl
def Lg:Fq P w K mg base 2 a.ad (vb a λv=>∃x ns,v=.shut x ns):=by
 refine fq G.ad.toDG Bw (λr u=>⟨_,(mF (mV (vJ G.aj (uE G) r G.q G.o.toDG (qd v0 V1)))
 (mF (p9 v0 (mX V1 mE))
 (mG (p9 v0 (mX V1 mE))))),?_⟩)
 rintro ds M Q ⟨p,v,rfl,⟨x,ns,rfl⟩,hp,q⟩
 refine⟨p,_,_,rfl,hp,(G.aO "form" rfl),oZ m7 ⟨(G.aO "target" rfl),by show 1<1000;decide,?_⟩⟩;refine oZ m7 ⟨(G.aO "callers" rfl),by show 2<1000;decide,_,?_,q⟩;rw[oF,oF];exact .refl
def I9:Fq P w K mg base 3 a.ae (vb a λv=>∃x y f l,v=.night x y f l):=by
 refine fq G.ae.toDG zM (λr u=>⟨_,(mF (mV (vJ G.aX (wL G) r G.ai G.l.toDG (qd v0 V1)))
 (mF (p9 v0 (mX V1 mE))
 (mG (p9 v0 (mX V1 mE))))),?_⟩)
 rintro ds M Q ⟨p,v,rfl,⟨x,y,f,l,rfl⟩,hp,q⟩
 refine⟨p,_,_,_,_,rfl,rfl,rfl,hp,(G.ak "form" rfl),(G.ak "target" rfl),(G.ak "goal" rfl),oZ m7 ⟨(G.ak "first" rfl),by show 3<1000;decide,?_⟩⟩;refine oZ m7 ⟨(G.ak "last" rfl),by show 4<1000;decide,_,?_,q⟩;rw[oF,oF];exact .refl
def Ga:Fq P w K mg base 3 a.af (vb a λv=>∃x y n,v=.silent x y n):=by
 refine fq G.af.toDG zB (λr u=>⟨_,(mF (mV (vJ G.aX (wL G) r G.ai G.l.toDG (qd v0 V1)))
 (mG (p9 v0 (mX V1 mE)))),?_⟩)
 rintro ds M Q ⟨p,v,rfl,⟨x,y,n,rfl⟩,hp,q⟩
 refine⟨p,_,_,_,_,rfl,rfl,rfl,hp,(G.aH "form" rfl),(G.aH "target" rfl),(G.aH "goal" rfl),oZ m7 ⟨(G.aH "turns" rfl),by show 3<1000;decide,_,?_,q⟩⟩;rw[oF];exact .refl
def Ku:Fq P w K mg base 2 a.ag (vb a λv=>∃x,v=.wait x):=by
 refine fq G.ag.toDG A7 (λr u=>⟨_,(mF (mV (vJ G.aj (uE G) r G.q G.o.toDG (qd v0 V1)))
 (mG (p9 v0 (mX V1 mE)))),?_⟩)
 rintro ds M Q ⟨p,v,rfl,⟨x,rfl⟩,hp,q⟩
 refine⟨p,_,_,rfl,hp,(G.aY "form" rfl),oZ m7 ⟨(G.aY "phone" rfl),by show 1<1000;decide,_,?_,q⟩⟩;rw[oF];exact .refl
def FQ:Fq P w K mg base 2 a.ah (vb a λv=>∃x,v=.breaks x):=by
 refine fq G.ah.toDG yy (λr u=>⟨_,(mF (mV (vJ G.aj (uE G) r G.q G.o.toDG (qd v0 V1)))
 (mG (p9 v0 (mX V1 mE)))),?_⟩)
 rintro ds M Q ⟨p,v,rfl,⟨x,rfl⟩,hp,q⟩
 refine⟨p,_,_,rfl,hp,(G.aZ "form" rfl),oZ m7 ⟨(G.aZ "phone" rfl),by show 1<1000;decide,_,?_,q⟩⟩;rw[oF];exact .refl
def D3(a:Ad):rf:=λds M Q=>∃v:Wi,ds=[.tup v.told]/\∀p,M p=none->Q (.ref p) (mS M p (.ins (v.cls a) v.lX))
def Eu(a:Ad):rf:=λds M Q=>yZ λp (v:Wi)=>ds=[.ref p]/\M p=some (.ins (v.cls a) v.lX)/\Q (.tup v.told) M
def HH(a:Ad):Addr->rf->Prop:=λC sp=>(∃v:Wi,C=v.cls a)/\sp=Eu a
def Dg:Fq P w K mg base 5 a.ao (D3 a):=by
 refine fq G.ao.toDG za (λr u=>⟨_,(mF (mT 1 za (mX v0 mE))
 (mF (nB (mW u V1 mK)
 (mG (mM (uY (Mu G) r G.u G.ba G.ac.toDG (nP v0))))
 mR)
 (mF (nB (mW u V1 mK)
 (mG (mM (uY (Lg G) r G.v G.bb G.ad.toDG (nP v0))))
 mR)
 (mF (nB (mW u V1 mK)
 (mG (mM (uY (wL G) r G.C G.bc G.l.toDG (nP v0))))
 mR)
 (mF (nB (mW u V1 mK)
 (mG (mM (uY (I9 G) r G.w G.bd G.ae.toDG (nP v0))))
 mR)
 (mF (nB (mW u V1 mK)
 (mG (mM (uY (wL G) r G.E G.be G.l.toDG (nP v0))))
 mR)
 (mF (nB (mW u V1 mK)
 (mG (mM (uY (Ga G) r G.x G.bf G.af.toDG (nP v0))))
 mR)
 (mF (nB (mW u V1 mK)
 (mG (mM (uY (Ku G) r G.y G.bg G.ag.toDG (nP v0))))
 mR)
 (mF (nB (mW u V1 mK)
 (mG (mM (uY (FQ G) r G.z G.bh G.ah.toDG (nP v0))))
 mR)
 (mG Hc)))))))))),?_⟩)
 rintro ds M Q ⟨v,rfl,q⟩
 have RV:∀(x:Addr) (c0 c1:s9) (C:Addr) (fs:V0 (Str×D)),M x=none->Q (.ref x) (mS M x c1)->∃RW,nJ RW (mS (mS M x c0) x c1)/\Q (.ref x) RW:=λx c0 c1 C fs hx q=>⟨_,by rw[oF];exact .refl,q⟩;cases v with
 | bar x ns=>exact λp hp=>⟨p,.bar x ns,rfl,⟨_,_,rfl⟩,m7,rfl,RV p _ _ 0 [] hp (q p hp)⟩
 | shut x ns=>exact λp hp=>⟨p,.shut x ns,rfl,⟨_,_,rfl⟩,m7,rfl,RV p _ _ 0 [] hp (q p hp)⟩
 | always x y=>exact λp hp=>⟨p,_,_,_,_,rfl,rfl,rfl,m7,(G.aP "form" rfl),(G.aP "target" rfl),(G.aP "goal" rfl),rfl,RV p _ _ 0 [] hp (q p hp)⟩
 | night x y f l=>exact λp hp=>⟨p,.night x y f l,rfl,⟨_,_,_,_,rfl⟩,m7,rfl,RV p _ _ 0 [] hp (q p hp)⟩
 | busy x y=>exact λp hp=>⟨p,_,_,_,_,rfl,rfl,rfl,m7,(G.aQ "form" rfl),(G.aQ "target" rfl),(G.aQ "goal" rfl),rfl,RV p _ _ 0 [] hp (q p hp)⟩
 | silent x y n=>exact λp hp=>⟨p,.silent x y n,rfl,⟨_,_,_,rfl⟩,m7,rfl,RV p _ _ 0 [] hp (q p hp)⟩
 | wait x=>exact λp hp=>⟨p,.wait x,rfl,⟨_,rfl⟩,m7,rfl,RV p _ _ 0 [] hp (q p hp)⟩
 | breaks x=>exact λp hp=>⟨p,.breaks x,rfl,⟨_,rfl⟩,m7,rfl,RV p _ _ 0 [] hp (q p hp)⟩
def JQ:Fq P w K mg base 1 a.i (Eu a):=by
 refine fq G.i.toDG Ba (λr u=>⟨_,(mG (mM (yz v0))),?_⟩)
 rintro ds M Q ⟨p,v,rfl,hp,q⟩
 exact oZ hp (i' rfl ⟨M,.refl,q⟩)
def Nw:∀C sp,HH a C sp->DO P w K mg base 1 "told" C (Ot K sp):=by
 rintro C sp ⟨⟨v,rfl⟩,rfl⟩
 have F:=JQ (P:=P) (w:=w) (base:=base) G;cases v with
 | bar _ _=>exact⟨G.u.toCls,_,_,_,G.bi,F,G.i.b⟩
 | shut _ _=>exact⟨G.v.toCls,_,_,_,G.bj,F,G.i.b⟩
 | always _ _=>exact⟨G.C.toCls,_,_,_,G.bk,F,G.i.b⟩
 | night _ _ _ _=>exact⟨G.w.toCls,_,_,_,G.bl,F,G.i.b⟩
 | busy _ _=>exact⟨G.E.toCls,_,_,_,G.bm,F,G.i.b⟩
 | silent _ _ _=>exact⟨G.x.toCls,_,_,_,G.bn,F,G.i.b⟩
 | wait _=>exact⟨G.y.toCls,_,_,_,G.bo,F,G.i.b⟩
 | breaks _=>exact⟨G.z.toCls,_,_,_,G.bp,F,G.i.b⟩
noncomputable def nk(x:Str):Bool:=decide ((1:Int)<=x.length)&&(decide ((x.length:Int)<=6)&&x.cps.toList.all λc=>qq ⟨#[c]⟩ pM)
def DT:rf:=λds M Q=>∃x:Str,ds=[.str x]/\x.length<=1000/\Q (.bl (nk x)) M
def Lk(a:Ad):sv:=λds M Q R=>yZ λb w=>ds=[.bl b,w]/\(b=true->Q .k9 M)/\(b=false->R a.g none M)
noncomputable def pf(ss:QQQ):Bool:=((qe ss).length:Int)==(ss.length:Int)
def NV(M:Mp)(x:D)(ss:QQQ):Prop:=x=.tup (ss.map D.str)\/∃a,x=.ref a/\lO M a=some (ss.map D.str)
def Gd:rf:=λds M Q=>yZ λx ss=>ds=[x]/\NV M x ss/\ss.length<4000/\Q (.bl (pf ss)) M
def tE{α:Type}(f:α->Bool)(l:List α):(l.map f).all id=l.all f:=by rw[kK];rfl
def qC(x:Str)(ss:QQQ):inD (.str x) (ss.map D.str)=ss.any (·==x):=by unfold inD;rw[kM];rfl
theorem pX:∀ss:QQQ,(ss.map D.str).all uF=true
 | []=>rfl
 | _::r=>by rw[cY,fL,pX r];rfl
noncomputable def mO(cs ks:QQQ)(m:Int):Bool:=decide ((1:Int)<=cs.length)&&(decide ((cs.length:Int)<=m)&&(pf cs&&cs.all λc=>ks.any (·==c)))
def FN:rf:=λds M Q=>Gc λcs ks k m=>ds=[.tup (cs.map D.str),.ref k,.int m]/\lO M k=some (ks.map D.str)/\cs.length<4000/\Q (.bl (mO cs ks m)) M
def y0:Fq P w K mg base 1 a.U DT:=by
 refine fq G.U.toDG DW (λr u=>⟨_,(mG (mM (qa (qj u mE (mJ mZ rfl G.e mY (nP v0)) (oB rfl G.bL)) (qD (mJ (zj rfl) rfl G.an yB (nP (oI rfl (Af (ix:=[none]) (N':=["sign"])) (nR v0) (nw 0) oz (nY u v0 (oB rfl G.bM))))))))),?_⟩)
 rintro ds M Q ⟨x,rfl,hl,q⟩
 have hz:=cP;refine⟨by lia,oo (λh1=>?_) (λh1=>?_)⟩
 .refine oo (λh2=>?_) (λh2=>?_)
  .refine n8 (f:=λd=>match d with|.str z=>D.bl (qq z pM)|_=>.k9) trivial _ [] _ ?_ (λd hd k hk=>?_) λp hp=>?_
   .rw[bP];have:x.cps.toList.length=x.length:=by simp[Str.length]
    simp only[cA];lia
   .obtain⟨c,_,rfl⟩:=cj.mp hd;exact hk
   .refine i' mI ?_;have e:([]++(x.cps.toList.map λc=>D.str ⟨#[c]⟩).map λd=>match d with|.str z=>D.bl (qq z pM)|_=>.k9)=x.cps.toList.map λc=>D.bl (qq ⟨#[c]⟩ pM):=by rw[cG,cB];rfl
    rw[e];refine i' (uf (λc=>qq ⟨#[c]⟩ pM) x.cps.toList) ⟨M,.new hp,?_⟩;rw[tE];have:nk x=x.cps.toList.all λc=>qq ⟨#[c]⟩ pM:=by unfold nk;rw[h1,h2];rfl
    rw[<-this];exact q
  .refine⟨M,.refl,?_⟩;have:nk x=false:=by
    unfold nk;have h2:decide ((x.length:Int)<=6)=false:=by simpa using h2
    rw[h2];simp
   rw[<-this];exact q
 .refine⟨M,.refl,?_⟩;have:nk x=false:=by
   unfold nk;have h1:decide ((1:Int)<=x.length)=false:=by simpa using h1
   rw[h1];rfl
  rw[<-this];exact q
def oJ:Dh P w K mg base 2 a.c (Lk a):=by
 refine tN G.c.toDG Kt (by walk_at "m") (λ_ _ _ _ _ _ R hr hR=>⟨_,(mG (nB (rZ (qU v0))
 (mG (G1 G.a7 rfl G.aW hR (nP V1)))
 mR)),?_⟩)
 .rintro ds M Q ⟨b,x,rfl,q,r⟩
  cases b with
  | true=>exact⟨M,.refl,q rfl⟩
  | false=>exact⟨by show 1<=10;decide,r rfl⟩
def AM:Fq P w K mg base 1 a.V Gd:=by
 refine fq G.V.toDG z9 (λr u=>⟨_,(mG (mM (nY u (AG rfl v0 rfl G.e rfl G.a1 mY IB) (mJ mZ rfl G.e mY (nP v0))))),?_⟩)
 rintro ds M Q ⟨x,ss,rfl,hx,hl,q⟩
 have key:((ss.map D.str).length:Int)=ss.length:=by rw[bP]
 rcases hx with rfl|⟨b,rfl,hb⟩
 .refine i' (L3.ut ss) ⟨hl,M,.refl,?_⟩;rw[key];exact q
 .refine i' hb (i' (L3.ut ss) ⟨hl,i' hb ⟨M,.refl,?_⟩⟩);rw[key];exact q
def xp:Fq P w K mg base 2 a.H FN:=by
 refine fq G.H.toDG BN (λr u=>⟨_,(mG (mM (qa (qj u mE (mJ mZ rfl G.e mY (nP v0)) V2) (qa (mP (AM G) r G.V (nP v0)) (qD (mJ (zj rfl) rfl G.an yB (nP (oI rfl (Af (ix:=[none,some 1]) (N':=["name","known"])) (nR v0) (nw 0) oz (nY u v0 V1))))))))),?_⟩)
 rintro ds M Q ⟨cs,ks,k,m,rfl,hk,hl,q⟩
 have hz:=cP;have key:((cs.map D.str).length:Int)=cs.length:=by rw[bP]
 have Tr:∀b:Bool,mO cs ks m=b->∃RW,nJ RW M/\Q (.bl b) RW:=λb e=>⟨M,.refl,e ▸ q⟩;refine oo (λh1=>?_) (λh1=>?_)
 .have h1:decide ((1:Int)<=cs.length)=true:=by rw[<-key];exact h1
  refine oo (λh2=>?_) (λh2=>?_)
  .have h2:decide ((cs.length:Int)<=m)=true:=by rw[<-key];exact h2
   refine⟨_,cs,rfl,.inl rfl,hl,oo (λh3=>?_) (λh3=>?_)⟩
   .refine n8 (f:=λd=>match d with|.str z=>D.bl (ks.any (·==z))|_=>.k9) trivial _ [] _ ?_ (λd hd k0 Us=>?_) λp hp=>?_
    .rw[bP];simp only[cA];lia
    .obtain⟨c,_,rfl⟩:=cj.mp hd;refine i' hk ⟨rfl,pX ks,?_⟩;show k0 (.bl (inD (.str c) (ks.map D.str))) M;rw[qC];exact Us
    .refine i' mI ?_;have e:([]++(cs.map D.str).map λd=>match d with|.str z=>D.bl (ks.any (·==z))|_=>.k9)=cs.map λc=>D.bl (ks.any (·==c)):=by rw[cG,cB];rfl
     rw[e];refine i' (uf (λc=>ks.any (·==c)) cs) ⟨M,.new hp,?_⟩;rw[tE];have:mO cs ks m=cs.all λc=>ks.any (·==c):=by unfold mO;rw[h1,h2,h3];rfl
     rw[<-this];exact q
   .refine Tr _ ?_;unfold mO;have h3:pf cs=false:=by simpa using h3
    rw[h3];simp
  .refine Tr _ ?_;unfold mO;have h2:decide ((cs.length:Int)<=m)=false:=by
    rw[<-key]
    simpa using h2
   rw[h2];simp
 .refine Tr _ ?_;unfold mO;have h1:decide ((1:Int)<=cs.length)=false:=by
   rw[<-key]
   simpa using h1
  rw[h1];rfl
abbrev pF:=Str×Int×Int
abbrev pN:=Str×Str×QQQ
abbrev qu:=Bool×Wi
noncomputable def nV(p:pF):D:=.tup [.str p.1,.int p.2.1,.int p.2.2]
noncomputable def nN(g:pN):D:=.tup [.str g.1,.str g.2.1,names g.2.2]
noncomputable def pS(w:qu):D:=.tup [.bl w.1,.tup w.2.told]
structure A8(p:pF):Prop where
 len:p.1.length<=1000
 nm:nk p.1=true
 l1:1<=p.2.1
 l2:p.2.1<=3
 r1:0<=p.2.2
 r2:p.2.2<=9
structure BM(pn:QQQ)(g:pN):Prop where
 len:g.1.length<=1000
 nm:nk g.1=true
 man:g.2.1="all"\/g.2.1="turns"
 lP:g.2.2.length<4000
 mem:mO g.2.2 pn 4=true
def sZ(ss:QQQ)(x:Str):Prop:=ss.any (·==x)=true
def tV(pn nm:QQQ):Wi->Prop
 | .bar x ns=>sZ pn x/\ns.length<4000/\mO ns nm 6=true
 | .shut x ns=>sZ nm x/\ns.length<4000/\mO ns pn 6=true
 | .always x y=>sZ nm x/\sZ nm y/\x≠y
 | .night x y f l=>sZ nm x/\sZ nm y/\x≠y/\(0<=f/\f<=23)/\(0<=l/\l<=23)/\f≠l
 | .busy x y=>sZ nm x/\sZ nm y/\x≠y
 | .silent x y n=>sZ nm x/\sZ nm y/\x≠y/\1<=n/\n<=9
 | .wait x=>sZ pn x
 | .breaks x=>sZ pn x
noncomputable def oU(ss:QQQ)(x:Str):Bool:=ss.any (·==x)
noncomputable def Cz(i:Int):Bool:=decide (0<=i)&&decide (i<=23)
noncomputable def Bt(i:Int):Bool:=decide (1<=i)&&decide (i<=9)
noncomputable def uR(p:pF):Bool:=nk p.1&&((decide (1<=p.2.1)&&decide (p.2.1<=3))&&(decide (0<=p.2.2)&&decide (p.2.2<=9)))
noncomputable def wA(ps:List pF):Bool:=(decide ((1:Int)<=ps.length)&&decide ((ps.length:Int)<=8))&&ps.all uR
noncomputable def uW(pn:QQQ)(g:pN):Bool:=nk g.1&&(inD (.str g.2.1) [.str "all",.str "turns"]&&mO g.2.2 pn 4)
noncomputable def wc(pn:QQQ)(gs:List pN):Bool:=decide ((gs.length:Int)<=3)&&gs.all (uW pn)
noncomputable def oh(pn nm:QQQ):Wi->Bool
 | .bar x ns=>oU pn x&&mO ns nm 6
 | .shut x ns=>oU nm x&&mO ns pn 6
 | .always x y=>oU nm x&&(oU nm y&&!(x==y))
 | .night x y f l=>oU nm x&&(oU nm y&&(Cz f&&(Cz l&&(!(x==y)&&!(f==l)))))
 | .busy x y=>oU nm x&&(oU nm y&&!(x==y))
 | .silent x y n=>oU nm x&&(oU nm y&&(Bt n&&!(x==y)))
 | .wait x=>oU pn x
 | .breaks x=>oU pn x
noncomputable def wV(pn nm:QQQ)(ws:List qu):Bool:=decide ((ws.length:Int)<=16)&&ws.all λw=>oh pn nm w.2
def Wi.lP:Wi->Prop
 | .bar _ ns=>ns.length<4000
 | .shut _ ns=>ns.length<4000
 | _=>True
inductive vS(pn nm:QQQ):Str->D->Bool->Prop
 | phone (x:Str):vS pn nm "phone" (.str x) (oU pn x)
 | name (x:Str):vS pn nm "name" (.str x) (oU nm x)
 | kW (cs:QQQ) (l:cs.length<4000):vS pn nm "phones" (names cs) (mO cs pn 6)
 | names (cs:QQQ) (l:cs.length<4000):vS pn nm "names" (names cs) (mO cs nm 6)
 | hour (i:Int):vS pn nm "hour" (.int i) (Cz i)
 | turns (i:Int):vS pn nm "turns" (.int i) (Bt i)
def Kq:rf:=λds M Q=>P8 λk d pl nl (pn nm:QQQ) b=>ds=[.str k,d,.ref pl,.ref nl]/\lO M pl=some (pn.map D.str)/\lO M nl=some (nm.map D.str)/\vS pn nm k d b/\Q (.bl b) M
def Bp(a:Ad)(b:Bool)(M:Mp)(Q:DK)(R:XR):Prop:=(b=true->Q .k9 M)/\(b=false->R a.g none M)
def ya(a:Ad):sv:=λds M Q R=>yZ λr (ps:List pF)=>ds=[.ref r]/\lO M r=some (ps.map nV)/\(∀p∈ps,p.1.length<=1000)/\Bp a (wA ps) M Q R
def xV(a:Ad):sv:=λds M Q R=>Gc λr (gs:List pN) pl (pn:QQQ)=>ds=[.ref r,.ref pl]/\lO M r=some (gs.map nN)/\lO M pl=some (pn.map D.str)/\(∀g∈gs,g.1.length<=1000/\g.2.2.length<4000)/\Bp a (wc pn gs) M Q R
def zW(a:Ad):sv:=λds M Q R=>Ju λv pl nl (pn nm:QQQ)=>ds=[.tup (Wi.told v),.ref pl,.ref nl]/\lO M pl=some (pn.map D.str)/\lO M nl=some (nm.map D.str)/\v.lP/\Bp a (oh pn nm v) M Q R
def xU(a:Ad):sv:=λds M Q R=>QH λr (ws:List qu) pl nl (pn nm:QQQ)=>ds=[.ref r,.ref pl,.ref nl]/\lO M r=some (ws.map pS)/\lO M pl=some (pn.map D.str)/\lO M nl=some (nm.map D.str)/\(∀w∈ws,w.2.lP)/\Bp a (wV pn nm ws) M Q R
def u7{α:Type}{l:List α}{f:α->Bool}{x:α}(h:x∈l)(e:f x=false):l.all f=false:=cE.mpr λz=>by rw[cL.mp z x h]at e;cases e
def Ky:Fq P w K mg base 3 a.ap Kq:=by
 refine fq G.ap.toDG zL (λr u=>⟨_,(mF (nB (mW u v0 mK)
 (mG (mM (nY u V1 V2)))
 mR)
 (mF (nB (mW u v0 mK)
 (mG (mM (nY u V1 V3)))
 mR)
 (mF (nB (mW u v0 mK)
 (mG (mM (mP (xp G) r G.H (qF V1 V2 (oB rfl G.a3)))))
 mR)
 (mF (nB (mW u v0 mK)
 (mG (mM (mP (xp G) r G.H (qF V1 V3 (oB rfl G.a3)))))
 mR)
 (mF (nB (mW u v0 mK)
 (mG (mM (qj u mE V1 (oB rfl G.bN))))
 mR)
 (mG (mM (qj u mE V1 (oB rfl G.bO))))))))),?_⟩)
 rintro ds M Q ⟨k,d,pl,nl,pn,nm,b,rfl,hp,hn,ok,q⟩
 cases ok with
 | phone x=>refine i' hp ⟨rfl,pX pn,M,.refl,?_⟩;show Q (.bl (inD (.str x) (pn.map D.str))) M;rw[qC];exact q
 | name x=>refine i' hn ⟨rfl,pX nm,M,.refl,?_⟩;show Q (.bl (inD (.str x) (nm.map D.str))) M;rw[qC];exact q
 | kW cs l=>exact⟨cs,pn,pl,6,rfl,hp,l,M,.refl,q⟩
 | names cs l=>exact⟨cs,nm,nl,6,rfl,hn,l,M,.refl,q⟩
 | hour i=>
  refine oo (λh=>⟨M,.refl,?_⟩) (λh=>⟨M,.refl,?_⟩)
  .unfold Cz at q;rw[show decide (0<=i)=true from h,cW]at q;exact q
  .unfold Cz at q;rw[show decide (0<=i)=false from cE.mpr h,cX]at q;exact q
 | turns i=>
  refine oo (λh=>⟨M,.refl,?_⟩) (λh=>⟨M,.refl,?_⟩)
  .unfold Bt at q;rw[show decide (1<=i)=true from h,cW]at q;exact q
  .unfold Bt at q;rw[show decide (1<=i)=false from cE.mpr h,cX]at q;exact q
def yc:Dh P w K mg base 3 a.I (ya a):=by
 refine tN G.I.toDG qz (by walk_at "m") (λ_ _ _ _ _ _ R hr hR=>⟨_,(mF (mV (ny (oJ G) (hr.mono (by first|decide|lia)) rfl G.c.mg G.c.toDG.kp G.c.b nO hR (qd (qj (yi hr) mE (mJ mZ rfl G.e mY (nP v0)) (oB rfl G.bE)) mK)))
 (mG (qM gH rfl (nR v0) (pT (n:=3) rfl (mQ (om 1 qz) (mQ (om 2 qz) (mQ (om 3 qz) oY))))
 (mF (mV (ny (oJ G) (hr.mono (by first|decide|lia)) rfl G.c.mg G.c.toDG.kp G.c.b nO hR (qd (mP (y0 G) hr G.U (nP V1)) mK)))
 (mF (mV (ny (oJ G) (hr.mono (by first|decide|lia)) rfl G.c.mg G.c.toDG.kp G.c.b nO hR (qd (qj (yi hr) mE V2 (oB rfl G.bF)) mK)))
 (mG (mV (ny (oJ G) (hr.mono (by first|decide|lia)) rfl G.c.mg G.c.toDG.kp G.c.b nO hR (qd (qj (yi hr) mE V3 (oB rfl G.bG)) mK))))))))),?_⟩)
 .rintro ds M Q ⟨r,ps,rfl,SR,hl,q,rr⟩
  have el:((ps.map nV).length:Int)=ps.length:=by rw[bP]
  have eb:wA ps=((decide ((1:Int)<=ps.length)&&decide ((ps.length:Int)<=8))&&ps.all uR):=rfl;refine i' SR (oo (λh1=>?_) (λh1=>?_))
  .have h1:decide ((1:Int)<=ps.length)=true:=by rw[<-el];exact h1
   refine⟨_,_,rfl,λh2=>?_,λh2=>rr ?_⟩
   .have h2:decide ((ps.length:Int)<=8)=true:=by rw[<-el];exact h2
    rw[h1,h2]at eb;refine i' SR (wt nV (λp=>uR p=true) (λU M'=>M=M'/\∃x y z,U=[some (.ref r),x,y,z]) (λU M' j=>by rw[<-j.1];exact SR) ps _ _ ⟨rfl,none,none,none,rfl⟩ ?_ ?_)
    .rintro p hp U M' ⟨rfl,x,y,z,rfl⟩ nx Sm
     have Sq:uR p=false->R a.g none M:=λh=>rr (by rw[eb,u7 hp h];rfl);have ep:uR p=(nk p.1&&((decide (1<=p.2.1)&&decide (p.2.1<=3))&&(decide (0<=p.2.2)&&decide (p.2.2<=9)))):=rfl;refine⟨rfl,⟨p.1,rfl,hl p hp,_,_,rfl,λg1=>?_,λg1=>Sq (by rw[ep,g1];rfl)⟩⟩;rw[g1,cW]at ep;refine oo (λg2=>?_) (λg2=>⟨false,_,rfl,(λz=>by cases z),λ_=>Sq ?_⟩)
     .rw[show decide (1<=p.2.1)=true from g2,cW]at ep;refine⟨_,_,rfl,λg3=>?_,λg3=>Sq (by rw[ep,show decide (p.2.1<=3)=false from g3];rfl)⟩;rw[show decide (p.2.1<=3)=true from g3,cW]at ep;refine oo (λg4=>?_) (λg4=>⟨false,_,rfl,(λz=>by cases z),λ_=>Sq ?_⟩)
      .rw[show decide (0<=p.2.2)=true from g4,cW]at ep;refine⟨_,_,rfl,λg5=>?_,λg5=>Sq (by rw[ep];exact g5)⟩;exact Sm (by rw[ep];exact g5) _ _ ⟨rfl,_,_,_,rfl⟩
      .rw[ep,show decide (0<=p.2.2)=false from cE.mpr g4];rfl
     .rw[ep,show decide (1<=p.2.1)=false from cE.mpr g2];rfl
    .rintro Sl U M' ⟨rfl,x,y,z,rfl⟩
     exact⟨M,.refl,q (by rw[eb,cL.mpr Sl];rfl)⟩
   .rw[eb,show decide ((ps.length:Int)<=8)=false by rw[<-el];exact h2,cZ];rfl
  .refine⟨false,_,rfl,(λz=>by cases z),λ_=>rr ?_⟩;rw[eb,show decide ((1:Int)<=ps.length)=false from cE.mpr (by rw[<-el];exact h1)];rfl
def xZ:Dh P w K mg base 3 a.J (xV a):=by
 refine tN G.J.toDG qy (by walk_at "m") (λ_ _ _ _ _ _ R hr hR=>⟨_,(mF (mV (ny (oJ G) (hr.mono (by first|decide|lia)) rfl G.c.mg G.c.toDG.kp G.c.b nO hR (qd (nY (yi hr) (mJ mZ rfl G.e mY (nP v0)) (oB rfl G.bH)) mK)))
 (mG (qM gH rfl (nR v0) (pT (n:=3) rfl (mQ (om 2 qy) (mQ (om 3 qy) (mQ (om 4 qy) oY))))
 (mF (mV (ny (oJ G) (hr.mono (by first|decide|lia)) rfl G.c.mg G.c.toDG.kp G.c.b nO hR (qd (mP (y0 G) hr G.U (nP V2)) mK)))
 (mF (mV (ny (oJ G) (hr.mono (by first|decide|lia)) rfl G.c.mg G.c.toDG.kp G.c.b nO hR (qd (nY (yi hr) V3 (oB rfl G.bI)) mK)))
 (mG (mV (ny (oJ G) (hr.mono (by first|decide|lia)) rfl G.c.mg G.c.toDG.kp G.c.b nO hR (qd (mP (xp G) hr G.H (qF v4 V1 (oB rfl G.bJ))) mK))))))))),?_⟩)
 .rintro ds M Q ⟨r,gs,pl,pn,rfl,SR,hp,hl,q,rr⟩
  have el:((gs.map nN).length:Int)=gs.length:=by rw[bP]
  have eb:wc pn gs=(decide ((gs.length:Int)<=3)&&gs.all (uW pn)):=rfl;refine i' SR ⟨_,_,rfl,λh2=>?_,λh2=>rr (by rw[eb,show decide ((gs.length:Int)<=3)=false by rw[<-el];exact h2];rfl)⟩;rw[show decide ((gs.length:Int)<=3)=true by rw[<-el];exact h2,cW]at eb;refine i' SR (wt nN (λg=>uW pn g=true) (λU M'=>M=M'/\∃x y z,U=[some (.ref r),some (.ref pl),x,y,z]) (λU M' j=>by rw[<-j.1];exact SR) gs _ _ ⟨rfl,none,none,none,rfl⟩ ?_ ?_)
  .rintro g hg U M' ⟨rfl,x,y,z,rfl⟩ nx Sm
   have Sq:uW pn g=false->R a.g none M:=λh=>rr (by rw[eb,u7 hg h]);have ep:uW pn g=(nk g.1&&(inD (.str g.2.1) [.str "all",.str "turns"]&&mO g.2.2 pn 4)):=rfl;refine⟨rfl,⟨g.1,rfl,(hl g hg).1,_,_,rfl,λg1=>?_,λg1=>Sq (by rw[ep,g1];rfl)⟩⟩;rw[g1,cW]at ep;refine⟨rfl,rfl,inD (.str g.2.1) [.str "all",.str "turns"],_,rfl,λg2=>?_,λg2=>Sq (by rw[ep,g2];rfl)⟩;rw[g2,cW]at ep;refine⟨g.2.2,pn,pl,4,rfl,hp,(hl g hg).2,_,_,rfl,λg3=>?_,λg3=>Sq (by rw[ep];exact g3)⟩;exact Sm (by rw[ep];exact g3) _ _ ⟨rfl,_,_,_,rfl⟩
  .rintro Sl U M' ⟨rfl,x,y,z,rfl⟩
   exact⟨M,.refl,q (by rw[eb,cL.mpr Sl])⟩
def zU:Dh P w K mg base 4 a.L (zW a):=by
 refine tN G.L.toDG qw (by walk_at "m") (λ_ _ _ _ _ _ R hr hR=>⟨_,(mF (mV (ny (oJ G) (hr.mono (by first|decide|lia)) rfl G.c.mg G.c.toDG.kp G.c.b nO hR (qd (C6 G.aK rfl (mX v0 mE)) mK)))
 (mF (mT 3 qw (Aq G.aK rfl (mX v0 mE)))
 (mF (mT 4 qw (nE v0 (nj mE) nA))
 (mF (mV (ny (oJ G) (hr.mono (by first|decide|lia)) rfl G.c.mg G.c.toDG.kp G.c.b nO hR (qd (nY (yi hr) (mJ mZ rfl G.e mY (nP v4)) (mJ mZ rfl G.e mY (nP V3))) mK)))
 (mF (qM gH rfl (ND rfl G.aU (qd V3 v4)) (pT (n:=2) rfl (mQ (om 5 qw) (mQ (om 6 qw) oY)))
 (mG (mV (ny (oJ G) (hr.mono (by first|decide|lia)) rfl G.c.mg G.c.toDG.kp G.c.b nO hR (qd (mP (Ky G) hr G.ap (oW v5 (qF v6 V1 V2))) mK)))))
 (mF (nB (mW (yi hr) (nE V3 nA (nj mE)) (og (qd mK mK)))
 (mG (mV (ny (oJ G) (hr.mono (by first|decide|lia)) rfl G.c.mg G.c.toDG.kp G.c.b nO hR (qd (nY (yi hr) (mX v4 mE) (mX v4 mE)) mK))))
 mR)
 (mG (nB (mW (yi hr) (nE V3 (nj mE) nA) (og (qd mK mK)))
 (mG (mV (ny (oJ G) (hr.mono (by first|decide|lia)) rfl G.c.mg G.c.toDG.kp G.c.b nO hR (qd (nY (yi hr) (mX v4 mE) (mX v4 mE)) mK))))
 mR)))))))),?_⟩)
 .rintro ds M Q ⟨v,pl,nl,pn,nm,rfl,hp,hn,ok,q,rr⟩
  have RV:oh pn nm v=true->∃RW,nJ RW M/\Q .k9 RW:=λh=>⟨M,.refl,q h⟩;cases v with
  | bar x ns=>refine⟨true,_,rfl,λ_=>⟨true,_,rfl,λ_=>?_,(λz=>by cases z)⟩,(λz=>by cases z)⟩;refine⟨rfl,_,_,pl,nl,pn,nm,_,rfl,hp,hn,.phone x,⟨_,_,rfl,λg1=>⟨trivial,?_⟩,λg1=>rr (by simp only[oh,g1,cX,cZ])⟩⟩;refine⟨rfl,_,_,pl,nl,pn,nm,_,rfl,hp,hn,.names ns ok,⟨_,_,rfl,λg2=>⟨trivial,?_⟩,λg2=>rr (by simp only[oh,g2,cX,cZ])⟩⟩;exact⟨lP rfl,lP rfl,RV (by simp only[oh,g1,g2,fm])⟩
  | shut x ns=>refine⟨true,_,rfl,λ_=>⟨true,_,rfl,λ_=>?_,(λz=>by cases z)⟩,(λz=>by cases z)⟩;refine⟨rfl,_,_,pl,nl,pn,nm,_,rfl,hp,hn,.name x,⟨_,_,rfl,λg1=>⟨trivial,?_⟩,λg1=>rr (by simp only[oh,g1,cX,cZ])⟩⟩;refine⟨rfl,_,_,pl,nl,pn,nm,_,rfl,hp,hn,.kW ns ok,⟨_,_,rfl,λg2=>⟨trivial,?_⟩,λg2=>rr (by simp only[oh,g2,cX,cZ])⟩⟩;exact⟨lP rfl,lP rfl,RV (by simp only[oh,g1,g2,fm])⟩
  | always x y=>refine⟨true,_,rfl,λ_=>⟨true,_,rfl,λ_=>?_,(λz=>by cases z)⟩,(λz=>by cases z)⟩;refine⟨rfl,_,_,pl,nl,pn,nm,_,rfl,hp,hn,.name x,⟨_,_,rfl,λg1=>⟨trivial,?_⟩,λg1=>rr (by simp only[oh,g1,cX,cZ])⟩⟩;refine⟨rfl,_,_,pl,nl,pn,nm,_,rfl,hp,hn,.name y,⟨_,_,rfl,λg2=>⟨trivial,?_⟩,λg2=>rr (by simp only[oh,g2,cX,cZ])⟩⟩;refine⟨lP rfl,⟨!(x==y),_,rfl,λt1=>?_,λt1=>rr (by simp only[oh,t1,cX,cZ])⟩⟩;exact⟨lP rfl,RV (by simp only[oh,g1,g2,t1,fm])⟩
  | night x y f l=>refine⟨true,_,rfl,λ_=>⟨true,_,rfl,λ_=>?_,(λz=>by cases z)⟩,(λz=>by cases z)⟩;refine⟨rfl,_,_,pl,nl,pn,nm,_,rfl,hp,hn,.name x,⟨_,_,rfl,λg1=>⟨trivial,?_⟩,λg1=>rr (by simp only[oh,g1,cX,cZ])⟩⟩;refine⟨rfl,_,_,pl,nl,pn,nm,_,rfl,hp,hn,.name y,⟨_,_,rfl,λg2=>⟨trivial,?_⟩,λg2=>rr (by simp only[oh,g2,cX,cZ])⟩⟩;refine⟨rfl,_,_,pl,nl,pn,nm,_,rfl,hp,hn,.hour f,⟨_,_,rfl,λg3=>⟨trivial,?_⟩,λg3=>rr (by simp only[oh,g3,cX,cZ])⟩⟩;refine⟨rfl,_,_,pl,nl,pn,nm,_,rfl,hp,hn,.hour l,⟨_,_,rfl,λg4=>⟨trivial,?_⟩,λg4=>rr (by simp only[oh,g4,cX,cZ])⟩⟩;refine⟨lP rfl,⟨!(x==y),_,rfl,λt1=>?_,λt1=>rr (by simp only[oh,t1,cX,cZ])⟩⟩;refine⟨lP rfl,⟨!(f==l),_,rfl,λt2=>?_,λt2=>rr (by simp only[oh,t2,cX,cZ])⟩⟩;exact RV (by simp only[oh,g1,g2,g3,g4,t1,t2,fm])
  | busy x y=>refine⟨true,_,rfl,λ_=>⟨true,_,rfl,λ_=>?_,(λz=>by cases z)⟩,(λz=>by cases z)⟩;refine⟨rfl,_,_,pl,nl,pn,nm,_,rfl,hp,hn,.name x,⟨_,_,rfl,λg1=>⟨trivial,?_⟩,λg1=>rr (by simp only[oh,g1,cX,cZ])⟩⟩;refine⟨rfl,_,_,pl,nl,pn,nm,_,rfl,hp,hn,.name y,⟨_,_,rfl,λg2=>⟨trivial,?_⟩,λg2=>rr (by simp only[oh,g2,cX,cZ])⟩⟩;refine⟨lP rfl,⟨!(x==y),_,rfl,λt1=>?_,λt1=>rr (by simp only[oh,t1,cX,cZ])⟩⟩;exact⟨lP rfl,RV (by simp only[oh,g1,g2,t1,fm])⟩
  | silent x y n=>refine⟨true,_,rfl,λ_=>⟨true,_,rfl,λ_=>?_,(λz=>by cases z)⟩,(λz=>by cases z)⟩;refine⟨rfl,_,_,pl,nl,pn,nm,_,rfl,hp,hn,.name x,⟨_,_,rfl,λg1=>⟨trivial,?_⟩,λg1=>rr (by simp only[oh,g1,cX,cZ])⟩⟩;refine⟨rfl,_,_,pl,nl,pn,nm,_,rfl,hp,hn,.name y,⟨_,_,rfl,λg2=>⟨trivial,?_⟩,λg2=>rr (by simp only[oh,g2,cX,cZ])⟩⟩;refine⟨rfl,_,_,pl,nl,pn,nm,_,rfl,hp,hn,.turns n,⟨_,_,rfl,λg3=>⟨trivial,?_⟩,λg3=>rr (by simp only[oh,g3,cX,cZ])⟩⟩;refine⟨lP rfl,⟨!(x==y),_,rfl,λt1=>?_,λt1=>rr (by simp only[oh,t1,cX,cZ])⟩⟩;exact⟨lP rfl,RV (by simp only[oh,g1,g2,g3,t1,fm])⟩
  | wait x=>refine⟨true,_,rfl,λ_=>⟨true,_,rfl,λ_=>?_,(λz=>by cases z)⟩,(λz=>by cases z)⟩;refine⟨rfl,_,_,pl,nl,pn,nm,_,rfl,hp,hn,.phone x,⟨_,_,rfl,λg1=>⟨trivial,?_⟩,λg1=>rr (by simp only[oh,g1,cX,cZ])⟩⟩;exact⟨lP rfl,lP rfl,RV (by simp only[oh,g1,fm])⟩
  | breaks x=>refine⟨true,_,rfl,λ_=>⟨true,_,rfl,λ_=>?_,(λz=>by cases z)⟩,(λz=>by cases z)⟩;refine⟨rfl,_,_,pl,nl,pn,nm,_,rfl,hp,hn,.phone x,⟨_,_,rfl,λg1=>⟨trivial,?_⟩,λg1=>rr (by simp only[oh,g1,cX,cZ])⟩⟩;exact⟨lP rfl,lP rfl,RV (by simp only[oh,g1,fm])⟩
def yb:Dh P w K mg base 5 a.M (xU a):=by
 refine tN G.M.toDG rE (by walk_at "m") (λ_ _ _ _ _ _ R hr hR=>⟨_,(mF (mV (ny (oJ G) (hr.mono (by first|decide|lia)) rfl G.c.mg G.c.toDG.kp G.c.b nO hR (qd (nY (yi hr) (mJ mZ rfl G.e mY (nP v0)) (oB rfl G.bK)) mK)))
 (mG (qM gH rfl (nR v0) (pT (n:=2) rfl (mQ (om 3 rE) (mQ (om 4 rE) oY)))
 (mG (mV (ny (zU G) (hr.mono (by first|decide|lia)) rfl G.L.mg G.L.toDG.kp G.L.b nO hR (qF v4 V1 V2))))))),?_⟩)
 .rintro ds M Q ⟨r,ws,pl,nl,pn,nm,rfl,SR,hp,hn,hl,q,rr⟩
  have el:((ws.map pS).length:Int)=ws.length:=by rw[bP]
  have eb:wV pn nm ws=(decide ((ws.length:Int)<=16)&&ws.all λw=>oh pn nm w.2):=rfl;refine i' SR ⟨_,_,rfl,λh2=>?_,λh2=>rr (by rw[eb,show decide ((ws.length:Int)<=16)=false by rw[<-el];exact h2];rfl)⟩;rw[show decide ((ws.length:Int)<=16)=true by rw[<-el];exact h2,cW]at eb;refine i' SR (wt pS (λw=>oh pn nm w.2=true) (λU M'=>M=M'/\∃x y,U=[some (.ref r),some (.ref pl),some (.ref nl),x,y]) (λU M' j=>by rw[<-j.1];exact SR) ws _ _ ⟨rfl,none,none,rfl⟩ ?_ ?_)
  .rintro v hv U M' ⟨rfl,x,y,rfl⟩ nx Sm
   exact⟨rfl,⟨v.2,pl,nl,pn,nm,rfl,hp,hn,hl v hv,λg=>Sm g _ _ ⟨rfl,_,_,rfl⟩,λg=>rr (by rw[eb];exact u7 (f:=λw:qu=>oh pn nm w.2) hv g)⟩⟩
  .rintro Sl U M' ⟨rfl,x,y,rfl⟩
   exact⟨M,.refl,q (by rw[eb];exact cL.mpr Sl)⟩
structure ng where
 kW:List pF
 groups:List pN
 kY:List qu
noncomputable def ng.pn(l:ng):QQQ:=l.kW.map (·.1)
noncomputable def ng.gn(l:ng):QQQ:=l.groups.map (·.1)
noncomputable def ng.nm(l:ng):QQQ:=l.pn++l.gn
structure oM(l:ng):Prop where
 p1:1<=l.kW.length
 p8:l.kW.length<=8
 po:∀p∈l.kW,A8 p
 g3:l.groups.length<=3
 go:∀g∈l.groups,BM l.pn g
 nd:l.nm.Nodup
 mw:l.kY.length<=16
 wo:∀w∈l.kY,tV l.pn l.nm w.2
def vo{ss:QQQ}(h:ss.Nodup):pf ss=true:=by unfold pf;rw[Dt ss h];simp
noncomputable def sg(l:ng):Bool:=wA l.kW&&(wc l.pn l.groups&&(pf l.nm&&wV l.pn l.nm l.kY))
structure vg(l:ng):Prop where
 p:l.kW.length<=1000
 g:l.groups.length<=1000
 w:l.kY.length<=1000
 po:∀p∈l.kW,p.1.length<=1000
 go:∀g∈l.groups,g.1.length<=1000/\g.2.2.length<4000
 wo:∀w∈l.kY,w.2.lP
def Ah(a:Ad):sv:=λds M Q R=>Gc λr1 r2 r3 (l:ng)=>ds=[.ref r1,.ref r2,.ref r3]/\lO M r1=some (l.kW.map nV)/\lO M r2=some (l.groups.map nN)/\lO M r3=some (l.kY.map pS)/\vg l/\(sg l=true->Q .k9 M)/\(sg l=false->∀M',nJ M M'->R a.g none M')
def wY{ss:QQQ}(h:pf ss=true):ss.Nodup:=by
 have h:(qe ss).length=ss.length:=by unfold pf at h;have:=dr.mp h;lia
 suffices key:∀r:QQQ,(qe r.reverse).length=r.reverse.length->r.reverse.Nodup by have:=key ss.reverse;rw[List.reverse_reverse]at this;exact this h
 intro r;induction r with
 | nil=>intro _;exact gE
 | cons k r ih=>
  intro h;rw[List.reverse_cons]at h ⊢;generalize r.reverse=l at ih h ⊢;rw[vh]at h;split at h
  .have:=Fo l;rw[bS,cC]at h;lia
  .rename_i hk;rw[bS,bS,cC]at h;have h1:=ih (by lia);rw[GE]at hk;refine dZ.mpr ⟨h1,by simp,λx hx y hy=>?_⟩;rw[c8.mp hy];exact λz=>hk (z ▸ hx)
def Ge{pn nm:QQQ}{v:Wi}(f:v.lP)(h:oh pn nm v=true):tV pn nm v:=by
 have ne:∀{x y:Str},(!(x==y))=true->x≠y:=λh z=>by simp[z]at h
 cases v with
 | bar x ns=>obtain⟨h1,h2⟩:=(bR _ _).mp h;exact⟨h1,f,h2⟩
 | shut x ns=>obtain⟨h1,h2⟩:=(bR _ _).mp h;exact⟨h1,f,h2⟩
 | always x y=>obtain⟨h1,h2⟩:=(bR _ _).mp h;obtain⟨h2,h3⟩:=(bR _ _).mp h2;exact⟨h1,h2,ne h3⟩
 | night x y f l=>obtain⟨h1,h2⟩:=(bR _ _).mp h;obtain⟨h2,h3⟩:=(bR _ _).mp h2;obtain⟨h3,h4⟩:=(bR _ _).mp h3;obtain⟨h4,h5⟩:=(bR _ _).mp h4;obtain⟨h5,h6⟩:=(bR _ _).mp h5;obtain⟨a1,a2⟩:=(bR _ _).mp h3;obtain⟨b1,b2⟩:=(bR _ _).mp h4;exact⟨h1,h2,ne h5,⟨bU a1,bU a2⟩,⟨bU b1,bU b2⟩,λz=>by simp[z]at h6⟩
 | busy x y=>obtain⟨h1,h2⟩:=(bR _ _).mp h;obtain⟨h2,h3⟩:=(bR _ _).mp h2;exact⟨h1,h2,ne h3⟩
 | silent x y n=>obtain⟨h1,h2⟩:=(bR _ _).mp h;obtain⟨h2,h3⟩:=(bR _ _).mp h2;obtain⟨h3,h4⟩:=(bR _ _).mp h3;obtain⟨a1,a2⟩:=(bR _ _).mp h3;exact⟨h1,h2,ne h4,bU a1,bU a2⟩
 | wait x=>exact h
 | breaks x=>exact h
def u5{l:ng}(f:vg l)(h:sg l=true):oM l:=by
 obtain⟨h1,h2⟩:=(bR _ _).mp h;obtain⟨h2,h3⟩:=(bR _ _).mp h2;obtain⟨h3,h4⟩:=(bR _ _).mp h3;obtain⟨a1,a2⟩:=(bR _ _).mp h1;obtain⟨a1,a3⟩:=(bR _ _).mp a1;obtain⟨b1,b2⟩:=(bR _ _).mp h2;obtain⟨c1,c2⟩:=(bR _ _).mp h4;have a1:=bU a1;have a3:=bU a3;have b1:=bU b1;have c1:=bU c1;refine⟨by lia,by lia,λp hp=>?_,by lia,λg hg=>?_,wY h3,by lia,λw hw=>Ge (f.wo w hw) (cL.mp c2 w hw)⟩
 .obtain⟨e1,e2⟩:=(bR _ _).mp (cL.mp a2 p hp);obtain⟨e2,e3⟩:=(bR _ _).mp e2;obtain⟨e2,e4⟩:=(bR _ _).mp e2;obtain⟨e3,e5⟩:=(bR _ _).mp e3;exact⟨f.po p hp,e1,bU e2,bU e4,bU e3,bU e5⟩
 .obtain⟨e1,e2⟩:=(bR _ _).mp (cL.mp b2 g hg);obtain⟨e2,e3⟩:=(bR _ _).mp e2;refine⟨(f.go g hg).1,e1,?_,(f.go g hg).2,e3⟩;have e2:inD (.str g.2.1) ((["all","turns"]:QQQ).map D.str)=true:=e2;rw[qC]at e2;obtain⟨x,hx,e⟩:=e7.mp e2;have e:=dr.mp e;subst e;rcases bT.mp hx with z|z
  .exact .inl z
  .exact .inr (c8.mp z)
noncomputable def BQ:D->D
 | .tup (x::_)=>x
 | _=>.k9
def vN(ps:List pF):(ps.map nV).map BQ=(ps.map (·.1)).map D.str:=by rw[cB,cB];rfl
def vP(ps:List pN):(ps.map nN).map BQ=(ps.map (·.1)).map D.str:=by rw[cB,cB];rfl
def zO:Dh P w K mg base 6 a.N (Ah a):=by
 refine tN G.N.toDG tf (by walk_at "m") (λ_ _ _ _ _ _ R hr hR=>⟨_,(mF (mV (ny (yc G) (hr.mono (by first|decide|lia)) rfl G.I.mg G.I.toDG.kp G.I.b nO hR (nP v0)))
 (mF (qh (i:=3) tf.nd rfl (Or.inl rfl) rfl (tM (ix:=[none]) (N':=["phone"]) (by kernel_rfl)) (nR v0) (nw 0) oz (mX v0 mE))
 (mF (mV (ny (xZ G) (hr.mono (by first|decide|lia)) rfl G.J.mg G.J.toDG.kp G.J.b nO hR (qd V1 V3)))
 (mF (mT 4 tf (mL V3 (oI rfl (tM (ix:=[none]) (N':=["group"]) (by kernel_rfl)) (nR V1) (nw 0) oz (mX v0 mE))))
 (mF (mV (ny (oJ G) (hr.mono (by first|decide|lia)) rfl G.c.mg G.c.toDG.kp G.c.b nO hR (qd (mP (AM G) hr G.V (nP v4)) mK)))
 (mG (mV (ny (yb G) (hr.mono (by first|decide|lia)) rfl G.M.mg G.M.toDG.kp G.M.b nO hR (qF V2 V3 v4))))))))),?_⟩)
 .rintro ds M Q ⟨r1,r2,r3,l,rfl,h1,h2,h3,ok,q,rr⟩
  have hz:=cP;have l1:=ok.p;have l2:=ok.g;have eb:sg l=(wA l.kW&&(wc l.pn l.groups&&(pf l.nm&&wV l.pn l.nm l.kY))):=rfl;refine⟨r1,l.kW,rfl,h1,ok.po,λg1=>i' h1 ?_,λg1=>rr (by rw[eb,g1];rfl) _ .refl⟩;rw[g1,cW]at eb;refine n8 (f:=BQ) h1 _ [] _ (by rw[bP];simp only[cA];lia) (λd hd k hk=>?_) λp hp=>?_
  .obtain⟨x,_,rfl⟩:=cj.mp hd;exact hk
  rw[cG,vN];obtain⟨M1,e0,s1,lp⟩:=tR (ds:=(l.kW.map (·.1)).map D.str) hp;rw[<-e0];have lp:lO M1 p=some (l.pn.map D.str):=lp;refine⟨r2,l.groups,p,l.pn,rfl,s1.lst h2,lp,ok.go,λg2=>?_,λg2=>rr (by rw[eb,g2];rfl) _ s1⟩;rw[g2,cW]at eb;refine i' (s1.lst h2) (n8 (f:=BQ) (s1.lst h2) _ [] _ (by rw[bP];simp only[cA];lia) (λd hd k hk=>?_) λp2 SL=>?_)
  .obtain⟨x,_,rfl⟩:=cj.mp hd;exact hk
  rw[cG,vP];have s2:=nJ.new (c:=.lst ((l.groups.map (·.1)).map D.str)) SL;refine i' (s2.lst lp) (i' mI ⟨?_,λp3 Ug=>?_⟩)
  .rw[bP,bP,bP];show(l.kW.map (·.1)).length+_<=_;rw[bP];lia
  have en:l.pn.map D.str++(l.groups.map (·.1)).map D.str=l.nm.map D.str:=by unfold ng.nm;rw[cy];rfl
  rw[en];have s3:=s2.trans (nJ.new (c:=.lst (l.nm.map D.str)) Ug);have l3:=@mI (mS M1 p2 (.lst ((l.groups.map (·.1)).map D.str))) p3 (l.nm.map D.str);generalize mS (mS M1 p2 (.lst ((l.groups.map (·.1)).map D.str))) p3 (.lst (l.nm.map D.str))=M3 at s3 l3 ⊢;have ln:l.nm.length<4000:=by unfold ng.nm ng.pn ng.gn;rw[bS,bP,bP];lia
  refine⟨_,l.nm,rfl,.inr ⟨p3,rfl,l3⟩,ln,_,_,rfl,λg3=>?_,λg3=>rr (by rw[eb,g3];rfl) _ (s1.trans s3)⟩;rw[g3,cW]at eb;exact⟨r3,l.kY,p,p3,l.pn,l.nm,rfl,s3.lst (s1.lst h3),s3.lst lp,l3,ok.wo,λg4=>⟨M,s1.trans s3,q (by rw[eb];exact g4)⟩,λg4=>rr (by rw[eb];exact g4) _ (s1.trans s3)⟩
noncomputable def LO(ph gr ws on pr gd:Addr):V0 (Str×D):=[("phones",.ref ph),("groups",.ref gr),("wishes",.ref ws),("on",.ref on),("phone_rows",.ref pr),("group_rows",.ref gd)]
noncomputable def O1(l:ng):V0 (oK×D):=l.kW.map λp=>(Sum.inr p.1,nV p)
noncomputable def HD(l:ng):V0 (oK×D):=l.groups.map λg=>(Sum.inr g.1,nN g)
def pP(a:Ad)(M:Mp)(rs:QXQ)(ws:List qu):Prop:=rs.length=ws.length/\∀(i:Nat) (r:Addr) (v:qu),rs[i]?=some r->ws[i]?=some v->M r=some (.ins (v.2.cls a) v.2.lX)
def wZ(a:Ad)(M:Mp)(p:Addr)(l:ng):Prop:=P8 λph gr ws on pr gd (rs:QXQ)=>M p=some (.ins a.j (LO ph gr ws on pr gd))/\lO M ph=some (l.kW.map nV)/\lO M gr=some (l.groups.map nN)/\
 lO M ws=some (rs.map D.ref)/\lO M on=some (l.kY.map λw=>D.bl w.1)/\wW M pr=some (O1 l)/\wW M gd=some (HD l)/\pP a M rs l.kY
def pP.keep{a:Ad}{M M':Mp}{p:Addr}{rs:QXQ}{ws:List qu}(h:pP a M rs ws)(k:uq p M M')(n:∀r∈rs,r≠p):pP a M' rs ws:=⟨h.1,λi r v e1 e2=>k r _ (n r (dt e1)) (h.2 i r v e1 e2)⟩
def pP.sub{a:Ad}{M M':Mp}{rs:QXQ}{ws:List qu}(h:pP a M rs ws)(k:nJ M M'):pP a M' rs ws:=⟨h.1,λi r v e1 e2=>k r _ (h.2 i r v e1 e2)⟩
def Kv(a:Ad):sv:=λds M Q R=>Ju λp r1 r2 r3 (l:ng)=>ds=[.ref p,.ref r1,.ref r2,.ref r3]/\M p=some (.ins a.j [])/\lO M r1=some (l.kW.map nV)/\lO M r2=some (l.groups.map nN)/\lO M r3=some (l.kY.map pS)/\vg l/\
 (sg l=true->∀M',uq p M M'->wZ a M' p l->(∀RW,(∀b c,(b=p\/M b=none)->M' b=some c->RW b=some c)->wZ a RW p l)->Q .k9 M')/\(sg l=false->∀M',nJ M M'->R a.g none M')
def rN{M N:Mp}{p x:Addr}{c:s9}(k:uq p M N)(hp:N p=some c)(h:N x=none):M x=none:=by
 cases e:M x with
 | none=>rfl
 | some d=>
  have n:x≠p:=λz=>by rw[z,hp]at h;cases h
  rw[k x d n e]at h;cases h
def AZ{M:Mp}{a:Addr}{es:V0 (oK×D)}(h:wW M a=some es):M a=some (.dk es):=by
 unfold wW at h;split at h
 .rename_i e;rw[e];cases h;rfl
 .cases h
theorem vI{α:Type}(f:α->Str)(g:α->D):∀l:List α,tQ (l.map λx=>D.tup [.str (f x),g x])=some (l.map λx=>(Sum.inr (f x),g x))
 | []=>rfl
 | x::r=>by show(tQ (r.map λx=>D.tup [.str (f x),g x])).map ((Sum.inr (f x),g x)::·)=_;rw[vI f g r];rfl
def Gk{ss:QQQ}(h:ss.Nodup):(ss.map λx=>(Sum.inr x:oK)).Nodup:=by
 induction ss with
 | nil=>exact gE
 | cons x r ih=>obtain⟨h1,h2⟩:=eV.mp h;rw[cY];refine eV.mpr ⟨λz=>h1 ?_,ih h2⟩;obtain⟨y,hy,e⟩:=cj.mp z;cases e;exact hy
def zu{α:Type}{f:α->Str}{g:α->D}{l:List α}(h:(l.map f).Nodup):((l.map λx=>((Sum.inr (f x):oK),g x)).map (·.1)).Nodup:=by rw[cB];have:=Gk h;rw[cB]at this;exact this
noncomputable def yp(d:D):D:=.tup [BQ d,d]
noncomputable def Rj:D->D
 | .tup (x::_)=>x
 | _=>.k9
def Mv(ws:List qu):(ws.map pS).map Rj=ws.map λw=>D.bl w.1:=by rw[cB];rfl
def Cv(ps:List pF):(ps.map nV).map yp=ps.map λp=>D.tup [.str p.1,nV p]:=by rw[cB];rfl
def CV(ps:List pN):(ps.map nN).map yp=ps.map λp=>D.tup [.str p.1,nN p]:=by rw[cB];rfl
def pP.snoc{a:Ad}{M:Mp}{rs:QXQ}{ws:List qu}{r:Addr}{v:qu}(h:pP a M rs ws)(n:M r=none):pP a (mS M r (.ins (v.2.cls a) v.2.lX)) (rs++[r]) (ws++[v]):=by
 refine⟨by rw[bS,bS,h.1];rfl,λi r' v' e1 e2=>?_⟩;by_cases hi:i<rs.length
 .rw[dM hi]at e1;rw[dM (by rw[<-h.1];exact hi)]at e2;have:=h.2 i r' v' e1 e2;rw[pL (HB this n)];exact this
 .have UJ:i=rs.length:=by have:=(bW.mp e1).1;rw[bS,cC]at this;lia
  subst UJ;rw[dW (cq _)]at e1;rw[h.1,dW (cq _)]at e2;simp only[Nat.sub_self,List.getElem?_cons_zero,Option.some.injEq]at e1 e2;subst e1 e2;exact m7
def Jo:Dh P w K mg base 7 a.ab (Kv a):=by
 refine tN G.ab.toDG Bf (by walk_at "m") (λ_ _ _ _ _ _ R hr hR=>⟨_,(mF (mV (ny (zO G) (hr.mono (by first|decide|lia)) rfl G.N.mg G.N.toDG.kp G.N.b nO hR (qF V1 V2 V3)))
 (mF (p9 v0 (nK wU rfl G.am wG (nP V1)))
 (mF (p9 v0 (nK wU rfl G.am wG (nP V2)))
 (mF (p9 v0 (oI rfl (tM (ix:=[none,none]) (N':=["on","wish"]) (by kernel_rfl)) (nR V3) (pT (n:=2) rfl (mQ (nw 0) (mQ (nw 1) oY))) oz (mP (Dg G) hr G.ao (nP V1))))
 (mF (p9 v0 (oI rfl (tM (ix:=[none,none]) (N':=["on","wish"]) (by kernel_rfl)) (nR V3) (pT (n:=2) rfl (mQ (nw 0) (mQ (nw 1) oY))) oz v0))
 (mF (p9 v0 (nK (Fl rfl) rfl G.a2 Fs (nP (oI rfl (tM (ix:=[none]) (N':=["phone"]) (by kernel_rfl)) (nR V1) (nw 0) oz (og (qd (mX v0 mE) v0))))))
 (mG (p9 v0 (nK (Fl rfl) rfl G.a2 Fs (nP (oI rfl (tM (ix:=[none]) (N':=["group"]) (by kernel_rfl)) (nR V2) (nw 0) oz (og (qd (mX v0 mE) v0))))))))))))),?_⟩)
 .rintro ds M Q ⟨p,r1,r2,r3,l,rfl,hp,h1,h2,h3,fw,q,rr⟩
  have hz:=cP;refine⟨r1,r2,r3,l,rfl,h1,h2,h3,fw,λgb=>?_,rr⟩;have ok:=u5 fw gb;have q:=q gb;have l1:=ok.p8;have l2:=ok.g3;have l3:=ok.mw;refine i' h1 λph hph=>?_;obtain⟨n1,e1,k1,c1,p1⟩:=uZ (fs':=[("phones",.ref ph)]) (c:=.lst (l.kW.map nV)) hp hph;refine oZ e1 ⟨(G.T "phones" rfl),by show 0<1000;decide,?_⟩;show yT _ _ _ _ (mS (mS M ph (.lst (l.kW.map nV))) p (.ins a.j [("phones",.ref ph)]));generalize mS (mS M ph (.lst (l.kW.map nV))) p (.ins a.j [("phones",.ref ph)])=N1 at k1 c1 p1 ⊢;have Th:=k1.lst (oN h1 hp) h1;have Uv:=k1.lst (oN h2 hp) h2;have h3':=k1.lst (oN h3 hp) h3;have f1:lO N1 ph=some (l.kW.map nV):=uJ c1;refine i' Uv λgr hgr=>?_;obtain⟨n2,e2,k2,c2,p2⟩:=uZ (fs':=[("phones",.ref ph),("groups",.ref gr)]) (c:=.lst (l.groups.map nN)) p1 hgr;refine oZ e2 ⟨(G.T "groups" rfl),by show 1<1000;decide,?_⟩;show yT _ _ _ _ (mS (mS N1 gr (.lst (l.groups.map nN))) p (.ins a.j [("phones",.ref ph),("groups",.ref gr)]));generalize mS (mS N1 gr (.lst (l.groups.map nN))) p (.ins a.j [("phones",.ref ph),("groups",.ref gr)])=N2 at k2 c2 p2 ⊢;have g1:=k2.lst (oN Th p1) Th;have g2:=k2.lst (oN Uv p1) Uv;have g3:=k2.lst (oN h3' p1) h3';have f2:=k2.lst (oN f1 p1) f1;have f3:lO N2 gr=some (l.groups.map nN):=uJ c2;have kk2:=k1.trans k2;have m2:M gr=none:=rN k1 p1 hgr;clear Th Uv h3' f1 c1 c2 k1 k2 e1 e2;refine i' g3 ?_;refine va (l.kY.map pS) (λpre acc U Mx=>(∃x y,U=[x,y])/\nJ N2 Mx/\∃rs:QXQ,acc=rs.map D.ref/\(∀r∈rs,N2 r=none)/\pP a Mx rs (l.kY.take pre.length)) (λpre acc U Mx j=>j.2.1.lst g3) _ [] [] _ _ rfl (by rw[bP];simp only[cA];lia) ⟨⟨none,none,rfl⟩,.refl,[],rfl,λr hr=>absurd hr (bY),rfl,λi r v e=>by simp at e⟩ ?_ ?_
  .rintro pre d post e acc U Mx ⟨⟨x,y,rfl⟩,sx,rs,rfl,fr,wa⟩ k hk
   obtain⟨v,hv,rfl⟩:∃v,l.kY[pre.length]?=some v/\d=pS v:=by
    have:(l.kY.map pS)[pre.length]?=some d:=by rw[<-e];simp
    rw[cD]at this;cases z:l.kY[pre.length]? with
    | none=>rw[z]at this;cases this
    | some v=>rw[z]at this;exact⟨v,rfl,(ce this).symm⟩
   refine⟨rfl,⟨v.2,rfl,λr hr=>hk _ _ _ ⟨⟨_,_,rfl⟩,sx.trans (.new hr),rs++[r],?_,λr' hr'=>?_,?_⟩⟩⟩
   .rw[cy];rfl
   .rcases c7.mp hr' with z|z
    .exact fr r' z
    .rw[c8.mp z];exact sx.none hr
   .rw[bS,cC,fz,hv];exact wa.snoc hr
  rintro acc U Mx ⟨⟨x,y,rfl⟩,sx,rs,rfl,fr,wa⟩ ws SA
  have wa:pP a Mx rs l.kY:=by rw[bP,dC]at wa;exact wa
  obtain⟨n3,e3,k3,c3,p3⟩:=uZ (fs':=[("phones",.ref ph),("groups",.ref gr),("wishes",.ref ws)]) (c:=.lst (rs.map D.ref)) (sx _ _ p2) SA;refine oZ e3 ⟨(G.T "wishes" rfl),by show 2<1000;decide,?_⟩;show yT _ _ _ _ (mS (mS Mx ws (.lst (rs.map D.ref))) p (.ins a.j [("phones",.ref ph),("groups",.ref gr),("wishes",.ref ws)]));generalize mS (mS Mx ws (.lst (rs.map D.ref))) p (.ins a.j [("phones",.ref ph),("groups",.ref gr),("wishes",.ref ws)])=N3 at k3 c3 p3 ⊢;have px:=sx _ _ p2;have i1:=k3.lst (oN (sx.lst g1) px) (sx.lst g1);have i2:=k3.lst (oN (sx.lst g2) px) (sx.lst g2);have i3:=k3.lst (oN (sx.lst g3) px) (sx.lst g3);have f4:=k3.lst (oN (sx.lst f2) px) (sx.lst f2);have f5:=k3.lst (oN (sx.lst f3) px) (sx.lst f3);have f6:lO N3 ws=some (rs.map D.ref):=uJ c3;have rp:∀r∈rs,r≠p:=λr hr z=>by have:=fr r hr;rw[z,p2]at this;cases this
  have w3:=wa.keep k3 rp;have kk3:=(kk2.trans sx.keep).trans k3;have m3:M ws=none:=rN (kk2.trans sx.keep) px SA;have mr:∀r∈rs,M r=none:=λr hr=>rN kk2 p2 (fr r hr);clear g1 g2 g3 f2 f3 c3 k3 e3 wa px kk2;refine i' i3 (su (f:=Rj) (λU=>∃x y,U=[x,y]) i3 _ [] _ ⟨none,none,rfl⟩ (by rw[bP];simp only[cA];lia) (λd hd U hj k hk=>?_) λon hon=>?_)
  .obtain⟨x,y,rfl⟩:=hj;obtain⟨v,_,rfl⟩:=cj.mp hd;exact⟨rfl,hk _ ⟨_,_,rfl⟩⟩
  rw[cG,Mv];obtain⟨n4,e4,k4,c4,p4⟩:=uZ (fs':=[("phones",.ref ph),("groups",.ref gr),("wishes",.ref ws),("on",.ref on)]) (c:=.lst (l.kY.map λw=>D.bl w.1)) p3 hon;refine oZ e4 ⟨(G.T "on" rfl),by show 3<1000;decide,?_⟩;show yT _ _ _ _ (mS (mS N3 on (.lst (l.kY.map λw=>D.bl w.1))) p (.ins a.j [("phones",.ref ph),("groups",.ref gr),("wishes",.ref ws),("on",.ref on)]));generalize mS (mS N3 on (.lst (l.kY.map λw=>D.bl w.1))) p (.ins a.j [("phones",.ref ph),("groups",.ref gr),("wishes",.ref ws),("on",.ref on)])=N4 at k4 c4 p4 ⊢;have j1:=k4.lst (oN i1 p3) i1;have j2:=k4.lst (oN i2 p3) i2;have f7:=k4.lst (oN f4 p3) f4;have f8:=k4.lst (oN f5 p3) f5;have f9:=k4.lst (oN f6 p3) f6;have fa:lO N4 on=some (l.kY.map λw=>D.bl w.1):=uJ c4;have w4:=w3.keep k4 rp;have kk4:=kk3.trans k4;have m4:M on=none:=rN kk3 p3 hon;clear i1 i2 i3 f4 f5 f6 c4 k4 e4 w3 kk3;refine i' j1 (n8 (f:=yp) j1 _ [] _ (by rw[bP];simp only[cA];lia) (λd hd k hk=>?_) λq1 TM=>?_)
  .obtain⟨v,_,rfl⟩:=cj.mp hd;exact⟨lP rfl,hk⟩
  rw[cG,Cv];have sq1:=nJ.new (c:=.lst (l.kW.map λp=>D.tup [.str p.1,nV p])) TM;refine i' mI (i' (vI (λp:pF=>p.1) nV l.kW) ⟨zu (jW (List.sublist_append_left _ _) ok.nd),λpr hpr=>?_⟩);obtain⟨n5,e5,k5,c5,p5⟩:=uZ (fs':=[("phones",.ref ph),("groups",.ref gr),("wishes",.ref ws),("on",.ref on),("phone_rows",.ref pr)]) (c:=.dk (l.kW.map λx=>(Sum.inr x.1,nV x))) (sq1 _ _ p4) hpr;refine oZ e5 ⟨(G.T "phone_rows" rfl),by show 4<1000;decide,?_⟩;have k5:=sq1.keep.trans k5;have eput:yK "phone_rows" (.ref pr) [("phones",.ref ph),("groups",.ref gr),("wishes",.ref ws),("on",.ref on)]=([("phones",.ref ph),("groups",.ref gr),("wishes",.ref ws),("on",.ref on),("phone_rows",.ref pr)]:V0 (Str×D)):=rfl;rw[eput];generalize mS (mS (mS N4 q1 (.lst (l.kW.map λp=>D.tup [.str p.1,nV p]))) pr (.dk (l.kW.map λx=>(Sum.inr x.1,nV x)))) p (.ins a.j [("phones",.ref ph),("groups",.ref gr),("wishes",.ref ws),("on",.ref on),("phone_rows",.ref pr)])=N5 at k5 c5 p5 ⊢;have mm:=k5.lst (oN j2 p4) j2;have fb:=k5.lst (oN f7 p4) f7;have fc:=k5.lst (oN f8 p4) f8;have fd:=k5.lst (oN f9 p4) f9;have fe:=k5.lst (oN fa p4) fa;have ff:wW N5 pr=some (O1 l):=Ew c5;have w5:=w4.keep k5 rp;have kk5:=kk4.trans k5;have m5:M pr=none:=rN (kk4.trans sq1.keep) (sq1 _ _ p4) hpr;clear j1 j2 f7 f8 f9 fa c5 k5 e5 w4 kk4;refine i' mm (n8 (f:=yp) mm _ [] _ (by rw[bP];simp only[cA];lia) (λd hd k hk=>?_) λq2 Uw=>?_)
  .obtain⟨v,_,rfl⟩:=cj.mp hd;exact⟨lP rfl,hk⟩
  rw[cG,CV];have sq2:=nJ.new (c:=.lst (l.groups.map λg=>D.tup [.str g.1,nN g])) Uw;refine i' mI (i' (vI (λp:pN=>p.1) nN l.groups) ⟨zu (jW (List.sublist_append_right _ _) ok.nd),λgd hgd=>?_⟩);obtain⟨n6,e6,k6,c6,p6⟩:=uZ (fs':=LO ph gr ws on pr gd) (c:=.dk (HD l)) (sq2 _ _ p5) hgd;have k6:=sq2.keep.trans k6;refine oZ e6 ⟨(G.T "group_rows" rfl),by show 5<1000;decide,_,.refl,?_⟩;have m6:M gd=none:=rN (kk5.trans sq2.keep) (sq2 _ _ p5) hgd;have w6:=w5.keep k6 rp;have y1:=k6.lst (oN fb p5) fb;have y2:=k6.lst (oN fc p5) fc;have y3:=k6.lst (oN fd p5) fd;have y4:=k6.lst (oN fe p5) fe;have y5:=k6.dk (OH ff p5) ff;refine q _ (kk5.trans k6) ⟨ph,gr,ws,on,pr,gd,rs,p6,y1,y2,y3,y4,y5,Ew c6,w6⟩ λRW hs=>?_;exact⟨ph,gr,ws,on,pr,gd,rs,hs _ _ (.inl rfl) p6,uJ (hs _ _ (.inr hph) (oP y1)),uJ (hs _ _ (.inr m2) (oP y2)),uJ (hs _ _ (.inr m3) (oP y3)),uJ (hs _ _ (.inr m4) (oP y4)),Ew (hs _ _ (.inr m5) (AZ y5)),Ew (hs _ _ (.inr m6) c6),w6.1,λi r v e1 e2=>hs _ _ (.inr (mr r (dt e1))) (w6.2 i r v e1 e2)⟩
def Wd(w:Str):Prop:=32∉w.cps.toList/\10∉w.cps.toList/\w.length<=900
abbrev qi(n:Int):Str:=Str.ofString (toString n)
noncomputable def pR(w:Str):Bool:=(decide ((1:Int)<=w.length)&&decide ((w.length:Int)<=2))&&w.cps.toList.all λc=>qq ⟨#[c]⟩ "0123456789"
noncomputable def oa(w:Str):Int:=(PySem.intText? w).getD 0
def GK:∀i:_root_.Fin 10,("0123456789":Str).cps.extract i.val (i.val+1)=#[48+i.val]:=by decide+kernel
def HR{c:Nat}(h:qq ⟨#[c]⟩ "0123456789"=true):48<=c/\c<=57:=by
 by_cases hc:48<=c/\c<=57
 .exact hc
 .have no:=W.occ_nil_of_no (x:="0123456789") (y:=⟨#[c]⟩) 1 λi hi=>by
   have hi:i+1<=10:=hi;have e:("0123456789":Str).cps.extract i (i+1)=#[48+i]:=GK ⟨i,by lia⟩;show(("0123456789":Str).cps.extract i (i+1)==#[c])=false;rw[e,dN];intro z;have:48+i=c:=by simpa using z
   lia
  unfold qq at h;rw[no]at h;cases h
def KB:∀c d:_root_.Fin 10,(PySem.intText? ⟨#[48+c.val,48+d.val]⟩).isSome=true/\0<=oa ⟨#[48+c.val,48+d.val]⟩/\oa ⟨#[48+c.val,48+d.val]⟩<=99:=by decide+kernel
def Jz:∀c:_root_.Fin 10,(PySem.intText? ⟨#[48+c.val]⟩).isSome=true/\0<=oa ⟨#[48+c.val]⟩/\oa ⟨#[48+c.val]⟩<=99:=by decide+kernel
def AH(w:Str)(hw:Wd w):w.length<=900/\(pR w=true->PySem.intText? w=some (oa w)/\0<=oa w/\oa w<=99):=by
 refine⟨hw.2.2,λh=>?_⟩;have key:(PySem.intText? w).isSome=true/\0<=oa w/\oa w<=99:=by
  unfold pR at h;obtain⟨h1,h2⟩:=gg.mp h;obtain⟨h3,h4⟩:=gg.mp h1;have h3:(1:Int)<=w.length:=bU h3;have h4:(w.length:Int)<=2:=bU h4;have hl:w.cps.toList.length=w.length:=by simp[Str.length]
  have all:=λc hc=>HR (cL.mp h2 c hc);obtain⟨⟨l⟩⟩:=w;have hl:l.length=(Str.mk ⟨l⟩).length:=hl;have all:∀c∈l,48<=c/\c<=57:=all;have one:∀c,48<=c/\c<=57->∃k:_root_.Fin 10,c=48+k.val:=λc h=>⟨⟨c - 48,by lia⟩,by show c=48+(c - 48);lia⟩
  match l,hl,all with
  | [],hl,_=>exact absurd h3 (by rw[<-hl];decide)
  | [c],_,all=>obtain⟨k,rfl⟩:=one c (all c (by simp));exact Jz k
  | [c,d],_,all=>obtain⟨k,rfl⟩:=one c (all c (by simp));obtain⟨m,rfl⟩:=one d (all d (by simp));exact KB k m
  | _::_::_::r,hl,_=>rw[<-hl]at h4;simp at h4;lia
 refine⟨?_,key.2⟩;obtain⟨n,hn⟩:=dO.mp key.1;unfold oa;rw[hn];rfl
noncomputable def IH:QQQ:=["lines","rank","hour","turns"]
noncomputable def Ha:QQQ:=["names","phones"]
noncomputable def Oe(k:Str):Bool:=inD (.str k) (IH.map D.str)
noncomputable def L9(k:Str):Bool:=inD (.str k) (Ha.map D.str)
noncomputable def qf(p:Str×Str):Option D:=if Oe p.1=true then(if pR p.2=true then some (.int (oa p.2))else none)else some (.str p.2)
noncomputable def rX(ks:QQQ)(k:Str)(ws:QQQ):Option (V0 D):=
 if L9 k=true then(if ks.length<=ws.length then((ks.zip ws).mapM qf).map (·++[names (ws.drop ks.length)])else none)
 else if ws.length=ks.length+1 then((ks++[k]).zip ws).mapM qf else none
def Iq{α:Type}(l:List α)(x:α):tY (l++[x]) (-1)=some x:=by
 unfold tY;have:Eo (l++[x]).length (-1)=some l.length:=by unfold Eo;rw[bS,cC];simp;lia
 rw[this];show(l++[x])[l.length]?=some x;simp
def tJ{α:Type}(x:α)(l:List α):tY (x::l) 0=some x:=by
 unfold tY;have:Eo (x::l).length 0=some 0:=by unfold Eo;rw[b8];simp
 rw[this];rfl
def Dz(ds:V0 D)(m:Nat)(h:m<=ds.length):L3.qx ds none (some (m:Int))=ds.take m:=by unfold L3.qx;rw[HT.zI,HT.wB,gD,iL,eX h]
def uG(ds:V0 D)(m:Nat)(h:m<=ds.length):L3.qx ds (some (m:Int)) none=ds.drop m:=by unfold L3.qx;rw[HT.zI,HT.wB,eX h];exact dh (by rw[cU];exact cq _)
noncomputable def GT(p:Str×Str):D:=.tup [.str p.1,.str p.2]
theorem xy:∀ks ws:QQQ,sy (ks.map D.str) (ws.map D.str)=(ks.zip ws).map GT
 | [],_=>by cases ‹QQQ›<;>rfl
 | _::_,[]=>rfl
 | k::ks,w::ws=>by show D.tup [.str k,.str w]::sy (ks.map D.str) (ws.map D.str)=_;rw[xy ks ws];rfl
def FV(a:Ad):sv:=λds M Q R=>∃w,ds=[.str w]/\Wd w/\(pR w=true->Q (.int (oa w)) M)/\(pR w=false->∀M',nJ M M'->R a.g none M')
def G5(a:Ad):sv:=λds M Q R=>yZ λk w=>ds=[.str k,.str w]/\Wd w/\(∀d,qf (k,w)=some d->Q d M)/\(qf (k,w)=none->∀M',nJ M M'->R a.g none M')
def Hb(a:Ad):sv:=λds M Q R=>Gc λks k r (ws:QQQ)=>ds=[.tup (List.map D.str (ks++[k])),.ref r]/\lO M r=some (ws.map D.str)/\ks.length<=3/\ws.length<=901/\(∀w∈ws,Wd w)/\(∀es,rX ks k ws=some es->Q (.tup es) M)/\(rX ks k ws=none->∀M',nJ M M'->R a.g none M')
def F4:Dh P w K mg base 3 a.O (FV a):=by
 refine tN G.O.toDG Bm (by walk_at "m") (λ_ _ _ _ _ _ R hr hR=>⟨_,(mF (mV (ny (oJ G) (hr.mono (by first|decide|lia)) rfl G.c.mg G.c.toDG.kp G.c.b nO hR (qd (qj (yi hr) mE (mJ mZ rfl G.e mY (nP v0)) (oB rfl G.bC)) mK)))
 (mF (mV (ny (oJ G) (hr.mono (by first|decide|lia)) rfl G.c.mg G.c.toDG.kp G.c.b nO hR (qd (mJ (zj rfl) rfl G.an yB (nP (oI rfl (tM (ix:=[none]) (N':=["sign"]) (by kernel_rfl)) (nR v0) (nw 0) oz (nY (yi hr) v0 (oB rfl G.bD))))) mK)))
 (mG (mM (nK BR rfl G.aJ A9 (nP v0)))))),?_⟩)
 .rintro ds M Q ⟨w0,rfl,hw,q,rr⟩
  have hz:=cP;obtain⟨hl,Ve⟩:=AH w0 hw;have eb:pR w0=((decide ((1:Int)<=w0.length)&&decide ((w0.length:Int)<=2))&&w0.cps.toList.all λc=>qq ⟨#[c]⟩ "0123456789"):=rfl;refine⟨by lia,oo (λh1=>?_) (λh1=>?_)⟩
  .have h1:decide ((1:Int)<=w0.length)=true:=h1;refine⟨_,_,rfl,λh2=>?_,λh2=>rr ?_ _ .refl⟩
   .have h2:decide ((w0.length:Int)<=2)=true:=h2;have Uv:(w0.length:Int)<=2:=bU h2;rw[h1,h2]at eb;refine n8 (f:=λd=>match d with|.str z=>D.bl (qq z "0123456789")|_=>.k9) trivial _ [] _ ?_ (λd hd k hk=>?_) λp hp=>?_
    .rw[bP];have:w0.cps.toList.length=w0.length:=by simp[Str.length]
     simp only[cA];lia
    .obtain⟨c,_,rfl⟩:=cj.mp hd;exact hk
    .refine i' mI ?_;have e:([]++(w0.cps.toList.map λc=>D.str ⟨#[c]⟩).map λd=>match d with|.str z=>D.bl (qq z "0123456789")|_=>.k9)=w0.cps.toList.map λc=>D.bl (qq ⟨#[c]⟩ "0123456789"):=by rw[cG,cB];rfl
     rw[e];refine i' (uf (λc=>qq ⟨#[c]⟩ "0123456789") w0.cps.toList) ⟨_,_,rfl,λh3=>?_,λh3=>rr ?_ _ (.new hp)⟩
     .rw[tE]at h3;have hb:pR w0=true:=by rw[eb,h3];rfl
      exact⟨oa w0,(Ve hb).1,by lia,M,.new hp,q hb⟩
     .rw[tE]at h3;rw[eb,h3];rfl
   .rw[eb,show decide ((w0.length:Int)<=2)=false from h2];cases decide ((1:Int)<=w0.length)<;>rfl
  .refine⟨false,_,rfl,(λz=>by cases z),λ_=>rr ?_ _ .refl⟩;rw[eb,show decide ((1:Int)<=w0.length)=false from cE.mpr h1];rfl
def IP:Dh P w K mg base 4 a.P (G5 a):=by
 refine tN G.P.toDG Eb (by walk_at "m") (λ_ _ _ _ _ _ R hr hR=>⟨_,(mF (nB (mW (yi hr) v0 (oB rfl G.bB))
 (mG (mM (ny (F4 G) (hr.mono (by first|decide|lia)) rfl G.O.mg G.O.toDG.kp G.O.b nO hR (nP V1))))
 mR)
 (mG (mM V1))),?_⟩)
 .rintro ds M Q ⟨k,w0,rfl,hw,q,rr⟩
  refine⟨rfl,rfl,?_⟩;show if Oe k=true then _ else _
  unfold qf at q rr;simp only at q rr;by_cases hk:Oe k=true
  .rw[b9 hk]at q rr ⊢;refine⟨w0,rfl,hw,λh=>⟨M,.refl,q _ (b9 h)⟩,λh=>rr (bV (by rw[h];exact cg))⟩
  .rw[bV hk]at q ⊢;exact⟨M,.refl,q _ rfl⟩
theorem rQ{α β:Type}{f:α->Option β}{x:α}:∀{l:List α},x∈l->f x=none->l.mapM f=none
 | y::r,h,e=>by
  rw[dP];rcases bT.mp h with z|z
  .rw[<-z,e];rfl
  .rw[rQ z e];cases f y<;>rfl
def zH{α:Type}(l:List α):l.filter (λ_=>true)=l:=jI.mpr λ_ _=>rfl
def y9:Dh P w K mg base 5 a.k (Hb a):=by
 refine tN G.k.toDG sG (by walk_at "m") (λ_ _ _ _ _ _ R hr hR=>⟨_,(mF (mT 2 sG (nY (yi hr) (mX v0 (Mw mE)) (oB rfl G.bA)))
 (mF (mT 3 sG (Pp (qU V2) (mL (mJ mZ rfl G.e mY (nP v0)) mE) (mJ mZ rfl G.e mY (nP v0))))
 (mF (mV (ny (oJ G) (hr.mono (by first|decide|lia)) rfl G.c.mg G.c.toDG.kp G.c.b nO hR (qd (nY (yi hr) (mJ mZ rfl G.e mY (nP V1)) V3) mK)))
 (mF (mV (ny (oJ G) (hr.mono (by first|decide|lia)) rfl G.c.mg G.c.toDG.kp G.c.b nO hR (qd (PH V2 (qD (nY (yi hr) (mJ mZ rfl G.e mY (nP V1)) V3))) mK)))
 (mF (sL (i:=4) rfl hR sG.nd rfl (Or.inl rfl) rfl (tM (ix:=[none,none]) (N':=["kind","word"]) (by kernel_rfl)) (KI rfl G.aU (qd (nE v0 nA (nj V3)) V1)) (λ_ _ _ _=>(pT (n:=2) rfl (mQ (nw 0) (mQ (nw 1) oY)))) (λ_ _ _ _=>oz) (λ_ _ _ _=>(uQ (IP G) (hr.mono (by first|decide|lia)) rfl G.P.mg G.P.toDG.kp G.P.b (qd v0 V1))))
 (mF (nB (qU V2)
 (mG (mV (oA v4 (nP (nK tz rfl G.r qN (nP (nE V1 (nj V3) nA)))))))
 mR)
 (mG (mM (nK tz rfl G.r qN (nP v4)))))))))),?_⟩)
 .rintro ds M Q ⟨ks,k,r,ws,rfl,hw,h3,hl,TX,q,rr⟩
  have hz:=cP;have hk:List.map D.str (ks++[k])=ks.map D.str++[.str k]:=by rw[cy];rfl
  have lk:(List.map D.str ks++[D.str k]).length=ks.length+1:=by simp
  have lw:(List.map D.str ws).length=ws.length:=bP ..;rw[hk];refine yJ (t:=rm _ _) (λU M'=>M'=M/\U=[some (.tup (List.map D.str ks++[D.str k])),some (.ref r),some (.bl (L9 k)),none,none]) (λnx h=>i' (Iq _ _) ⟨rfl,rfl,h _ _ ⟨rfl,rfl⟩⟩) ?_
  rintro U M' ⟨rfl,rfl⟩
  unfold rX at q rr;cases hb:L9 k with
  | false=>
   rw[hb,bV cg]at q rr;refine i' hw ⟨decide ((((List.map D.str ks++[D.str k]).length:Nat):Int)<=(List.map D.str ws).length),_,rfl,λg1=>?_,λg1=>rr ?_ _ .refl⟩
   .refine i' hw ⟨(((List.map D.str ws).length:Int)==(List.map D.str ks++[D.str k]).length),_,rfl,λg2=>?_,λg2=>rr ?_ _ .refl⟩
    .have g2:ws.length=ks.length+1:=by have:=dr.mp g2;lia
     rw[b9 g2]at q rr;refine i' hw ?_;have ec:L3.qx (List.map D.str ks++[D.str k]) none (some ↑(List.map D.str ks++[D.str k]).length)=List.map D.str (ks++[k]):=by rw[Dz _ _ (cq _),dC,hk]
     rw[ec,xy];refine uN GT (λ_=>true) qf (λU RW=>RW=M'/\∃x y,U=[x,y]) (λU RW j=>by rw[j.1];exact hw) _ [] _ _ ⟨rfl,_,_,rfl⟩ ?_ ?_ ?_
     .have:=hG (l₁:=ks++[k]) (l₂:=ws);simp only[cA];lia
     .rintro ⟨k1,w1⟩ hd U RW ⟨rfl,x,y,rfl⟩ k0 k2 Us _
      exact⟨rfl,k1,w1,rfl,TX w1 (fN hd).2,λy hy=>Us rfl y hy _ _ ⟨rfl,_,_,rfl⟩,λhn M3 s3=>rr (rQ hd hn) M3 s3⟩
     .rintro ys So U RW ⟨rfl,_⟩ p hp
      rw[zH]at So;rw[cG];exact i' mI ⟨RW,.new hp,q ys So⟩
    .refine bV λz=>?_;rw[lw,lk,z]at g2;simp at g2
   .refine bV λz=>?_;have:=eM g1;rw[lw,lk,z]at this;lia
  | true=>
   rw[hb,b9 rfl]at q rr;refine yJ (t:=rm _ _) (λU RW=>RW=M'/\U=[some (.tup (List.map D.str ks++[D.str k])),some (.ref r),some (.bl true),some (.int (ks.length:Int)),none]) (λnx h=>h _ _ ⟨rfl,by
    have:(((List.map D.str ks++[D.str k]).length:Nat):Int) - 1=(ks.length:Int):=by lia
    rw[<-this];rfl⟩) ?_
   rintro U RW ⟨rfl,rfl⟩
   refine i' hw ⟨decide ((ks.length:Int)<=(List.map D.str ws).length),_,rfl,λg1=>?_,λg1=>rr ?_ _ .refl⟩
   .have g1:ks.length<=ws.length:=by have:=bU g1;lia
    rw[b9 g1]at q rr;refine⟨true,_,rfl,λ_=>i' hw ?_,(λz=>by cases z)⟩;have ec:L3.qx (List.map D.str ks++[D.str k]) none (some (ks.length:Int))=List.map D.str ks:=by rw[Dz _ _ (by lia)];exact(dJ (λn=>(List.map D.str ks++[D.str k]).take n) (bP D.str (as:=ks)).symm).trans List.take_left
    rw[ec,xy];refine uN GT (λ_=>true) qf (λU M3=>M3=RW/\∃x y,U=[x,y]) (λU M3 j=>by rw[j.1];exact hw) _ [] _ _ ⟨rfl,_,_,rfl⟩ ?_ ?_ ?_
    .have:=hG (l₁:=ks) (l₂:=ws);simp only[cA];lia
    .rintro ⟨k1,w1⟩ hd U M3 ⟨rfl,x,y,rfl⟩ k0 k2 Us _
     exact⟨rfl,k1,w1,rfl,TX w1 (fN hd).2,λy hy=>Us rfl y hy _ _ ⟨rfl,_,_,rfl⟩,λhn M3 s3=>rr (by rw[rQ hd hn];rfl) M3 s3⟩
    .rintro ys So U M3 ⟨rfl,_⟩ p hp
     rw[zH]at So;rw[cG];have yl:ys.length<=901:=by
      have:∀{l:V0 (Str×Str)} {ys:V0 D},l.mapM qf=some ys->ys.length=l.length:=λ{l}=>by
       induction l with
       | nil=>intro ys h;cases h;rfl
       | cons x r ih=>
        intro ys h;rw[dP]at h;cases e1:qf x with
        | none=>rw[e1]at h;cases h
        | some y=>
         cases e2:r.mapM qf with
         | none=>rw[e1,e2]at h;cases h
         | some zs=>rw[e1,e2]at h;cases h;rw[b8,b8,ih e2]
      have:=this So;have:=hG (l₁:=ks) (l₂:=ws);lia
     have s1:=nJ.new (c:=.lst ys) hp;have hw1:=s1.lst hw;have c1:=@mI M3 p ys;refine⟨by show(lO (mS M3 p (.lst ys)) p).isSome=true;rw[c1];rfl,?_⟩;refine i' hw1 λp2 SL=>i' mI ?_;have s2:=nJ.new (c:=.lst (L3.qx (List.map D.str ws) (some (ks.length:Int)) none)) SL;refine i' (s2.lst c1) ⟨by lia,?_⟩;have ed:L3.qx (List.map D.str ws) (some (ks.length:Int)) none=(ws.drop ks.length).map D.str:=by rw[uG _ _ (by lia),gj]
     rw[ed]at s2 ⊢;exact i' mI ⟨M3,λx c h=>by rw[pL (HB h hp)];exact s2 x c (s1 x c h),q _ (by rw[So];rfl)⟩
   .refine bV λz=>?_;have:=eM g1;lia
noncomputable def um(ws:QQQ):Option pF:=match ws with
 | [x,l,r]=>if pR l=true then(if pR r=true then some (x,oa l,oa r)else none)else none
 | _=>none
noncomputable def vW(ws:QQQ):Option pN:=match ws with
 | x::m::ms=>some (x,m,ms)
 | _=>none
noncomputable def Ib(f:Str->Str->Wi)(r:QQQ):Option Wi:=match r with
 | [x,y]=>some (f x y)
 | _=>none
noncomputable def rG(ws:QQQ):Option Wi:=match ws with
 | []=>none
 | w::r=>
  if w="bar" then(match r with|x::ns=>some (.bar x ns)|[]=>none)
  else if w="shut" then(match r with|x::ns=>some (.shut x ns)|[]=>none)
  else if w="always" then Ib .always r
  else if w="night" then(match r with|[x,y,f,l]=>if pR f=true then(if pR l=true then some (.night x y (oa f) (oa l))else none)else none|_=>none)
  else if w="busy" then Ib .busy r
  else if w="silent" then(match r with|[x,y,n]=>if pR n=true then some (.silent x y (oa n))else none|_=>none)
  else if w="wait" then(match r with|[x]=>some (.wait x)|_=>none)
  else if w="breaks" then(match r with|[x]=>some (.breaks x)|_=>none)
  else none
noncomputable def uh(ws:QQQ):Option qu:=if ws.head?=some "off" then(rG ws.tail).map λv=>(false,v)else(rG ws).map λv=>(true,v)
def zD(ws:QQQ):(rX ["name","lines"] "rank" ws).map D.tup=(um ws).map nV:=by
 match ws with
 | []=>rfl
 | [_]=>rfl
 | [_,_]=>rfl
 | _::_::_::_::_=>rfl
 | [x,l,r]=>
  have e:rX ["name","lines"] "rank" [x,l,r]=([("name",x),("lines",l),("rank",r)]:V0 (Str×Str)).mapM qf:=rfl;have r1:qf (("name",x):Str×Str)=some (.str x):=rfl;have r2:∀w,qf (("lines",w):Str×Str)=if pR w=true then some (.int (oa w))else none:=λ_=>rfl
  have r3:∀w,qf (("rank",w):Str×Str)=if pR w=true then some (.int (oa w))else none:=λ_=>rfl
  have e2:um [x,l,r]=if pR l=true then(if pR r=true then some (x,oa l,oa r)else none)else none:=rfl;rw[e,e2];simp only[dP,jD,r1,r2,r3];cases pR l<;>cases pR r<;>rfl
def yH(ws:QQQ):(rX ["name","manner"] "phones" ws).map D.tup=(vW ws).map nN:=by
 match ws with
 | []=>rfl
 | [_]=>rfl
 | x::m::ms=>have e:rX ["name","manner"] "phones" (x::m::ms)=if 2<=ms.length+2 then((([("name",x),("manner",m)]:V0 (Str×Str)).mapM qf).map (·++[names ms]))else none:=rfl;rw[e,b9 (by lia)];rfl
noncomputable def EE(w:Str)(es:V0 D):D:=.tup (.str w::es)
def C7(w:Str)(f:Str->Str->Wi)(hf:∀x y,(f x y).told=[.str w,.str x,.str y])(r:QQQ):(rX ["name"] "name" r).map (EE w)=(Ib f r).map λv=>D.tup v.told:=by
 match r with
 | []=>rfl
 | [_]=>rfl
 | _::_::_::_=>rfl
 | [x,y]=>show some (D.tup [.str w,.str x,.str y])=some (D.tup (f x y).told);rw[hf]
def vj(w:Str)(r:QQQ):(KTD.datumAt w tO=none/\rG (w::r)=none)\/∃ks k,KTD.datumAt w tO=some (ks++[k])/\ks.length<=3/\(rX ks k r).map (EE w)=(rG (w::r)).map λv=>D.tup v.told:=by
 have e:∀r,rG (w::r)=if w="bar" then(match r with|x::ns=>some (.bar x ns)|[]=>none)
  else if w="shut" then(match r with|x::ns=>some (.shut x ns)|[]=>none)
  else if w="always" then Ib .always r
  else if w="night" then(match r with|[x,y,f,l]=>if pR f=true then(if pR l=true then some (.night x y (oa f) (oa l))else none)else none|_=>none)
  else if w="busy" then Ib .busy r
  else if w="silent" then(match r with|[x,y,n]=>if pR n=true then some (.silent x y (oa n))else none|_=>none)
  else if w="wait" then(match r with|[x]=>some (.wait x)|_=>none)
  else if w="breaks" then(match r with|[x]=>some (.breaks x)|_=>none)
  else none:=λ_=>rfl
 by_cases h1:w="bar"
 .subst h1;refine .inr ⟨["phone"],"names",rfl,by decide,?_⟩
  match r with
  | []=>rfl
  | x::ns=>have e:rX ["phone"] "names" (x::ns)=if 1<=ns.length+1 then((([("phone",x)]:V0 (Str×Str)).mapM qf).map (·++[names ns]))else none:=rfl;rw[e,b9 (by lia)];rfl
 by_cases h2:w="shut"
 .subst h2;refine .inr ⟨["name"],"phones",rfl,by decide,?_⟩
  match r with
  | []=>rfl
  | x::ns=>have e:rX ["name"] "phones" (x::ns)=if 1<=ns.length+1 then((([("name",x)]:V0 (Str×Str)).mapM qf).map (·++[names ns]))else none:=rfl;rw[e,b9 (by lia)];rfl
 by_cases h3:w="always"
 .subst h3;exact .inr ⟨["name"],"name",rfl,by decide,C7 "always" .always (λ_ _=>rfl) r⟩
 by_cases h4:w="night"
 .subst h4;refine .inr ⟨["name","name","hour"],"hour",rfl,by decide,?_⟩
  match r with
  | []=>rfl
  | [_]=>rfl
  | [_,_]=>rfl
  | [_,_,_]=>rfl
  | _::_::_::_::_::_=>rfl
  | [x,y,f,l]=>
   have e:rX ["name","name","hour"] "hour" [x,y,f,l]=([("name",x),("name",y),("hour",f),("hour",l)]:V0 (Str×Str)).mapM qf:=rfl;have e2:rG ["night",x,y,f,l]=if pR f=true then(if pR l=true then some (.night x y (oa f) (oa l))else none)else none:=rfl;have r1:∀w,qf (("name",w):Str×Str)=some (.str w):=λ_=>rfl;have r2:∀w,qf (("hour",w):Str×Str)=if pR w=true then some (.int (oa w))else none:=λ_=>rfl
   rw[e,e2];simp only[dP,jD,r1,r2];cases pR f<;>cases pR l<;>rfl
 by_cases h5:w="busy"
 .subst h5;exact .inr ⟨["name"],"name",rfl,by decide,C7 "busy" .busy (λ_ _=>rfl) r⟩
 by_cases h6:w="silent"
 .subst h6;refine .inr ⟨["name","name"],"turns",rfl,by decide,?_⟩
  match r with
  | []=>rfl
  | [_]=>rfl
  | [_,_]=>rfl
  | _::_::_::_::_=>rfl
  | [x,y,n]=>
   have e:rX ["name","name"] "turns" [x,y,n]=([("name",x),("name",y),("turns",n)]:V0 (Str×Str)).mapM qf:=rfl;have e2:rG ["silent",x,y,n]=if pR n=true then some (.silent x y (oa n))else none:=rfl
   have r1:∀w,qf (("name",w):Str×Str)=some (.str w):=λ_=>rfl;have r2:∀w,qf (("turns",w):Str×Str)=if pR w=true then some (.int (oa w))else none:=λ_=>rfl
   rw[e,e2];simp only[dP,jD,r1,r2];cases pR n<;>rfl
 by_cases h7:w="wait"
 .subst h7;refine .inr ⟨[],"phone",rfl,by decide,?_⟩
  match r with
  | []=>rfl
  | [_]=>rfl
  | _::_::_=>rfl
 by_cases h8:w="breaks"
 .subst h8;refine .inr ⟨[],"phone",rfl,by decide,?_⟩
  match r with
  | []=>rfl
  | [_]=>rfl
  | _::_::_=>rfl
 refine .inl ⟨?_,?_⟩
 .simp only[KTD.datumAt,tO,fA];rw[bV h1,bV h2,bV h3,bV h4,bV h5,bV h6,bV h7,bV h8]
 .rw[e,bV h1,bV h2,bV h3,bV h4,bV h5,bV h6,bV h7,bV h8]
def Ia(a:Ad):sv:=λds M Q R=>yZ λr (ws:QQQ)=>ds=[.ref r]/\lO M r=some (ws.map D.str)/\ws.length<=901/\(∀w∈ws,Wd w)/\(∀v,rG ws=some v->Q (.tup v.told) M)/\(rG ws=none->∀M',nJ M M'->R a.g none M')
def IU(a:Ad):sv:=λds M Q R=>yZ λr (ws:QQQ)=>ds=[.ref r]/\lO M r=some (ws.map D.str)/\ws≠[]/\ws.length<=901/\(∀w∈ws,Wd w)/\(∀v,uh ws=some v->Q (pS v) M)/\(uh ws=none->∀M',nJ M M'->R a.g none M')
def HP(v:Wi):v.told.length<=5:=by cases v<;>exact Nat.le_of_ble_eq_true rfl
def some_of{α β:Type}{o:Option α}{y:β}{f:α->β}(h:o.map f=some y):∃x,o=some x/\f x=y:=by
 cases o with
 | none=>cases h
 | some x=>exact⟨x,rfl,ce h⟩
def Cj:Dh P w K mg base 6 a.m (Ia a):=by
 refine tN G.m.toDG Bv (by walk_at "m") (λ_ _ _ _ _ _ R hr hR=>⟨_,(mF (mV (ny (oJ G) (hr.mono (by first|decide|lia)) rfl G.c.mg G.c.toDG.kp G.c.b nO hR (qd (qa (nY (yi hr) (mJ mZ rfl G.e mY (nP v0)) mE) (qD (C6 G.aK rfl (mX v0 mE)))) mK)))
 (mG (mM (mL (og (nP (mX v0 mE))) (ny (y9 G) (hr.mono (by first|decide|lia)) rfl G.k.mg G.k.toDG.kp G.k.b nO hR (qd (Aq G.aK rfl (mX v0 mE)) (nE v0 (nj mE) nA))))))),?_⟩)
 .rintro ds M Q ⟨r,ws,rfl,hw,hl,TX,q,rr⟩
  have hz:=cP;cases ws with
  | nil=>exact i' hw ⟨false,_,rfl,(λz=>by cases z),λ_=>rr rfl _ .refl⟩
  | cons w0 r0=>
   have hw:lO M r=some (D.str w0::r0.map D.str):=hw;refine i' hw (zN (c:=decide ((0:Int)<(D.str w0::List.map D.str r0).length)) (cu (by rw[b8];lia)) ?_);refine i' hw (i' (tJ _ _) ⟨(KTD.datumAt w0 tO).isSome,_,rfl,λg=>?_,λg=>rr ?_ _ .refl⟩)
   .rcases vj w0 r0 with⟨e,_⟩|⟨ks,k,e,h3,ef⟩
    .rw[e]at g;cases g
    .refine i' hw (i' (tJ _ _) ⟨lP rfl,i' hw (i' (tJ _ _) (i' e (i' hw λp hp=>?_)))⟩);have ec:L3.qx (D.str w0::List.map D.str r0) (some 1) none=List.map D.str r0:=uG _ 1 (by rw[b8];lia);rw[ec];refine⟨ks,k,p,r0,rfl,mI,h3,by rw[b8]at hl;lia,λx hx=>TX x (ci _ hx),λes Ux=>?_,λhn M' s'=>rr ?_ M' ((nJ.new hp).trans s')⟩
     .rw[Ux]at ef;obtain⟨v,hv,ev⟩:=some_of ef.symm;have ev:D.tup v.told=.tup (.str w0::es):=ev;have ev:v.told=.str w0::es:=by injection ev
      have tl:=HP v;rw[ev,b8]at tl;have q:=q v hv;rw[ev]at q;exact⟨c9 _ _,(by show 1+es.length<=sizeLine;lia),M,.new hp,q⟩
     .rw[hn]at ef;cases e2:rG (w0::r0)with
      | none=>rfl
      | some v=>rw[e2]at ef;cases ef
   .rcases vj w0 r0 with⟨_,e⟩|⟨ks,k,e,_⟩
    .exact e
    .rw[e]at g;cases g
def Hs:Dh P w K mg base 7 a.Q (IU a):=by
 refine tN G.Q.toDG A4 (by walk_at "m") (λ_ _ _ _ _ _ R hr hR=>⟨_,(mF (nB (mW (yi hr) (mX v0 mE) mK)
 (mG (mM (og (qd sH (ny (Cj G) (hr.mono (by first|decide|lia)) rfl G.m.mg G.m.toDG.kp G.m.b nO hR (nP (nE v0 (nj mE) nA)))))))
 mR)
 (mG (mM (og (qd sH (ny (Cj G) (hr.mono (by first|decide|lia)) rfl G.m.mg G.m.toDG.kp G.m.b nO hR (nP v0))))))),?_⟩)
 .rintro ds M Q ⟨r,ws,rfl,hw,SJ,hl,TX,q,rr⟩
  cases ws with
  | nil=>exact absurd rfl SJ
  | cons w0 r0=>
   have hw1:lO M r=some (D.str w0::r0.map D.str):=hw;refine i' hw1 (i' (tJ _ _) ?_);by_cases h:w0="off"
   .subst h;have e:uh ("off"::r0)=(rG r0).map λv=>(false,v):=rfl;rw[e]at q rr;refine i' hw1 λp hp=>?_;have ec:L3.qx (D.str "off"::List.map D.str r0) (some 1) none=List.map D.str r0:=uG _ 1 (by rw[b8];lia);rw[ec];exact⟨p,r0,rfl,mI,by rw[b8]at hl;lia,λx hx=>TX x (ci _ hx),λv hv=>⟨lP rfl,M,.new hp,q (false,v) (by rw[hv];rfl)⟩,λhn M' s'=>rr (by rw[hn];rfl) M' ((nJ.new hp).trans s')⟩
   .have e:uh (w0::r0)=(rG (w0::r0)).map λv=>(true,v):=bV λz=>h (ce z);rw[e]at q rr;refine xT (c:=w0=="off") (by simpa using h) ?_;exact⟨r,w0::r0,rfl,hw,hl,TX,λv hv=>⟨lP rfl,M,.refl,q (true,v) (by rw[hv];rfl)⟩,λhn M' s'=>rr (by rw[hn];rfl) M' s'⟩
noncomputable def Jq:V0 Int:=[1,1,2,2,3]
noncomputable def Lh:V0 Int:=[0,1,1,2,5,9]
noncomputable def J0:QQQ:=["all","turns"]
noncomputable def Cs(t:V0 Int)(i:Int):Int:=t.getD i.toNat 0
noncomputable def sV(s:Int)(i:Nat):pF:=(uX s (0+(i:Nat)),Cs Jq (nQ (s+17*(0+(i:Nat))*(0+(i:Nat))) 16807 5),Cs Lh (nQ (s+17*(0+(i:Nat))*(0+(i:Nat))) 39373 6))
noncomputable def oX(s m:Int):Nat:=(2+nQ s 48271 (m - 1)).toNat
noncomputable def nG(s m:Int):List pF:=(List.range (oX s m)).map (sV s)
noncomputable def xA(s:Int)(own:QQQ)(i:Nat):pN:=(uX s (8+(0+(i:Nat))),wF J0 (nQ (s+5*(0+(i:Nat))) 742938285 2),sP own (s+11*(0+(i:Nat))) 4)
noncomputable def sR(s:Int):Nat:=(nQ s 69621 4).toNat
noncomputable def oE(s:Int)(own:QQQ):List pN:=(List.range (sR s)).map (xA s own)
def Cy{ts:V0 Int}{i:Int}(h0:0<=i)(h1:i<ts.length):tY (ts.map D.int) i=some (D.int (Cs ts i)):=by
 obtain⟨n,rfl⟩:=cK h0;have Ts:n<ts.length:=by lia
 refine qI ?_;rw[cD,bZ Ts];simp[Cs,Ts]
def zh{n:Nat}{pre post:V0 D}{d:D}(e:pre++d::post=(List.range n).map λi=>D.int (0+(i:Nat))):d=.int (0+(pre.length:Nat))/\pre.length<n:=by
 have h:((List.range n).map λi=>D.int (0+(i:Nat)))[pre.length]?=some d:=by rw[<-e];simp
 have hl:pre.length<n:=by
  have:=(bW.mp h).1
  simpa using this
 rw[cD,hV hl]at h;exact⟨(ce h).symm,hl⟩
def BY{α β:Type}(f:Nat->α)(g:α->β)(n:Nat):((List.range n).map f).map g++[g (f n)]=((List.range (n+1)).map f).map g:=by rw[List.range_succ,cy,cy];rfl
def DX:rf:=λds M Q=>yZ λs m=>ds=[.int s,.int m]/\2<=m/\m<=100/\∀q,M q=none->Q (.ref q) (mS M q (.lst ((nG s m).map nV)))
def DC:rf:=λds M Q=>Ef λs o own=>ds=[.int s,.ref o]/\lO M o=some (own.map D.str)/\own≠[]/\own.length<=64/\∀q,M q=none->Q (.ref q) (mS M q (.lst ((oE s own).map nN)))
def vK{s m:Int}(h2:2<=m)(h:m<=100):oX s m<=100/\2<=oX s m:=by have d0:=oi (c:=s) (f:=48271) (m:=m - 1) (by lia);have d1:=oj (c:=s) (f:=48271) (m:=m - 1) (by lia);unfold oX;lia
def tS{s:Int}:sR s<=3:=by have d0:=oi (c:=s) (f:=69621) (m:=4) (by decide);have d1:=oj (c:=s) (f:=69621) (m:=4) (by decide);unfold sR;lia
def Dn:Fq P w K mg base 2 a.ar DX:=by
 refine fq G.ar.toDG rh (λr u=>⟨_,(mF (mT 2 rh (qv rV))
 (mF (qM dI rfl (vn rfl G.aI (nP (mL mE (mP (oR G) r G.h (qF v0 mE (mL V1 mE)))))) (om 3 rh)
 (mF (mT 4 rh (mX (og (oW mE (oW mE (qF mE mE mE)))) (mP (oR G) r G.h (qF (mL v0 (mL (mL mE V3) V3)) mE mE))))
 (mG (mV (oA V2 (nP (og (qF (mP (E8 G) r G.Y (qd v0 V3)) v4 (mX (og (oW mE (oW mE (oW mE (qF mE mE mE))))) (mP (oR G) r G.h (qF (mL v0 (mL (mL mE V3) V3)) mE mE)))))))))))
 (mG (mM V2)))),?_⟩)
 rintro ds M Q ⟨s,m,rfl,h2,h100,q⟩
 have hz:=cP;have d0:=oi (c:=s) (f:=48271) (m:=m - 1) (by lia);have d1:=oj (c:=s) (f:=48271) (m:=m - 1) (by lia);have nl:=(vK (s:=s) h2 h100).1;refine⟨lP rfl,λr hr=>⟨s,_,_,rfl,by show 0<m - 1;lia,rfl,⟨?_,?_⟩,?_⟩⟩
 .show -(2 ^ 62)<=2+nQ s 48271 (m - 1);lia
 .show 2+nQ s 48271 (m - 1)<2 ^ 62;lia
 refine si ((List.range (oX s m)).map λi=>D.int (0+(i:Nat))) (λpre U M'=>M'=mS M r (.lst (((List.range pre.length).map (sV s)).map nV))/\∃x y,U=[some (.int s),some (.int m),some (.ref r),x,y]) (λ_ _ _ _=>trivial) _ [] _ _ rfl ⟨rfl,none,none,rfl⟩ ?_ ?_
 .rintro pre d post e U M' ⟨rfl,x,y,rfl⟩ nx Sm
  obtain⟨rfl,Sf⟩:=zh e;generalize hi:pre.length=i at Sf Sm ⊢;have cm:zR (17*(0+(i:Int))) (0+(i:Int)):=.inr ⟨by lia,by lia⟩;have c17:zR 17 (0+(i:Int)):=.inl ⟨by decide,by decide⟩;have t5:tY [D.int 1,.int 1,.int 2,.int 2,.int 3] (nQ (s+17*(0+(i:Int))*(0+(i:Int))) 16807 5)=some (.int (sV s i).2.1):=Cy (ts:=Jq) (oi (by decide)) (oj (by decide));have t6:tY [D.int 0,.int 1,.int 1,.int 2,.int 5,.int 9] (nQ (s+17*(0+(i:Int))*(0+(i:Int))) 39373 6)=some (.int (sV s i).2.2):=Cy (ts:=Lh) (oi (by decide)) (oj (by decide));refine⟨lP rfl,c17,cm,_,_,_,rfl,by decide,i' t5 ?_⟩;refine⟨by show(lO _ r).isSome=true;rw[mI];rfl,s,_,rfl,lP rfl,c17,cm,_,_,_,rfl,by decide,i' t6 ⟨lP rfl,i' mI ⟨?_,?_⟩⟩⟩
  .rw[bP,bP,du];lia
  .refine Sm _ _ ⟨?_,_,_,rfl⟩;rw[oF,bS,hi];show mS M r (.lst (_++[nV (sV s i)]))=_;rw[BY];rfl
 .rintro U M' ⟨rfl,x,y,rfl⟩
  refine⟨_,.refl,?_⟩;rw[bP,du];exact q r hr
def DD:Fq P w K mg base 3 a.au DC:=by
 refine fq G.au.toDG re (λr u=>⟨_,(mF (mT 2 re (qv rV))
 (mF (qM dI rfl (vn rfl G.aI (nP (mP (oR G) r G.h (qF v0 mE mE)))) (om 3 re)
 (mF (mT 4 re (mX (og (qd mK mK)) (mP (oR G) r G.h (qF (mL v0 (mL mE V3)) mE mE))))
 (mG (mV (oA V2 (nP (og (qF (mP (E8 G) r G.Y (qd v0 (mL mE V3))) v4 (mP (uc G) r G.S (qF V1 (mL v0 (mL mE V3)) mE))))))))))
 (mG (mM V2)))),?_⟩)
 rintro ds M Q ⟨s,o,own,rfl,ho,SJ,h64,q⟩
 have hz:=cP;have d0:=oi (c:=s) (f:=69621) (m:=4) (by decide);have d1:=oj (c:=s) (f:=69621) (m:=4) (by decide);have nl:=tS (s:=s);refine⟨lP rfl,λr hr=>⟨s,_,_,rfl,by decide,rfl,⟨?_,?_⟩,?_⟩⟩
 .show -(2 ^ 62)<=nQ s 69621 4;lia
 .show nQ s 69621 4<2 ^ 62;lia
 have nor:o≠r:=λz=>by rw[z]at ho;unfold lO at ho;rw[hr]at ho;cases ho
 refine si ((List.range (sR s)).map λi=>D.int (0+(i:Nat))) (λpre U M'=>M'=mS M r (.lst (((List.range pre.length).map (xA s own)).map nN))/\∃x y,U=[some (.int s),some (.ref o),some (.ref r),x,y]) (λ_ _ _ _=>trivial) _ [] _ _ rfl ⟨rfl,none,none,rfl⟩ ?_ ?_
 .rintro pre d post e U M' ⟨rfl,x,y,rfl⟩ nx Sm
  obtain⟨rfl,Sf⟩:=zh e;generalize hi:pre.length=i at Sf Sm ⊢;have c5:zR 5 (0+(i:Int)):=.inl ⟨by decide,by decide⟩;have c11:zR 11 (0+(i:Int)):=.inl ⟨by decide,by decide⟩;have tm:tY [D.str "all",.str "turns"] (nQ (s+5*(0+(i:Int))) 742938285 2)=some (.str (xA s own i).2.1):=Bs (row:=J0) (oi (by decide)) (oj (by decide));have Si:lO (mS M r (.lst (((List.range i).map (xA s own)).map nN))) o=some (own.map D.str):=by unfold lO;rw[pL nor];exact ho
  refine⟨lP rfl,c5,_,_,_,rfl,by decide,i' tm ?_⟩;refine⟨by show(lO _ r).isSome=true;rw[mI];rfl,s,_,rfl,c11,o,_,_,own,rfl,Si,SJ,by decide,h64,lP rfl,i' mI ⟨?_,?_⟩⟩
  .rw[bP,bP,du];lia
  .refine Sm _ _ ⟨?_,_,_,rfl⟩;rw[oF,bS,hi];show mS M r (.lst (_++[nN (xA s own i)]))=_;rw[BY];rfl
 .rintro U M' ⟨rfl,x,y,rfl⟩
  refine⟨_,.refl,?_⟩;rw[bP,du];exact q r hr
noncomputable def ED(own nm:QQQ)(i:Nat)(c:Int):qu:=(decide (0<nQ (c+31*(i:Nat)*(i:Nat)) 22695477 6),tw (c+31*(i:Nat)*(i:Nat)) own nm)
noncomputable def uI(ns:V0 Int):V0 Int:=(ns.drop (HT.pZ ns.length 0 (some 1))).take (HT.pZ ns.length ns.length (some 17) - HT.pZ ns.length 0 (some 1))
def Ff(ns:V0 Int):(uI ns).length<=16:=by unfold uI;rw[cQ,cU];have e1:HT.pZ ns.length 0 (some 1)=min 1 ns.length:=HT.wB _ _ 1;have e2:HT.pZ ns.length ns.length (some 17)=min 17 ns.length:=HT.wB _ _ 17;rw[e1,e2];lia
def FC(ns:V0 Int):L3.qx (ns.map D.int) (some 1) (some 17)=(uI ns).map D.int:=by unfold L3.qx uI;rw[bP,gk,gj]
noncomputable def AF(ns:V0 Int)(m:Int):ng:=
 let s:=cell ns 0;let own:=(nG s m).map (·.1);let gs:=oE s own
 ⟨nG s m,gs,(uI ns).mapIdx (ED own (own++gs.map (·.1)))⟩
def Hv:rf:=λds M Q=>yZ λns m=>ds=[.rl (ns.map D.int),.int m]/\2<=m/\m<=8/\∀r1 r2 r3 M',nJ M M'->lO M' r1=some ((AF ns m).kW.map nV)->lO M' r2=some ((AF ns m).groups.map nN)->lO M' r3=some ((AF ns m).kY.map pS)->Q (.tup [.ref r1,.ref r2,.ref r3]) M'
def Fp{es pre post:V0 D}{d:D}(e:pre++d::post=sQ 0 es):∃x,es[pre.length]?=some x/\d=.tup [.int (pre.length:Nat),x]:=by
 have h:(sQ 0 es)[pre.length]?=some d:=by rw[<-e];simp
 rw[zJ]at h;cases q:es[pre.length]? with
 | none=>rw[q]at h;cases h
 | some x=>rw[q]at h;refine⟨x,rfl,?_⟩;have:=(ce h).symm;rw[kL]at this;exact this
def CS{α β:Type}(f:Nat->α->β){cs:List α}{i:Nat}{c:α}(h:cs[i]?=some c):(cs.take (i+1)).mapIdx f=(cs.take i).mapIdx f++[f i c]:=by have hi:=(bW.mp h).1;rw[fz,h];show(cs.take i++[c]).mapIdx f=_;rw[List.mapIdx_concat,cQ,eX (by lia)]
def GX:Fq P w K mg base 4 a.aw Hv:=by
 refine fq G.aw.toDG o6 (λr u=>⟨_,(mF (mT 2 o6 (mP (AS G) r G.n (qd v0 mE)))
 (mF (mT 3 o6 (mP (Dn G) r G.ar (qd V2 V1)))
 (mF (qh (i:=4) o6.nd rfl (Or.inl rfl) rfl (Af (ix:=[none]) (N':=["_law_phone"])) (nR V3) (nw 0) oz (mX v0 mE))
 (mF (mT 5 o6 (mP (DD G) r G.au (qd V2 v4)))
 (mF (mT 6 o6 (mL v4 (oI rfl (Af (ix:=[none]) (N':=["_law_group"])) (nR v5) (nw 0) oz (mX v0 mE))))
 (mF (mT 7 o6 (qv rV))
 (mF (qM dI rfl (wK rfl G.a0 (nP (nE v0 (nj mE) (nj mE)))) (pT (n:=2) rfl (mQ (om 8 o6) (mQ (om 9 o6) oY)))
 (mF (mT 10 o6 (mL v9 (mL (mL mE v8) v8)))
 (mG (mV (oA v7 (nP (og (qd (nY u (mP (oR G) r G.h (qF QB mE mE)) mE) (mP (JG G) r G.av (qF QB v4 v6))))))))))
 (mG (mM (og (qF V3 v5 v7))))))))))),?_⟩)
 rintro ds M Q ⟨ns,m,rfl,h2,h8,q⟩
 have hz:=cP;have pl:=vK (s:=cell ns 0) h2 (by lia);have p8:oX (cell ns 0) m<=8:=by have d1:=oj (c:=cell ns 0) (f:=48271) (m:=m - 1) (by lia);unfold oX;lia
 have gl:=tS (s:=cell ns 0);have lp:(nG (cell ns 0) m).length=oX (cell ns 0) m:=by unfold nG;rw[bP,du]
 refine⟨ns,0,rfl,cell ns 0,m,rfl,h2,by lia,λr1 SR=>?_⟩;obtain⟨M1,e0,s1,a1⟩:=tR (ds:=(nG (cell ns 0) m).map nV) SR;rw[<-e0];refine i' a1 (n8 (f:=BQ) a1 _ [] _ (by rw[bP];simp only[cA];lia) (λd hd k hk=>?_) λo ho=>?_)
 .obtain⟨x,_,rfl⟩:=cj.mp hd;exact hk
 rw[cG,vN];have s2:=s1.trans (nJ.new (c:=.lst (((nG (cell ns 0) m).map (·.1)).map D.str)) ho);have b1:=(nJ.new (c:=.lst (((nG (cell ns 0) m).map (·.1)).map D.str)) ho).lst a1;have bo:=@mI M1 o (((nG (cell ns 0) m).map (·.1)).map D.str);generalize mS M1 o (.lst (((nG (cell ns 0) m).map (·.1)).map D.str))=M2 at s2 b1 bo ⊢;have ol:((nG (cell ns 0) m).map (·.1)).length=oX (cell ns 0) m:=by rw[bP,lp]
 have one:(nG (cell ns 0) m).map (·.1)≠[]:=λz=>by rw[z]at ol;have:0=oX (cell ns 0) m:=ol;lia
 have Se:AF ns m=⟨nG (cell ns 0) m,oE (cell ns 0) ((nG (cell ns 0) m).map (·.1)),(uI ns).mapIdx (ED ((nG (cell ns 0) m).map (·.1)) ((nG (cell ns 0) m).map (·.1)++(oE (cell ns 0) ((nG (cell ns 0) m).map (·.1))).map (·.1)))⟩:=rfl;rw[Se]at q;generalize (nG (cell ns 0) m).map (·.1)=own at bo ol one q ⊢;refine⟨cell ns 0,o,own,rfl,bo,one,by lia,λr2 hr2=>?_⟩;obtain⟨M3,e0,t3,c2⟩:=tR (ds:=(oE (cell ns 0) own).map nN) hr2;rw[<-e0];have c1:=t3.lst b1;have co:=t3.lst bo;have s3:=s2.trans t3;have gll:(oE (cell ns 0) own).length=sR (cell ns 0):=by unfold oE;rw[bP,du]
 refine i' c2 (n8 (f:=BQ) c2 _ [] _ (by rw[bP];simp only[cA];lia) (λd hd k hk=>?_) λx4 hx4=>?_)
 .obtain⟨x,_,rfl⟩:=cj.mp hd;exact hk
 rw[cG,vP];have t4:=nJ.new (c:=.lst (((oE (cell ns 0) own).map (·.1)).map D.str)) hx4;refine i' (t4.lst co) (i' mI ⟨?_,λn hn=>?_⟩)
 .rw[bP,bP,bP];lia
 have en:own.map D.str++((oE (cell ns 0) own).map (·.1)).map D.str=(own++(oE (cell ns 0) own).map (·.1)).map D.str:=by rw[cy]
 rw[en];have nl:(own++(oE (cell ns 0) own).map (·.1)).length=oX (cell ns 0) m+sR (cell ns 0):=by rw[bS,bP,ol,gll]
 have t5:=t4.trans (nJ.new (c:=.lst ((own++(oE (cell ns 0) own).map (·.1)).map D.str)) hn);have en5:=@mI (mS M3 x4 (.lst (((oE (cell ns 0) own).map (·.1)).map D.str))) n ((own++(oE (cell ns 0) own).map (·.1)).map D.str);have e1:=t5.lst c1;have e2:=t5.lst c2;have eo:=t5.lst co;have s5:=s3.trans t5;generalize mS (mS M3 x4 (.lst (((oE (cell ns 0) own).map (·.1)).map D.str))) n (.lst ((own++(oE (cell ns 0) own).map (·.1)).map D.str))=M5 at s5 e1 e2 eo en5 ⊢;generalize own++(oE (cell ns 0) own).map (·.1)=nm at en5 nl q ⊢;refine⟨lP rfl,λr3 Uh sl UI=>?_⟩;rw[FC];have t6:=(nJ.new (c:=.lst []) Uh).trans (nJ.new (c:=.lst ((uI ns).map D.int)) UI);have nsl:sl≠r3:=λz=>by rw[z,m7]at UI;cases UI
 have g3:lO (mS (mS M5 r3 (.lst [])) sl (.lst ((uI ns).map D.int))) r3=some []:=by unfold lO;rw[pL (cH nsl),m7]
 have gs:=@mI (mS M5 r3 (.lst [])) sl ((uI ns).map D.int);have no:o≠r3:=λz=>by have:=oP eo;rw[z,Uh]at this;cases this
 have nn:n≠r3:=λz=>by have:=oP en5;rw[z,Uh]at this;cases this
 have n1:r1≠r3:=λz=>by have:=oP e1;rw[z,Uh]at this;cases this
 have n2:r2≠r3:=λz=>by have:=oP e2;rw[z,Uh]at this;cases this
 have f1:=t6.lst e1;have f2:=t6.lst e2;have fo:=t6.lst eo;have fn:=t6.lst en5;have k6:nJ M (mS (mS M5 r3 (.lst [])) sl (.lst ((uI ns).map D.int))):=s5.trans t6;have nr:M r3=none:=s5.none Uh;generalize mS (mS M5 r3 (.lst [])) sl (.lst ((uI ns).map D.int))=M6 at f1 f2 fo fn k6 g3 gs ⊢;have cl:=Ff ns;refine i' gs ?_;refine si (sQ 0 ((uI ns).map D.int)) (λpre U M'=>uq r3 M6 M'/\lO M' r3=some ((((uI ns).take pre.length).mapIdx (ED own nm)).map pS)/\∃x y z,U=[some (.rl (ns.map D.int)),some (.int m),some (.int (cell ns 0)),some (.ref r1),some (.ref o),some (.ref r2),some (.ref n),some (.ref r3),x,y,z]) (λp U M' j=>j.1.lst nsl gs) _ [] _ _ rfl ⟨λ_ _ _ h=>h,g3,none,none,none,rfl⟩ ?_ ?_
 .rintro pre d post e U M' ⟨kp,lr,x,y,z,rfl⟩ nx Sm
  obtain⟨dx,hx,rfl⟩:=Fp e;generalize hi:pre.length=i at hx Sm lr ⊢;obtain⟨c,hc,rfl⟩:∃c,(uI ns)[i]?=some c/\dx=.int c:=by
   rw[cD]at hx;cases q0:(uI ns)[i]? with
   | none=>rw[q0]at hx;cases hx
   | some c=>rw[q0]at hx;exact⟨c,rfl,(ce hx).symm⟩
  have hil:=(bW.mp hc).1;have c31:zR 31 (i:Nat):=.inl ⟨by decide,by decide⟩;have cm:zR (31*((i:Nat):Int)) (i:Nat):=.inr ⟨by lia,by lia⟩;refine⟨rfl,⟨c31,cm,?_⟩⟩;refine⟨by show(lO M' r3).isSome=true;rw[lr];rfl,_,_,_,rfl,by decide,_,o,n,own,nm,rfl,kp.lst no fo,kp.lst nn fn,one,by lia,by lia,by lia,lP rfl,i' lr ⟨?_,?_⟩⟩
  .rw[bP,jX,cQ];lia
  .refine Sm _ _ ⟨kp.trans .put,?_,_,_,_,rfl⟩;rw[mI,bS,hi];show _=some ((((uI ns).take (i+1)).mapIdx (ED own nm)).map pS);rw[CS _ hc,cy];rfl
 .rintro U M' ⟨kp,lr,x,y,z,rfl⟩
  rw[uL,bP,dC]at lr;exact⟨lP rfl,M',.refl,q r1 r2 r3 M' (λb c h=>kp b c (λz=>by rw[z,nr]at h;cases h) (k6 b c h)) (kp.lst n1 f1) (kp.lst n2 f2) lr⟩
theorem zm(x:Array Nat):∀(n:Nat) (acc:Array Nat),((List.replicate n x).foldl (·++·) acc).toList=acc.toList++(List.replicate n x.toList).flatten
 | 0,acc=>by simp
 | n+1,acc=>by rw[dm,dQ,zm x n (acc++x),dm,eF,gv,df]
theorem CZ(c:Nat):∀n:Nat,(List.replicate n [c]).flatten=List.replicate n c
 | 0=>rfl
 | n+1=>by rw[dm,eF,CZ c n,dm];rfl
def AN(i n:Int):(vM (qE i) n).cps.toList=List.replicate n.toNat (97+i.toNat):=by show((List.replicate n.toNat (qE i).cps).foldl (·++·) #[]:Array Nat).toList=_;rw[zm];show[]++(List.replicate n.toNat [97+i.toNat]).flatten=_;rw[cG,CZ]
def vm(s v:Int):(uX s v).cps.toList=List.replicate (qR s).toNat (97+(s / 36 % 26).toNat)++(97+((s / 936+v) % 26).toNat)::List.replicate (size s - 1 - qR s).toNat (97+(s / 36 % 26).toNat):=by show((vM (qE (s / 36 % 26)) (qR s)).cps++(qE ((s / 936+v) % 26)).cps++(vM (qE (s / 36 % 26)) (size s - 1 - qR s)).cps).toList=_;rw[gv,gv,AN,AN];show _++[97+((s / 936+v) % 26).toNat]++_=_;rw[df];rfl
def zr(s v:Int):1<=(uX s v).length/\(uX s v).length<=6:=by
 have e:(uX s v).length=(uX s v).cps.toList.length:=by simp[Str.length]
 rw[e,vm,bS,b8,gN,gN];have h1:=CN s;have h2:=EG s;have h3:0<=qR s:=cT _ (by lia);have h4:qR s<size s:=cO _ h1;lia
def G9{i:Int}(h0:0<=i)(h1:i<26):qq ⟨#[97+i.toNat]⟩ pM=true:=by
 obtain⟨n,rfl⟩:=cK h0;have hn:n<26:=by lia
 have key:∀n:_root_.Fin 26,qq ⟨#[97+n.val]⟩ pM=true:=by decide+kernel
 exact key ⟨n,hn⟩
def AQ(s v:Int):nk (uX s v)=true:=by
 obtain⟨h1,h2⟩:=zr s v;unfold nk;rw[cu (show(1:Int)<=(uX s v).length by lia),cu (show((uX s v).length:Int)<=6 by lia),cW,cW,cL];intro c hc;rw[vm]at hc;have k1:=G9 (cT (s / 36) (show(26:Int)≠0 by decide)) (cO (s / 36) (by decide));have k2:=G9 (cT (s / 936+v) (show(26:Int)≠0 by decide)) (cO (s / 936+v) (by decide));rcases c7.mp hc with z|z
 .rw[iR z];exact k1
 .rcases bT.mp z with z|z
  .rw[z];exact k2
  .rw[iR z];exact k1
def yW{s u v:Int}(hu:0<=u)(hu':u<26)(hv:0<=v)(hv':v<26)(e:uX s u=uX s v):u=v:=by
 have e':(uX s u).cps.toList=(uX s v).cps.toList:=by rw[e]
 rw[vm,vm]at e';have:=(List.append_cancel_left e');have:=(dw this).1;have a1:=cT (s / 936+u) (show(26:Int)≠0 by decide);have a2:=cT (s / 936+v) (show(26:Int)≠0 by decide);have h:(s / 936+u) % 26=(s / 936+v) % 26:=by lia
 lia
def A1{ss:QQQ}{x:Str}(h:x∈ss):sZ ss x:=e7.mpr ⟨x,h,by simp⟩
def ym{row:QQQ}{i:Int}(h0:0<=i)(h1:i<row.length):wF row i∈row:=by
 obtain⟨n,rfl⟩:=cK h0;have hn:n<row.length:=by lia
 have:wF row (n:Int)=row[n]:=by simp[wF,hn]
 rw[this];exact fF hn
def E1{row:QQQ}{i j:Int}(nd:row.Nodup)(h0:0<=i)(h1:i<row.length)(g0:0<=j)(g1:j<row.length)(e:wF row i=wF row j):i=j:=by
 obtain⟨n,rfl⟩:=cK h0;obtain⟨k,rfl⟩:=cK g0;have hn:n<row.length:=by lia
 have hk:k<row.length:=by lia
 have e1:wF row (n:Int)=row[n]:=by simp[wF,hn]
 have e2:wF row (k:Int)=row[k]:=by simp[wF,hk]
 rw[e1,e2]at e;have pw:=iB.mp nd;rcases Nat.lt_trichotomy n k with z|z|z
 .exact absurd e (pw n k hn hk z)
 .rw[z]
 .exact absurd e.symm (pw k n hk hn z)
def xo{α:Type}(f:Nat->α)(n:Nat)(h:∀i j,i<n->j<n->f i=f j->i=j):((List.range n).map f).Nodup:=by refine iB.mpr λi j hi hj Sf e=>?_;rw[bP,du]at hi hj;rw[ku,ku,jY,jY]at e;have:=h i j hi hj e;lia
def zo{row:QQQ}{c m:Int}(hr:row≠[])(hm:0<m):1<=ui row c m/\(ui row c m:Int)<=m/\ui row c m<=row.length:=by
 have hl:0<row.length:=dE.mpr hr;have d0:=oi (c:=c) (f:=40692) (m:=if (row.length:Int)<m then(row.length:Int)else m) (by split<;>lia);have d1:=oj (c:=c) (f:=40692) (m:=if (row.length:Int)<m then(row.length:Int)else m) (by split<;>lia);unfold ui;by_cases h:(row.length:Int)<m
 .rw[b9 h]at d0 d1 ⊢;lia
 .rw[bV h]at d0 d1 ⊢;lia
def yL{row:QQQ}{c:Int}(hr:row≠[])(j:Nat):0<=(nQ c 69621 row.length+(0+(j:Nat))) % (row.length:Int)/\(nQ c 69621 row.length+(0+(j:Nat))) % (row.length:Int)<row.length:=by have hl:0<row.length:=dE.mpr hr;exact⟨cT _ (by lia),cO _ (by lia)⟩
def EM{d n i j:Int}(hn:0<n)(hi:0<=i)(UJ:i<n)(hj:0<=j)(UH:j<n)(e:(d+i) % n=(d+j) % n):i=j:=by
 have h1:=jj (d+i) n;have h2:=jj (d+j) n;generalize (d+i) / n=a at h1;generalize (d+j) / n=b at h2;have h3:i - j=n*(a - b):=by rw[Int.mul_sub];lia
 rcases Int.lt_trichotomy (a - b) 0 with z|z|z
 .have:n*(a - b)<=n*(-1):=hJ (by lia) (by lia);lia
 .rw[z]at h3;lia
 .have:n*1<=n*(a - b):=hJ (by lia) (by lia);lia
def Ei{row:QQQ}{c m:Int}(nd:row.Nodup)(hr:row≠[])(hm:0<m):(sP row c m).Nodup:=by have hl:0<row.length:=dE.mpr hr;obtain⟨_,_,l3⟩:=zo (c:=c) hr hm;refine xo _ _ λi j hi hj e=>?_;obtain⟨a0,a1⟩:=yL (c:=c) hr i;obtain⟨b0,b1⟩:=yL (c:=c) hr j;have e':=E1 nd a0 a1 b0 b1 e;have:=EM (d:=nQ c 69621 row.length) (n:=row.length) (i:=0+(i:Nat)) (j:=0+(j:Nat)) (by lia) (by lia) (by lia) (by lia) (by lia) e';lia
def uU{row:QQQ}{c m k:Int}(nd:row.Nodup)(hr:row≠[])(hm:0<m)(hk:m<=k):mO (sP row c m) row k=true:=by
 obtain⟨l1,l2,l3⟩:=zo (c:=c) hr hm;have el:(sP row c m).length=ui row c m:=by unfold sP;rw[bP,du]
 unfold mO;rw[el,cu (show(1:Int)<=ui row c m by lia),cu (show(ui row c m:Int)<=k by lia),vo (Ei nd hr hm),cW,cW,cW,cL];intro x hx;unfold sP at hx;obtain⟨j,_,rfl⟩:=cj.mp hx;obtain⟨a0,a1⟩:=yL (c:=c) hr j;exact A1 (ym a0 a1)
def yx{row:QQQ}{c m:Int}(hr:row≠[])(hm:0<m)(h:m<=100):(sP row c m).length<4000:=by
 obtain⟨l1,l2,l3⟩:=zo (c:=c) hr hm;have el:(sP row c m).length=ui row c m:=by unfold sP;rw[bP,du]
 lia
def Lf{c:Int}{own all:QQQ}(no:own.Nodup)(na:all.Nodup)(ho:own≠[])(ha:2<=all.length):tV own all (tw c own all):=by
 have hl:(0:Int)<own.length:=by have:=dE.mpr ho;lia
 have ha0:all≠[]:=λz=>by rw[z]at ha;simp at ha
 have hx:=A1 (ym (oi (c:=c) (f:=16807) hl) (oj (c:=c) (f:=16807) hl));have p0:=oi (c:=c) (f:=39373) (m:=all.length) (by lia);have p1:=oj (c:=c) (f:=39373) (m:=all.length) (by lia);have e0:=oi (c:=c) (f:=742938285) (m:=(all.length:Int) - 1) (by lia);have e1:=oj (c:=c) (f:=742938285) (m:=(all.length:Int) - 1) (by lia);have z0:=cT (nQ c 39373 all.length+1+nQ c 742938285 ((all.length:Int) - 1)) (show(all.length:Int)≠0 by lia);have z1:=cO (nQ c 39373 all.length+1+nQ c 742938285 ((all.length:Int) - 1)) (show(0:Int)<all.length by lia);have hy:=A1 (ym p0 p1);have hzz:=A1 (ym z0 z1);have ne:wF all (nQ c 39373 all.length)≠wF all ((nQ c 39373 all.length+1+nQ c 742938285 ((all.length:Int) - 1)) % all.length):=λz=>by
  have q:=E1 na p0 p1 z0 z1 z;have q2:(nQ c 39373 all.length+0) % (all.length:Int)=(nQ c 39373 all.length+(1+nQ c 742938285 ((all.length:Int) - 1))) % (all.length:Int):=by rw[Int.add_zero,Int.emod_eq_of_lt p0 p1,<-Int.add_assoc];exact q
  have:=EM (by lia) (by lia) (by lia) (by lia) (by lia) q2;lia
 have f0:=oi (c:=c) (f:=22695477) (m:=24) (by decide);have f1:=oj (c:=c) (f:=22695477) (m:=24) (by decide);have g0:=oi (c:=c) (f:=48271) (m:=23) (by decide);have g1:=oj (c:=c) (f:=48271) (m:=23) (by decide);have t0:=oi (c:=c) (f:=950706376) (m:=5) (by decide);have t1:=oj (c:=c) (f:=950706376) (m:=5) (by decide);unfold tw;simp only;split
 .exact⟨hx,yx ha0 (by decide) (by decide),uU na ha0 (by decide) (by decide)⟩
 .split
  .exact⟨hy,yx ho (by decide) (by decide),uU no ho (by decide) (by decide)⟩
  .split
   .exact⟨hy,hzz,ne⟩
   .split
    .refine⟨hy,hzz,ne,⟨f0,by lia⟩,⟨cT _ (by decide),?_⟩,?_⟩
     .have:=cO (nQ c 22695477 24+1+nQ c 48271 23) (show(0:Int)<24 by decide);lia
     .omega
    .split
     .exact⟨hy,hzz,ne⟩
     .split
      .refine⟨hy,hzz,ne,?_⟩;generalize nQ c 950706376 5=d at t0 t1;have:d=0\/d=1\/d=2\/d=3\/d=4:=by lia
       rcases this with z|z|z|z|z<;>(subst z;decide)
      .split
       .exact hx
       .exact hx
def G2(s:Int)(i:Nat):A8 (sV s i):=by
 have t0:=oi (c:=s+17*(0+(i:Nat))*(0+(i:Nat))) (f:=16807) (m:=5) (by decide);have t1:=oj (c:=s+17*(0+(i:Nat))*(0+(i:Nat))) (f:=16807) (m:=5) (by decide);have u0:=oi (c:=s+17*(0+(i:Nat))*(0+(i:Nat))) (f:=39373) (m:=6) (by decide);have u1:=oj (c:=s+17*(0+(i:Nat))*(0+(i:Nat))) (f:=39373) (m:=6) (by decide);have a:1<=(sV s i).2.1/\(sV s i).2.1<=3:=by
  show 1<=Cs Jq (nQ (s+17*(0+(i:Nat))*(0+(i:Nat))) 16807 5)/\Cs Jq (nQ (s+17*(0+(i:Nat))*(0+(i:Nat))) 16807 5)<=3;generalize nQ (s+17*(0+(i:Nat))*(0+(i:Nat))) 16807 5=d at t0 t1;have:d=0\/d=1\/d=2\/d=3\/d=4:=by lia
  rcases this with z|z|z|z|z<;>(subst z;decide)
 have b:0<=(sV s i).2.2/\(sV s i).2.2<=9:=by
  show 0<=Cs Lh (nQ (s+17*(0+(i:Nat))*(0+(i:Nat))) 39373 6)/\Cs Lh (nQ (s+17*(0+(i:Nat))*(0+(i:Nat))) 39373 6)<=9;generalize nQ (s+17*(0+(i:Nat))*(0+(i:Nat))) 39373 6=d at u0 u1;have:d=0\/d=1\/d=2\/d=3\/d=4\/d=5:=by lia
  rcases this with z|z|z|z|z|z<;>(subst z;decide)
 exact⟨di (zr s (0+(i:Nat))).2 (by decide),AQ _ _,a.1,a.2,b.1,b.2⟩
def IR{s:Int}{own:QQQ}(nd:own.Nodup)(hr:own≠[])(i:Nat):BM own (xA s own i):=by
 have t0:=oi (c:=s+5*(0+(i:Nat))) (f:=742938285) (m:=2) (by decide);have t1:=oj (c:=s+5*(0+(i:Nat))) (f:=742938285) (m:=2) (by decide);refine⟨di (zr s (8+(0+(i:Nat)))).2 (by decide),AQ _ _,?_,yx hr (by decide) (by decide),uU nd hr (by decide) (by decide)⟩;show wF J0 (nQ (s+5*(0+(i:Nat))) 742938285 2)="all"\/wF J0 (nQ (s+5*(0+(i:Nat))) 742938285 2)="turns";generalize nQ (s+5*(0+(i:Nat))) 742938285 2=d at t0 t1;have:d=0\/d=1:=by lia
 rcases this with z|z
 .subst z;exact .inl rfl
 .subst z;exact .inr rfl
def HA(s m:Int):(nG s m).map (·.1)=(List.range (oX s m)).map λi=>uX s (0+(i:Nat)):=by unfold nG;rw[cB];rfl
def B9{s m:Int}(h2:2<=m)(h8:m<=8):((nG s m).map (·.1)).Nodup/\∀own,((nG s m).map (·.1)++(oE s own).map (·.1)).Nodup:=by
 have d1:=oj (c:=s) (f:=48271) (m:=m - 1) (by lia);have d0:=oi (c:=s) (f:=48271) (m:=m - 1) (by lia);have p8:oX s m<=8:=by unfold oX;lia
 have g3:=tS (s:=s);have a:((nG s m).map (·.1)).Nodup:=by rw[HA];refine xo _ _ λi j hi hj e=>?_;have:=yW (by lia) (by lia) (by lia) (by lia) e;lia
 refine⟨a,λown=>?_⟩;have ge:(oE s own).map (·.1)=(List.range (sR s)).map λi=>uX s (8+(0+(i:Nat))):=by unfold oE;rw[cB];rfl
 rw[dZ];refine⟨a,?_,λx hx y hy e=>?_⟩
 .rw[ge];refine xo _ _ λi j hi hj e=>?_;have:=yW (by lia) (by lia) (by lia) (by lia) e;lia
 .rw[HA]at hx;rw[ge]at hy;obtain⟨i,hi,rfl⟩:=cj.mp hx;obtain⟨j,hj,rfl⟩:=cj.mp hy;have hi:=eA.mp hi;have hj:=eA.mp hj;have:=yW (by lia) (by lia) (by lia) (by lia) e;lia
def Kd{ns:V0 Int}{m:Int}(h2:2<=m)(h8:m<=8):oM (AF ns m):=by
 obtain⟨n1,n2⟩:=B9 (s:=cell ns 0) h2 h8;have pl:=vK (s:=cell ns 0) h2 (by lia);have p8:oX (cell ns 0) m<=8:=by have d1:=oj (c:=cell ns 0) (f:=48271) (m:=m - 1) (by lia);unfold oX;lia
 have lp:(nG (cell ns 0) m).length=oX (cell ns 0) m:=by unfold nG;rw[bP,du]
 have ol:((nG (cell ns 0) m).map (·.1)).length=oX (cell ns 0) m:=by rw[bP,lp]
 have one:(nG (cell ns 0) m).map (·.1)≠[]:=λz=>by rw[z]at ol;have:0=oX (cell ns 0) m:=ol;lia
 have gl:(oE (cell ns 0) ((nG (cell ns 0) m).map (·.1))).length=sR (cell ns 0):=by unfold oE;rw[bP,du]
 refine⟨?_,?_,λp hp=>?_,?_,λg hg=>?_,n2 _,?_,λv hv=>?_⟩
 .show 1<=(nG (cell ns 0) m).length;lia
 .show(nG (cell ns 0) m).length<=8;lia
 .obtain⟨i,_,rfl⟩:=cj.mp hp;exact G2 _ i
 .show(oE (cell ns 0) ((nG (cell ns 0) m).map (·.1))).length<=3;rw[gl];exact tS
 .obtain⟨i,_,rfl⟩:=cj.mp hg;exact IR n1 one i
 .show((uI ns).mapIdx _).length<=16;rw[jX];exact Ff ns
 .obtain⟨i,hi,rfl⟩:=List.mem_mapIdx.mp hv;refine Lf n1 (n2 _) one ?_;show 2<=((nG (cell ns 0) m).map (·.1)++_).length;rw[bS,ol];lia
noncomputable def uA:V0 D->QQQ
 | []=>[]
 | .str x::r=>x::uA r
 | _::r=>uA r
theorem qV:∀ns:QQQ,uA (ns.map D.str)=ns
 | []=>rfl
 | x::r=>by show x::uA (r.map D.str)=_;rw[qV r]
noncomputable def nu:D->QQQ
 | .str x=>[x]
 | .int i=>[Str.ofString (toString i)]
 | .tup ds=>uA ds
 | _=>[]
noncomputable def rJ(ds:V0 D):Str:=Str.join " " (ds.flatMap nu)
def sD(d:D):Prop:=(∃x:Str,d=.str x/\x.length<=1000)\/(∃i:Int,d=.int i/\0<=i/\i<=23)\/(∃ns:QQQ,d=names ns/\ns.length<=6/\∀x∈ns,x.length<=1000)
def vC(ds:V0 D):Prop:=ds.length<=10/\∀d∈ds,sD d
def A2{i:Int}(h0:0<=i)(h1:i<=23):(Str.ofString (toString i)).length<=1000:=by
 obtain⟨n,rfl⟩:=cK h0;have key:∀n:_root_.Fin 24,(Str.ofString (toString ((n.val:Nat):Int))).length<=1000:=by decide+kernel
 exact key ⟨n,by lia⟩
def yr{i:Int}(h0:0<=i)(h1:i<=23):i.natAbs.log2<1920:=by have:=kx i.natAbs;lia
def GP{d:D}(h:sD d):(nu d).length<=6/\∀x∈nu d,x.length<=1000:=by
 rcases h with⟨x,rfl,h⟩|⟨i,rfl,h0,h1⟩|⟨ns,rfl,h0,h1⟩
 .exact⟨by show 1<=6;decide,λy hy=>by rw[c8.mp hy];exact h⟩
 .exact⟨by show 1<=6;decide,λy hy=>by rw[c8.mp hy];exact A2 h0 h1⟩
 .show(uA (ns.map D.str)).length<=6/\∀x∈uA (ns.map D.str),x.length<=1000;rw[qV];exact⟨h0,h1⟩
theorem rS:∀{ds:V0 D},(∀d∈ds,sD d)->(ds.flatMap nu).length<=ds.length*6/\∀x∈ds.flatMap nu,x.length<=1000
 | [],_=>⟨cq _,λx hx=>nomatch hx⟩
 | d::r,h=>by
  obtain⟨a1,a2⟩:=GP (h d ck);obtain⟨b1,b2⟩:=rS (ds:=r) λe he=>h e (ci _ he);rw[List.flatMap_cons,bS,b8,iI];refine⟨by lia,λx hx=>?_⟩;rcases c7.mp hx with z|z
  .exact a2 x z
  .exact b2 x z
def Bi{ds:V0 D}(h:vC ds):(rJ ds).length<=61000:=by
 obtain⟨a,b⟩:=rS h.2;have:=wN (" ":Str) (ds.flatMap nu) b;have h1:=h.1;have e:(" ":Str).length=1:=rfl;rw[e]at this;unfold rJ;have:(ds.flatMap nu).length<=60:=by lia
 lia
def Me:rf:=λds M Q=>∃es,ds=[.tup es]/\vC es/\Q (.str (rJ es)) M
noncomputable def wJ(on:Bool):V0 D:=if on then[]else[.str "off"]
def KH:rf:=λds M Q=>yZ λon es=>ds=[.bl on,.tup es]/\vC (.str "off"::es)/\Q (.str (rJ (wJ on++es))) M
def BH{α:Type}{f:α->D}{l:List α}{pre post:V0 D}{d:D}(e:pre++d::post=l.map f):∃x,l[pre.length]?=some x/\d=f x/\l.take (pre.length+1)=l.take pre.length++[x]:=by
 have h1:(l.map f)[pre.length]?=some d:=by rw[<-e];simp
 rw[cD]at h1;cases z:l[pre.length]? with
 | none=>rw[z]at h1;cases h1
 | some x=>rw[z]at h1;refine⟨x,rfl,(ce h1).symm,?_⟩;rw[fz,z];rfl
def Es{l pre post:V0 D}{d:D}(e:pre++d::post=l):d∈l/\l.take (pre.length+1)=l.take pre.length++[d]:=by
 subst e;refine⟨by simp,?_⟩;rw[List.take_append_of_le_length (cq _),dC];have:(pre++d::post).take (pre.length+1)=pre++[d]:=by rw[List.take_append,dh (by lia)];simp
 exact this
def xw{M:Mp}{r:Addr}{ds:V0 D}{Q:DK}(ho:vC ds)(hr:lO M r=some ((ds.flatMap nu).map D.str))(q:Q (.str (rJ ds)) M):vD (.str " ") [.ref r] M Q:=by obtain⟨a1,a2⟩:=rS ho.2;have h1:=ho.1;refine i' hr ⟨ds.flatMap nu,1000,rfl,a2,?_,q⟩;have e:(" ":Str).length=1:=rfl;rw[e];lia
def A5:Fq P w K mg base 1 a.A Me:=by
 refine fq G.A.toDG xk (λr u=>⟨_,(mF (mT 1 xk (qv rV))
 (mF (qM dI rfl (nR v0) (om 2 xk)
 (mG (nB (qU (mJ xj rfl G.F pE (qd V2 (ES rfl G.r qN))))
 (mG (mV (Ab V1 (nP V2))))
 (mG (mV (oA V1 (nP (nK yX rfl G.al zk (nP V2)))))))))
 (mG (mM (pH mK (nP V1)))))),?_⟩)
 rintro ds M Q ⟨es,rfl,ho,q⟩
 have hz:=cP;have hl10:=ho.1;refine⟨lP rfl,λr hr=>?_⟩;refine si es (λpre U M'=>M'=mS M r (.lst (((es.take pre.length).flatMap nu).map D.str))/\∃y,U=[some (.tup es),some (.ref r),y]) (λ_ _ _ _=>trivial) _ [] _ _ rfl ⟨rfl,none,rfl⟩ ?_ ?_
 .rintro pre d post e U M' ⟨rfl,y,rfl⟩ nx Sm
  obtain⟨hd,et⟩:=Es e;have hp:=ho.2 d hd;have T5:(((es.take pre.length).flatMap nu).map D.str).length<=60:=by rw[bP];have:=(rS (ds:=es.take pre.length) λx hx=>ho.2 x (dU hx)).1;rw[cQ]at this;lia
  rw[bS,cC]at Sm;have RV:∀ws:QQQ,nu d=ws->nx [some (.tup es),some (.ref r),some d] (mS (mS M r (.lst (((es.take pre.length).flatMap nu).map D.str))) r (.lst (((es.take pre.length).flatMap nu).map D.str++ws.map D.str))):=λws ew=>Sm _ _ ⟨by
   rw[oF,et,hZ,cy];show _=mS M r (.lst (_++(nu d++[]).map D.str));rw[cJ,ew],_,rfl⟩
  have il:CD (mS M r (.lst (((es.take pre.length).flatMap nu).map D.str))) (.ref r):=by show(lO _ r).isSome=true;rw[mI];rfl
  rcases id hp with⟨x,rfl,hx⟩|⟨i,rfl,h0,h1⟩|⟨ns,rfl,hns,_⟩
  .exact⟨λC z=>(by cases z),i' G.aR (wg ⟨il,i' mI ⟨by lia,RV [x] rfl⟩⟩)⟩
  .exact⟨λC z=>(by cases z),i' G.aS (wg ⟨il,yr h0 h1,i' mI ⟨by lia,RV [_] rfl⟩⟩)⟩
  .exact⟨λC z=>(by cases z),i' G.aT (yD ⟨il,i' mI ⟨by rw[bP]at T5 ⊢;rw[bP];lia,RV ns (qV ns)⟩⟩)⟩
 .rintro U M' ⟨rfl,y,rfl⟩
  rw[dC];exact xw ho mI ⟨M,.new hr,q⟩
def Lo:Fq P w K mg base 2 a.aq KH:=by
 refine fq G.aq.toDG B1 (λr u=>⟨_,(mF (nB (qU v0)
 (mG (mM (mP (A5 G) r G.A (nP V1))))
 mR)
 (mG (mM (mP (A5 G) r G.A (nP (mL (og (nP mK)) V1)))))),?_⟩)
 rintro ds M Q ⟨on,es,rfl,ho,q⟩
 have hz:=cP;have hl:=ho.1;rw[b8]at hl;cases on with
 | true=>exact⟨es,rfl,⟨by lia,λd hd=>ho.2 d (ci _ hd)⟩,M,.refl,q⟩
 | false=>exact⟨lP rfl,c9 _ _,by show 1+es.length<=sizeLine;lia,_,rfl,ho,M,.refl,q⟩
noncomputable def pV(p:pF):Str:=rJ [.str "phone",.str p.1,.int p.2.1,.int p.2.2]
noncomputable def pb(g:pN):Str:=rJ [.str "group",.str g.1,.str g.2.1,names g.2.2]
noncomputable def tZ(w:qu):Str:=rJ (wJ w.1++w.2.told)
noncomputable def xE(l:ng):QQQ:=l.kW.map pV++l.groups.map pb++l.kY.map tZ
noncomputable def qL(l:ng):Str:=Str.join "\n" (xE l)
def nM{ss:QQQ}{x:Str}(h:sZ ss x):x∈ss:=by
 obtain⟨y,hy,e⟩:=e7.mp h;have:y=x:=by simpa using e
 exact this ▸ hy
def oH{cs ks:QQQ}{m:Int}(h:mO cs ks m=true):(cs.length:Int)<=m/\∀x∈cs,x∈ks:=by unfold mO at h;simp only[bR,fA,cL]at h;exact⟨h.2.1,λx hx=>nM (h.2.2.2 x hx)⟩
def Ip{l:ng}(ok:oM l):∀x∈l.pn,x.length<=1000:=λx hx=>by obtain⟨p,hp,rfl⟩:=cj.mp hx;exact(ok.po p hp).len
def L6{l:ng}(ok:oM l):∀x∈l.nm,x.length<=1000:=λx hx=>by
 rcases c7.mp hx with z|z
 .exact Ip ok x z
 .obtain⟨g,hg,rfl⟩:=cj.mp z;exact(ok.go g hg).len
def nH{x:Str}(h:x.length<=1000):sD (.str x):=.inl ⟨x,rfl,h⟩
def uy{i:Int}(h0:0<=i)(h1:i<=23):sD (.int i):=.inr (.inl ⟨i,rfl,h0,h1⟩)
def yN{ns:QQQ}(h0:ns.length<=6)(h1:∀x∈ns,x.length<=1000):sD (names ns):=.inr (.inr ⟨ns,rfl,h0,h1⟩)
def mH{P:D->Prop}{d:D}{ds:V0 D}(h:P d)(hs:∀e∈ds,P e):∀e∈d::ds,P e:=λe he=>by
 rcases bT.mp he with z|z
 .rw[z];exact h
 .exact hs e z
def nF{P:D->Prop}:∀e∈([]:V0 D),P e:=λe he=>nomatch he
def wf{p:pF}(h:A8 p):vC [.str "phone",.str p.1,.int p.2.1,.int p.2.2]:=by have h1:=h.l1;have h2:=h.l2;have h3:=h.r2;exact⟨by show 4<=10;decide,mH (nH (by decide)) (mH (nH h.len) (mH (uy (by lia) (by lia)) (mH (uy h.r1 (by lia)) nF)))⟩
def t9{l:ng}(ok:oM l){g:pN}(h:BM l.pn g):vC [.str "group",.str g.1,.str g.2.1,names g.2.2]:=by obtain⟨c1,c2⟩:=oH h.mem;refine⟨by show 4<=10;decide,mH (nH (by decide)) (mH (nH h.len) (mH (nH ?_) (mH (yN (by lia) λx hx=>Ip ok x (c2 x hx)) nF)))⟩;rcases h.man with e|e<;>(rw[e];decide)
def sE{l:ng}{x:Str}(h:x∈l.pn):x∈l.nm:=fX _ h
def uO{l:ng}(ok:oM l){v:Wi}(h:tV l.pn l.nm v):vC (.str "off"::v.told):=by
 have nl:=L6 ok;have UM:sD (.str "off"):=nH (by decide);cases v with
 | bar x ns=>obtain⟨h1,_,h3⟩:=h;obtain⟨c1,c2⟩:=oH h3;exact⟨by show 4<=10;decide,mH UM (mH (nH (by decide)) (mH (nH (nl x (sE (nM h1)))) (mH (yN (by lia) λy hy=>nl y (c2 y hy)) nF)))⟩
 | shut x ns=>obtain⟨h1,_,h3⟩:=h;obtain⟨c1,c2⟩:=oH h3;exact⟨by show 4<=10;decide,mH UM (mH (nH (by decide)) (mH (nH (nl x (nM h1))) (mH (yN (by lia) λy hy=>nl y (sE (c2 y hy))) nF)))⟩
 | always x y=>obtain⟨h1,h2,_⟩:=h;exact⟨by show 4<=10;decide,mH UM (mH (nH (by decide)) (mH (nH (nl x (nM h1))) (mH (nH (nl y (nM h2))) nF)))⟩
 | night x y f t=>obtain⟨h1,h2,_,⟨f0,f1⟩,⟨t0,t1⟩,_⟩:=h;exact⟨by show 6<=10;decide,mH UM (mH (nH (by decide)) (mH (nH (nl x (nM h1))) (mH (nH (nl y (nM h2))) (mH (uy f0 f1) (mH (uy t0 t1) nF)))))⟩
 | busy x y=>obtain⟨h1,h2,_⟩:=h;exact⟨by show 4<=10;decide,mH UM (mH (nH (by decide)) (mH (nH (nl x (nM h1))) (mH (nH (nl y (nM h2))) nF)))⟩
 | silent x y n=>obtain⟨h1,h2,_,n0,n1⟩:=h;exact⟨by show 5<=10;decide,mH UM (mH (nH (by decide)) (mH (nH (nl x (nM h1))) (mH (nH (nl y (nM h2))) (mH (uy (by lia) (by lia)) nF))))⟩
 | wait x=>exact⟨by show 3<=10;decide,mH UM (mH (nH (by decide)) (mH (nH (nl x (sE (nM h)))) nF))⟩
 | breaks x=>exact⟨by show 3<=10;decide,mH UM (mH (nH (by decide)) (mH (nH (nl x (sE (nM h)))) nF))⟩
def E7{on:Bool}{es:V0 D}(h:vC (.str "off"::es)):vC (wJ on++es):=by
 cases on with
 | true=>have h1:=h.1;rw[b8]at h1;exact⟨by show es.length<=10;lia,λd hd=>h.2 d (ci _ hd)⟩
 | false=>exact h
def CW{l:ng}(ok:oM l):(xE l).length<=27/\∀x∈xE l,x.length<=61000:=by
 have h1:=ok.p8;have h2:=ok.g3;have h3:=ok.mw;unfold xE;refine⟨by rw[bS,bS,bP,bP,bP];lia,λx hx=>?_⟩;rcases c7.mp hx with z|z
 .rcases c7.mp z with z|z
  .obtain⟨p,hp,rfl⟩:=cj.mp z;exact Bi (wf (ok.po p hp))
  .obtain⟨g,hg,rfl⟩:=cj.mp z;exact Bi (t9 ok (ok.go g hg))
 .obtain⟨v,hv,rfl⟩:=cj.mp z;exact Bi (E7 (uO ok (ok.wo v hv)))
def Au{l:ng}(ok:oM l){M:Mp}{r:Addr}{Q:DK}(hr:lO M r=some ((xE l).map D.str))(q:Q (.str (qL l)) M):vD (.str "\n") [.ref r] M Q:=by obtain⟨a1,a2⟩:=CW ok;refine i' hr ⟨xE l,61000,rfl,a2,?_,q⟩;have e:("\n":Str).length=1:=rfl;rw[e];lia
noncomputable def CM(x:Str)(d:D):D:=match d with
 | .tup es=>.str (rJ (.str x::es))
 | _=>.k9
def Cb(ps:List pF):(ps.map nV).map (CM "phone")=(ps.map pV).map D.str:=by rw[cB,cB];rfl
def xN(gs:List pN):(gs.map nN).map (CM "group")=(gs.map pb).map D.str:=by rw[cB,cB];rfl
noncomputable def AA(M:Mp)(d:D):D:=match d with
 | .tup [.bl on,.ref r]=>match M r with
  | some (.ins _ ((_,.tup es)::_))=>.str (rJ (wJ on++es))
  | _=>.k9
 | _=>.k9
def F6{a:Ad}{M:Mp}{rs:QXQ}{ws:List qu}(h:pP a M rs ws):(sy (ws.map λw=>D.bl w.1) (rs.map D.ref)).map (AA M)=(ws.map tZ).map D.str:=by
 refine List.ext_getElem? λi=>?_;rw[cD,L3.vi,cD,cD,cD,cD];cases e1:ws[i]? with
 | none=>rfl
 | some v=>
  have hi:i<rs.length:=by rw[h.1];exact(bW.mp e1).1
  have e2:rs[i]?=some rs[i]:=bZ hi;rw[e2];show some (AA M (.tup [.bl v.1,.ref rs[i]]))=some (D.str (tZ v));have hM:=h.2 i _ v e2 e1;have:AA M (.tup [.bl v.1,.ref rs[i]])=(match M rs[i]with|some (.ins _ ((_,.tup es)::_))=>.str (rJ (wJ v.1++es))|_=>.k9):=rfl;rw[this,hM];rfl
def Kf(a:Ad):rf:=λds M Q=>yZ λp (l:ng)=>ds=[.ref p]/\wZ a M p l/\oM l/\Q (.str (qL l)) M
def EK:Fq P w K mg base 3 a.X (Kf a):=by
 refine fq G.X.toDG wq (λr u=>⟨_,(mF (qh (i:=1) wq.nd rfl (Or.inl rfl) rfl (Af (ix:=[none]) (N':=["phone"])) (nR (yz v0)) (nw 0) oz (mP (A5 G) r G.A (nP (mL (og (nP mK)) v0))))
 (mF (mV (wC V1 (nP (oI rfl (Af (ix:=[none]) (N':=["group"])) (nR (yz v0)) (nw 0) oz (mP (A5 G) r G.A (nP (mL (og (nP mK)) v0)))))))
 (mF (mV (wC V1 (nP (oI rfl (Af (ix:=[none,none]) (N':=["on","wish"])) (Jp rfl G.aU (qd (yz v0) (yz v0))) (pT (n:=2) rfl (mQ (nw 0) (mQ (nw 1) oY))) oz (mP (Lo G) r G.aq (qd v0 (GG (R:=HH a) V1 (Nw G) (r.mono (by first|decide|lia)))))))))
 (mG (mM (pH mK (nP V1))))))),?_⟩)
 rintro ds M Q ⟨p,l,rfl,⟨ph,gr,ws,on,pr,gd,rs,i1,i2,i3,i4,i5,i6,i7,i8⟩,ok,q⟩
 have hz:=cP;have h1:=ok.p8;have h2:=ok.g3;have h3:=ok.mw;refine oZ i1 (i' rfl (i' i2 (n8 (f:=CM "phone") i2 _ [] _ (by rw[bP];simp only[cA];lia) (λd hd k hk=>?_) λq1 TM=>?_)))
 .obtain⟨v,hv,rfl⟩:=cj.mp hd;exact⟨lP rfl,c9 _ _,(by show 1+3<=sizeLine;lia),_,rfl,wf (ok.po v hv),hk⟩
 rw[cG,Cb];obtain⟨M1,e0,s1,c1⟩:=tR (ds:=(l.kW.map pV).map D.str) TM;rw[<-e0];refine⟨by show(lO M1 q1).isSome=true;rw[c1];rfl,?_⟩;have g3:=s1.lst i3;refine oZ (s1 _ _ i1) (i' rfl (i' g3 (n8 (f:=CM "group") g3 _ [] _ (by rw[bP];simp only[cA];lia) (λd hd k hk=>?_) λq2 Uw=>?_)))
 .obtain⟨v,hv,rfl⟩:=cj.mp hd;exact⟨lP rfl,c9 _ _,(by show 1+3<=sizeLine;lia),_,rfl,t9 ok (ok.go v hv),hk⟩
 rw[cG,xN];have t2:=nJ.new (c:=.lst ((l.groups.map pb).map D.str)) Uw;refine i' (t2.lst c1) (i' mI ⟨?_,?_⟩)
 .rw[bP,bP,bP,bP];lia
 rw[<-cy];have hq1':M q1=none:=TM;have s2:nJ M (mS (mS M1 q2 (.lst ((l.groups.map pb).map D.str))) q1 (.lst ((l.kW.map pV++l.groups.map pb).map D.str))):=λx c h=>by rw[pL (HB h TM)];exact t2 x c (s1 x c h)
 have c2:=@mI (mS M1 q2 (.lst ((l.groups.map pb).map D.str))) q1 ((l.kW.map pV++l.groups.map pb).map D.str);generalize mS (mS M1 q2 (.lst ((l.groups.map pb).map D.str))) q1 (.lst ((l.kW.map pV++l.groups.map pb).map D.str))=M2 at s2 c2 ⊢;refine⟨by show(lO M2 q1).isSome=true;rw[c2];rfl,?_⟩;have w2:=i8.sub s2;refine oZ (s2 _ _ i1) (i' rfl (oZ (s2 _ _ i1) (i' rfl (i' (s2.lst i5) (i' (s2.lst i4) ?_)))));have zl:(sy (l.kY.map λw=>D.bl w.1) (rs.map D.ref)).length<=16:=by rw[L3.sI,bP];lia
 refine su (f:=AA M2) (λU=>∃x y,U=[x,y]) ⟨s2.lst i5,s2.lst i4⟩ _ [] _ ⟨_,_,rfl⟩ (by simp only[cA];lia) (λd hd U hδ k hk=>?_) λq3 hq3=>?_
 .obtain⟨x,y,rfl⟩:=hδ;obtain⟨i,b1,b2,e1,e2,rfl⟩:=JU hd;rw[cD]at e1 e2;cases z1:l.kY[i]? with
  | none=>rw[z1]at e1;cases e1
  | some v=>
   cases z2:rs[i]? with
   | none=>rw[z2]at e2;cases e2
   | some r=>
    rw[z1]at e1;rw[z2]at e2;cases e1;cases e2;have hM:=w2.2 i r v z2 z1;have hf:AA M2 (.tup [.bl v.1,.ref r])=.str (tZ v):=by have:AA M2 (.tup [.bl v.1,.ref r])=(match M2 r with|some (.ins _ ((_,.tup es)::_))=>.str (rJ (wJ v.1++es))|_=>.k9):=rfl;rw[this,hM];rfl
    rw[hf]at hk;refine⟨rfl,?_⟩;exact oZ hM ⟨by cases v.2<;>rfl,_,⟨⟨v.2,rfl⟩,rfl⟩,r,v.2,rfl,hM,v.1,_,rfl,uO ok (ok.wo v (dt z1)),hk _ ⟨_,_,rfl⟩⟩
 rw[cG,F6 w2];have t3:=nJ.new (c:=.lst ((l.kY.map tZ).map D.str)) hq3;refine i' (t3.lst c2) (i' mI ⟨?_,?_⟩)
 .rw[bP,bS,bP,bP,bP,bP];lia
 rw[<-cy];exact Au ok mI ⟨M,λx c h=>by rw[pL (HB h TM)];exact t3 x c (s2 x c h),q⟩
def oS(ns:QQQ):nu (names ns)=ns:=qV ns
def HV{pn nm:QQQ}{v:Wi}(_:tV pn nm v):∃kd,∃_:QQQ,∃es,v.told=.str kd::es/\True:=by cases v<;>exact⟨_,[],_,rfl,trivial⟩
abbrev G8(w:Str):Prop:=32∉w.cps.toList/\10∉w.cps.toList
def xQ:(" ":Str)=⟨#[32]⟩:=by rfl
def yQ:("\n":Str)=⟨#[10]⟩:=by rfl
theorem sj:∀{ws:QQQ},(∀w∈ws,G8 w)->10∉(Str.join " " ws).cps.toList
 | [],_=>by decide+kernel
 | [w],h=>(h w ck).2
 | w::w'::r,h=>by
  have ih:=sj (ws:=w'::r) (λx hx=>h x (ci _ hx));have h1:=(h w ck).2;rw[xQ]at ih ⊢;have e:Str.join ⟨#[32]⟩ (w::w'::r)=w++⟨#[32]⟩++Str.join ⟨#[32]⟩ (w'::r):=rfl;rw[e];generalize Str.join ⟨#[32]⟩ (w'::r)=J at ih;show 10∉((w.cps++#[32])++J.cps).toList;intro z;simp at z;rcases z with z|z
  .exact h1 (by simpa using z)
  .exact ih (by simpa using z)
abbrev LF(w:Str):Prop:=G8 w/\w.length<=6
def ua{x:Str}(h:nk x=true):LF x:=by
 unfold nk at h;simp only[bR,cL]at h;have h6:=h.2.1;have h:=h.2.2;refine⟨⟨λz=>?_,λz=>?_⟩,?_⟩
 .have:=h _ z;exact absurd this (by decide+kernel)
 .have:=h _ z;exact absurd this (by decide+kernel)
 .have:(x.length:Int)<=6:=bU h6;lia
def Gh{n:Int}(h0:0<=n)(h1:n<=23):LF (qi n):=by
 obtain⟨m,rfl⟩:=cK h0;have key:∀m:_root_.Fin 24,LF (qi ((m.val:Nat):Int)):=by decide+kernel
 exact key ⟨m,by lia⟩
def B0{l:ng}(ok:oM l):∀x∈l.nm,LF x:=λx hx=>by
 rcases c7.mp hx with z|z
 .obtain⟨p,hp,rfl⟩:=cj.mp z;exact ua (ok.po p hp).nm
 .obtain⟨g,hg,rfl⟩:=cj.mp z;exact ua (ok.go g hg).nm
def vT(d:D):Prop:=∀w∈nu d,LF w
def vt{x:Str}(h:LF x):vT (.str x):=λw hw=>by rw[c8.mp hw];exact h
def HE{n:Int}(h0:0<=n)(h1:n<=23):vT (.int n):=λw hw=>by rw[c8.mp hw];exact Gh h0 h1
def GY{ns:QQQ}(h:∀x∈ns,LF x):vT (names ns):=λw hw=>by rw[oS]at hw;exact h w hw
def Ee{l:ng}(ok:oM l){v:Wi}(h:tV l.pn l.nm v):∀d∈v.told,vT d:=by
 have nl:=B0 ok;have ml:∀{x},sZ l.nm x->vT (.str x):=λh=>vt (nl _ (nM h));have ql:∀{x},sZ l.pn x->vT (.str x):=λh=>vt (nl _ (sE (nM h)));cases v with
 | bar x ns=>exact mH (vt (by decide+kernel)) (mH (ql h.1) (mH (GY λy hy=>nl y ((oH h.2.2).2 y hy)) nF))
 | shut x ns=>exact mH (vt (by decide+kernel)) (mH (ml h.1) (mH (GY λy hy=>nl y (sE ((oH h.2.2).2 y hy))) nF))
 | always x y=>exact mH (vt (by decide+kernel)) (mH (ml h.1) (mH (ml h.2.1) nF))
 | night x y f t=>exact mH (vt (by decide+kernel)) (mH (ml h.1) (mH (ml h.2.1) (mH (HE h.2.2.2.1.1 h.2.2.2.1.2) (mH (HE h.2.2.2.2.1.1 h.2.2.2.2.1.2) nF))))
 | busy x y=>exact mH (vt (by decide+kernel)) (mH (ml h.1) (mH (ml h.2.1) nF))
 | silent x y n=>have h1:=h.2.2.2.1;have h2:=h.2.2.2.2;exact mH (vt (by decide+kernel)) (mH (ml h.1) (mH (ml h.2.1) (mH (HE (by lia) (by lia)) nF)))
 | wait x=>exact mH (vt (by decide+kernel)) (mH (ql h) nF)
 | breaks x=>exact mH (vt (by decide+kernel)) (mH (ql h) nF)
noncomputable def Hr(p:pF):V0 D:=[.str "phone",.str p.1,.int p.2.1,.int p.2.2]
noncomputable def DB(g:pN):V0 D:=[.str "group",.str g.1,.str g.2.1,names g.2.2]
noncomputable def LS(w:qu):V0 D:=wJ w.1++w.2.told
noncomputable def sJ(l:ng):V0 (V0 D):=l.kW.map Hr++l.groups.map DB++l.kY.map LS
def vH(l:ng):xE l=(sJ l).map rJ:=by unfold xE sJ;rw[cy,cy,cB,cB,cB];rfl
def Av{l:ng}{ds:V0 D}(h:ds∈sJ l):(∃p∈l.kW,ds=Hr p)\/(∃g∈l.groups,ds=DB g)\/(∃w∈l.kY,ds=LS w):=by
 rcases c7.mp h with z|z
 .rcases c7.mp z with z|z
  .obtain⟨p,hp,rfl⟩:=cj.mp z;exact .inl ⟨p,hp,rfl⟩
  .obtain⟨p,hp,rfl⟩:=cj.mp z;exact .inr (.inl ⟨p,hp,rfl⟩)
 .obtain⟨p,hp,rfl⟩:=cj.mp z;exact .inr (.inr ⟨p,hp,rfl⟩)
def ve{l:ng}(ok:oM l){ds:V0 D}(h:ds∈sJ l):(∃k es,ds=.str k::es)/\∀w∈ds.flatMap nu,LF w:=by
 have main:(∃k es,ds=.str k::es)/\∀d∈ds,vT d:=by
  rcases Av h with⟨p,hp,rfl⟩|⟨g,hg,rfl⟩|⟨w,hw,rfl⟩
  .have o:=ok.po p hp;have h1:=o.l1;have h2:=o.l2;have h3:=o.r2;exact⟨⟨_,_,rfl⟩,mH (vt (by decide+kernel)) (mH (vt (ua o.nm)) (mH (HE (by lia) (by lia)) (mH (HE o.r1 (by lia)) nF)))⟩
  .have o:=ok.go g hg;refine⟨⟨_,_,rfl⟩,mH (vt (by decide+kernel)) (mH (vt (ua o.nm)) (mH (vt ?_) (mH (GY λy hy=>B0 ok y (sE ((oH o.mem).2 y hy))) nF)))⟩;rcases o.man with e|e<;>(rw[e];decide+kernel)
  .have o:=ok.wo w hw;obtain⟨on,v⟩:=w;have tp:=Ee ok o;cases on with
   | true=>exact⟨by obtain⟨kd,ks,es,e,_⟩:=HV o;exact⟨kd,es,e⟩,tp⟩
   | false=>exact⟨⟨_,_,rfl⟩,mH (vt (by decide+kernel)) tp⟩
 refine⟨main.1,λw hw=>?_⟩;obtain⟨d,hd,hw⟩:=List.mem_flatMap.mp hw;exact main.2 d hd w hw
def FJ{l:ng}(ok:oM l){ds:V0 D}(h:ds∈sJ l):Txt.split (rJ ds) " "=ds.flatMap nu:=by obtain⟨⟨k,es,rfl⟩,hp⟩:=ve ok h;unfold rJ;rw[xQ];exact ub 32 (c9 _ _) λw hw=>(hp w hw).1.1
def Do{l:ng}(ok:oM l):Txt.split (qL l) "\n"=(sJ l).map rJ:=by
 unfold qL;rw[yQ,vH];refine ub 10 ?_ λw hw=>?_
 .intro z;have h1:=ok.p1;have:((sJ l).map rJ).length=0:=by rw[z];rfl
  unfold sJ at this;simp at this;have h2:l.kW.length=0:=by rw[this.1];rfl
  lia
 .obtain⟨ds,hd,rfl⟩:=cj.mp hw;exact sj λw hw=>((ve ok hd).2 w hw).1
noncomputable def oO(R:V0 (QQQ)):Str:=Str.join "\n" (R.map (Str.join " "))
structure rF(R:List (QQQ)):Prop where
 ne:R≠[]
 lP:R.length<=100
 row:∀ws∈R,ws≠[]/\ws.length<=901/\∀x∈ws,Wd x
 len:∀ws∈R,(Str.join " " ws).length<=900
def rb(x:Str)(h:Wd x):32∉x.cps.toList/\10∉x.cps.toList/\x.length<=900:=h
def xu{R:V0 (QQQ)}(ok:rF R){ws:QQQ}(h:ws∈R):Txt.split (Str.join " " ws) " "=ws:=by rw[xQ];exact ub 32 (ok.row ws h).1 λw hw=>(rb w ((ok.row ws h).2.2 w hw)).1
def vV{R:V0 (QQQ)}(ok:rF R):Txt.split (oO R) "\n"=R.map (Str.join " "):=by unfold oO;rw[yQ];refine ub 10 (λz=>ok.ne (jJ.mp z)) λx hx=>?_;obtain⟨ws,SA,rfl⟩:=cj.mp hx;exact sj λw hw=>⟨(rb w ((ok.row ws SA).2.2 w hw)).1,(rb w ((ok.row ws SA).2.2 w hw)).2.1⟩
def yF{R:V0 (QQQ)}(ok:rF R){ws:QQQ}(h:ws∈R):(Str.join " " ws).length<=900:=ok.len ws h
def Co{R:V0 (QQQ)}(ok:rF R):(oO R).length<=100000:=by
 have t:=wN ("\n":Str) (B:=900) (R.map (Str.join " ")) λw hw=>by obtain⟨ws,SA,rfl⟩:=cj.mp hw;exact yF ok SA
 have e:("\n":Str).length=1:=rfl;have:=ok.lP;rw[e,bP]at t;unfold oO;lia
noncomputable def qT(x:Str)(ws:QQQ):Bool:=ws.headD ""==x
noncomputable def zZ(ws:QQQ):Bool:=!(inD (.str (ws.headD "")) [.str "phone",.str "group"])
noncomputable def qX(R:V0 (QQQ)):Option ng:=((R.filter (qT "phone")).mapM λws=>um ws.tail).bind λps=>((R.filter (qT "group")).mapM λws=>vW ws.tail).bind λgs=>((R.filter zZ).mapM uh).map λvs=>⟨ps,gs,vs⟩
def qW(M:Mp)(rs:QXQ)(R:V0 (QQQ)):Prop:=rs.length=R.length/\∀(i:Nat) r ws,rs[i]?=some r->R[i]?=some ws->lO M r=some (ws.map D.str)
def qW.sub{M M':Mp}{rs:QXQ}{R:V0 (QQQ)}(h:qW M rs R)(s:nJ M M'):qW M' rs R:=⟨h.1,λi r ds a b=>s.lst (h.2 i r ds a b)⟩
def qW.snoc{M M':Mp}{rs:QXQ}{R:V0 (QQQ)}{p:Addr}{e:QQQ}(h:qW M rs R)(s:nJ M M')(hp:lO M' p=some (e.map D.str)):qW M' (rs++[p]) (R++[e]):=by
 refine⟨by rw[bS,bS,h.1];rfl,λi r ds a b=>?_⟩;by_cases hi:i<rs.length
 .rw[dM hi]at a;rw[dM (by rw[<-h.1];exact hi)]at b;exact s.lst (h.2 i r ds a b)
 .rw[dW (by lia)]at a;rw[dW (by rw[<-h.1];lia)]at b;have h0:i - rs.length=0:=by have:=(bW.mp a).1;rw[cC]at this;lia
  rw[h0]at a;rw[<-h.1,h0]at b;cases a;cases b;exact hp
def qW.mem{M:Mp}{rs:QXQ}{R:V0 (QQQ)}(h:qW M rs R){d:Addr×QQQ}(hd:d∈rs.zip R):lO M d.1=some (d.2.map D.str):=by
 obtain⟨i,hi,e⟩:=gu hd;have e':(rs.zip R)[i]?=some d:=by rw[bZ hi,e]
 rw[iA]at e';exact h.2 i _ _ e'.1 e'.2
theorem Fd{α β:Type}:∀{rs:List α} {R:List β},rs.length=R.length->(rs.zip R).map (·.1)=rs
 | [],[],_=>rfl
 | r::rs,x::R,h=>by show r::(rs.zip R).map (·.1)=_;rw[Fd (kN h)]
theorem EW{α β γ:Type}(keep:β->Bool)(val:β->Option γ):∀{rs:List α} {R:List β},rs.length=R.length->((rs.zip R).filter λd=>keep d.2).mapM (λd=>val d.2)=(R.filter keep).mapM val
 | [],[],_=>rfl
 | r::rs,x::R,h=>by
  have ih:=EW keep val (rs:=rs) (R:=R) (kN h);rw[List.zip_cons_cons,gL,gL];show(if keep x=true then _ else _:V0 (α×β)).mapM _=_;cases keep x with
  | true=>rw[b9 rfl,b9 rfl,dP,dP,ih]
  | false=>rw[bV cg,bV cg,ih]
theorem wQ{α β γ:Type}(f:α->Option β)(g:β->γ):∀l:List α,l.mapM (λx=>(f x).map g)=(l.mapM f).map (List.map g)
 | []=>rfl
 | x::r=>by
  rw[dP,dP,wQ f g r];cases f x with
  | none=>rfl
  | some y=>cases r.mapM f<;>rfl
theorem uH{α β:Type}{f:α->Option β}:∀{l:List α} {ys:List β},l.mapM f=some ys->ys.length=l.length/\∀y∈ys,∃x∈l,f x=some y
 | [],ys,h=>by cases h;exact⟨rfl,λy hy=>nomatch hy⟩
 | x::r,ys,h=>by
  rw[dP]at h;cases e1:f x with
  | none=>rw[e1]at h;cases h
  | some y=>
   cases e2:r.mapM f with
   | none=>rw[e1,e2]at h;cases h
   | some zs=>
    rw[e1,e2]at h;cases h;obtain⟨l1,l2⟩:=uH e2;refine⟨by rw[b8,b8,l1],λz hz=>?_⟩;rcases bT.mp hz with q|q
    .exact⟨x,ck,by rw[q];exact e1⟩
    .obtain⟨x',h1,h2⟩:=l2 z q;exact⟨x',ci _ h1,h2⟩
def Cu{ks:QQQ}{k x:Str}{r:QQQ}{es:V0 D}{ns:QQQ}(h:rX ks k r=some es)(e:es=[.str x,names ns])(hl:r.length<=901):ns.length<4000:=by
 unfold rX at h;split at h
 .split at h
  .obtain⟨ys,hy,e2⟩:=some_of h;rw[e]at e2;have e2:ys++[names (r.drop ks.length)]=[D.str x]++[names ns]:=e2;have:names (r.drop ks.length)=names ns:=(dw (List.append_inj_right' e2 rfl)).1;have:(r.drop ks.length).map D.str=ns.map D.str:=by unfold names at this;injection this
   have:=dJ List.length this;rw[bP,bP,cU]at this;lia
  .cases h
 .split at h
  .obtain⟨_,b⟩:=uH h;obtain⟨p,_,hp⟩:=b (names ns) (by rw[e];simp);unfold qf at hp;split at hp
   .split at hp
    .injection hp with hp;cases hp
    .cases hp
   .injection hp with hp;cases hp
  .cases h
def KG(a:Ad):sv:=λds M Q R=>∃Rw,ds=[.str (oO Rw)]/\rF Rw/\(∀l,qX Rw=some l->sg l=true->vg l->qL l=oO Rw->∀p M',nJ M M'->wZ a M' p l->Q (.ref p) M')/\((¬ ∃l,qX Rw=some l/\sg l=true/\qL l=oO Rw)->∀M',nJ M M'->R a.g none M')
def Gf{R:V0 (QQQ)}(ok:rF R){l:ng}(h:qX R=some l):vg l:=by
 unfold qX at h;obtain⟨ps,h1,h⟩:=iV.mp h;obtain⟨gs,h2,h⟩:=iV.mp h;obtain⟨vs,h3,rfl⟩:=some_of h;obtain⟨a1,b1⟩:=uH h1;obtain⟨a2,b2⟩:=uH h2;obtain⟨a3,b3⟩:=uH h3;have lP:=ok.lP;have f1:=gR (qT "phone") R;have f2:=gR (qT "group") R;have f3:=gR zZ R;have inW:∀{ws:QQQ},ws∈R->∀x∈ws.tail,x.length<=900:=λh x hx=>(rb x ((ok.row _ h).2.2 x (gh hx))).2.2;have tlen:∀{ws:QQQ},ws∈R->ws.tail.length<=901:=λh=>by have:=(ok.row _ h).2.1;rw[fH];lia
 refine⟨by show ps.length<=1000;lia,by show gs.length<=1000;lia,by show vs.length<=1000;lia,λp hp=>?_,λg hg=>?_,λv hv=>?_⟩
 .obtain⟨ws,SA,e⟩:=b1 p hp;have hR:=(eO.mp SA).1;have lw:=inW hR;generalize ws.tail=t at e lw;unfold um at e;split at e
  .split at e
   .split at e
    .cases e;exact di (lw _ ck) (by decide)
    .cases e
   .cases e
  .cases e
 .obtain⟨ws,SA,e⟩:=b2 g hg;have hR:=(eO.mp SA).1;have lw:=inW hR;have tl:=tlen hR;generalize ws.tail=t at e lw tl;unfold vW at e;split at e
  .rename_i x m ms;cases e;have:=lw _ ck;have tl:ms.length<=901:=by rw[b8,b8]at tl;lia
   exact⟨di this (by decide),jZ tl (by decide)⟩
  .cases e
 .obtain⟨ws,SA,e⟩:=b3 v hv;have hR:=(eO.mp SA).1;have S6:∀{ws:QQQ} {w:Wi},ws.length<=901->rG ws=some w->w.lP:=λ{ws w} hl e=>by
   cases w with
   | bar x ns=>
    cases ws with
    | nil=>cases e
    | cons k r=>
     rcases vj k r with⟨_,z⟩|⟨ks,k',_,h3,ef⟩
     .rw[z]at e;cases e
     .rw[e]at ef;obtain⟨es,Ux,ev⟩:=some_of ef;have ev:es=[.str x,names ns]:=by
       unfold EE at ev;injection ev with ev
       exact(dw ev).2
      exact Cu Ux ev (by rw[b8]at hl;lia)
   | shut x ns=>
    cases ws with
    | nil=>cases e
    | cons k r=>
     rcases vj k r with⟨_,z⟩|⟨ks,k',_,h3,ef⟩
     .rw[z]at e;cases e
     .rw[e]at ef;obtain⟨es,Ux,ev⟩:=some_of ef;have ev:es=[.str x,names ns]:=by
       unfold EE at ev;injection ev with ev
       exact(dw ev).2
      exact Cu Ux ev (by rw[b8]at hl;lia)
   | _=>trivial
  unfold uh at e;split at e
  .obtain⟨w,e',rfl⟩:=some_of e;exact S6 (tlen hR) e'
  .obtain⟨w,e',rfl⟩:=some_of e;exact S6 (ok.row _ hR).2.1 e'
def rK{ws:QQQ}(h:ws≠[]):tY (ws.map D.str) 0=some (.str (ws.headD "")):=by
 cases ws with
 | nil=>exact absurd rfl h
 | cons x r=>exact tJ _ _
def ux(ws:QQQ)(h:ws≠[]):L3.qx (ws.map D.str) (some 1) none=ws.tail.map D.str:=by
 cases ws with
 | nil=>exact absurd rfl h
 | cons x r=>exact uG _ 1 (by rw[bP,b8];lia)
def yC{tt:xJ}{te:T3}{ok:Mp->Prop}{Q:DK}{R:V0 (QQQ)}{rs:QXQ}{M1:Mp}{x:Option D}(hR:qW M1 rs R)(keep:QQQ->Bool)(val:QQQ->Option D)(lb:∀M',nJ M1 M'->ok M')(hl:R.length<=100) (hstep:∀r ws,ws∈R->∀M',nJ M1 M'->lO M' r=some (ws.map D.str)->∀(k1:DK) (k2:Mp->Prop),(keep ws=true->∀y,val ws=some y->∀RW,nJ M' RW->k1 y RW)->(keep ws=false->k2 M')->tt [some (.ref r)] M' λb M3=>if b=true then te [some (.ref r)] M3 k1 else k2 M3) (hq:∀ys,(R.filter keep).mapM val=some ys->∀M',nJ M1 M'->∀p,M' p=none->Q (.ref p) (mS M' p (.lst ys))):
  tI (pk 0) tt te ok Q (rs.map D.ref) [] [x] M1:=by
 have hz:=cP;have e:rs.map D.ref=(rs.zip R).map λd=>D.ref d.1:=by have:=dJ (List.map D.ref) (Fd hR.1);rw[cB]at this;exact this.symm
 rw[e];refine uN (λd:Addr×QQQ=>D.ref d.1) (λd=>keep d.2) (λd=>val d.2) (λU M'=>nJ M1 M'/\∃y,U=[y]) (λU M' j=>lb M' j.1) _ [] _ _ ⟨.refl,x,rfl⟩ ?_ ?_ ?_
 .have:=hG (l₁:=rs) (l₂:=R);simp only[cA];lia
 .rintro d hd U M' ⟨s,y,rfl⟩ k k2 hk hk2
  exact hstep d.1 d.2 (fN hd).2 M' s ((hR.sub s).mem hd) (k _) (k2 _) (λh y hy RW s'=>hk h y hy _ _ ⟨s.trans s',_,rfl⟩) λh=>hk2 h _ _ ⟨s,_,rfl⟩
 .rintro ys So U M' ⟨s,_⟩ p hp
  rw[EW keep val hR.1]at So;rw[cG];exact hq ys So M' s p hp
def KW:Dh P w K mg base 9 a.R (KG a):=by
 refine tN G.R.toDG qp (by walk_at "m") (λ_ _ _ _ _ _ R hr hR=>⟨_,(mF (qh (i:=1) qp.nd rfl (Or.inl rfl) rfl (tM (ix:=[none]) (N':=["row"]) (by kernel_rfl)) (nR (rj v0 (nP mK))) (nw 0) oz (rj v0 (nP mK)))
 (mF (sL (i:=2) rfl hR qp.nd rfl (Or.inl rfl) rfl (tM (ix:=[none]) (N':=["row"]) (by kernel_rfl)) (nR V1) (λ_ _ _ _=>(nw 0)) (λ_ _ _ _=>(Dj (mW (yi hr) (mX v0 mE) mK))) (λ_ _ _ _=>(uQ (y9 G) (hr.mono (by first|decide|lia)) rfl G.k.mg G.k.toDG.kp G.k.b (qd (oB rfl G.bx) (nE v0 (nj mE) nA)))))
 (mF (sL (i:=3) rfl hR qp.nd rfl (Or.inl rfl) rfl (tM (ix:=[none]) (N':=["row"]) (by kernel_rfl)) (nR V1) (λ_ _ _ _=>(nw 0)) (λ_ _ _ _=>(Dj (mW (yi hr) (mX v0 mE) mK))) (λ_ _ _ _=>(uQ (y9 G) (hr.mono (by first|decide|lia)) rfl G.k.mg G.k.toDG.kp G.k.b (qd (oB rfl G.bz) (nE v0 (nj mE) nA)))))
 (mF (sL (i:=4) rfl hR qp.nd rfl (Or.inl rfl) rfl (tM (ix:=[none]) (N':=["row"]) (by kernel_rfl)) (nR V1) (λ_ _ _ _=>(nw 0)) (λ_ _ _ _=>(Dj (mW (yi hr) (mX v0 mE) (og (qd mK mK))))) (λ_ _ _ _=>(uQ (Hs G) (hr.mono (by first|decide|lia)) rfl G.Q.mg G.Q.toDG.kp G.Q.b (nP v0))))
 (mF (mT 5 qp (GS G.j.toCls G.a9 (Jo G) (hr.mono (by first|decide|lia)) rfl G.j.mg G.ab.b nO hR (qF V2 V3 v4)))
 (mF (mV (ny (oJ G) (hr.mono (by first|decide|lia)) rfl G.c.mg G.c.toDG.kp G.c.b nO hR (qd (nY (yi hr) (mP (EK G) hr G.X (nP v5)) v0) mK)))
 (mG (mM v5)))))))),?_⟩)
 .rintro ds M Q ⟨Rw,rfl,ok,q,rr⟩
  have hz:=cP;have tl:=Co ok;have Uy:=ok.lP;have es:=vV ok;have Sq:qX Rw=none->∀M',nJ M M'->R a.g none M':=λh=>rr λ⟨l,h1,_⟩=>by rw[h]at h1;cases h1
  refine yJ (t:=rm _ _) (λU M'=>nJ M M'/\∃r rs,lO M' r=some (rs.map D.ref)/\qW M' rs Rw/\U=[some (.str (oO Rw)),some (.ref r),none,none,none,none]) (λnx h=>?_) ?_
  .refine⟨rfl,by lia,by rw[es,bP];lia,λp0 Ue=>i' mI ?_⟩;rw[es,cB];obtain⟨M0,e0,s0,c0⟩:=tR (ds:=Rw.map (D.str∘Str.join " ")) Ue;rw[<-e0];refine va (Rw.map (D.str∘Str.join " ")) (λpre acc U M'=>nJ M0 M'/\(∃rs:QXQ,acc=rs.map D.ref/\qW M' rs (Rw.take pre.length))/\∃y,U=[y]) (λ_ _ _ M' j=>j.1.lst c0) _ [] [] _ _ rfl (by rw[bP];simp only[cA];lia) ⟨.refl,⟨[],rfl,rfl,λi r ds a _=>by simp at a⟩,none,rfl⟩ ?_ ?_
   .rintro pre d post e acc U M' ⟨s1,⟨rs,rfl,hR⟩,y,rfl⟩ k hk
    obtain⟨ws,ed,rfl,et⟩:=BH e;have hd:=dt ed;have sp:=xu ok hd;have wl:=(ok.row ws hd).2.1;have rl:=yF ok hd;refine⟨rfl,by show(Str.join " " ws).length<=sizeLine;lia,by show(Txt.split (Str.join " " ws) " ").length<=sizeLine;rw[sp];lia,λp hp=>?_⟩;have t:=nJ.new (c:=.lst ((Txt.split (Str.join " " ws) " ").map D.str)) hp;refine hk _ _ _ ⟨s1.trans t,⟨rs++[p],by rw[cy];rfl,?_⟩,_,rfl⟩;rw[bS,cC,et];exact hR.snoc t (mI.trans (dJ (λz=>some (List.map D.str z)) sp))
   .rintro acc U M' ⟨s1,⟨rs,rfl,hR⟩,y,rfl⟩ p hp
    rw[bP,dC]at hR;have t:=nJ.new (c:=.lst (rs.map D.ref)) hp;exact h _ _ ⟨s0.trans (s1.trans t),p,rs,mI,hR.sub t,rfl⟩
  rintro U M1 ⟨s1,r,rs,SR,hR1,rfl⟩
  refine yJ (t:=rm _ _) (λU M'=>nJ M1 M'/\∃r2 ps,(Rw.filter (qT "phone")).mapM (λws=>um ws.tail)=some ps/\lO M' r2=some (ps.map nV)/\U=[some (.str (oO Rw)),some (.ref r),some (.ref r2),none,none,none]) (λnx h=>?_) ?_
  .refine i' SR (yC hR1 (qT "phone") (λws=>(um ws.tail).map nV) (λM' s=>s.lst SR) Uy (λr0 ws hd M' s hw k1 k2 h1 h2=>?_) λys So M' s p hp=>?_)
   .obtain⟨ne,wl,SX⟩:=ok.row ws hd;refine i' hw (i' (rK ne) ?_);show if qT "phone" ws=true then _ else _
    cases hk:qT "phone" ws with
    | false=>exact wg (h2 hk)
    | true=>
     refine yD (i' hw λp1 Tq=>?_);rw[ux ws ne];refine⟨["name","lines"],"rank",p1,ws.tail,rfl,mI,by decide,by rw[fH];lia,λx hx=>SX x (gh hx),λes Ux=>h1 hk _ ?_ _ (.new Tq),λhn M3 s3=>Sq ?_ M3 (s1.trans (s.trans ((nJ.new Tq).trans s3)))⟩
     .rw[<-zD,Ux];rfl
     .have:=zD ws.tail;rw[hn]at this;unfold qX;rw[rQ (eO.mpr ⟨hd,hk⟩) (f:=λws=>um ws.tail) (by cases e2:um ws.tail with|none=>rfl|some v=>rw[e2]at this;cases this)];rfl
   .rw[wQ]at So;obtain⟨ps,hps,rfl⟩:=some_of So;exact h _ _ ⟨s.trans (.new hp),p,ps,hps,mI,rfl⟩
  rintro U M2 ⟨s2,r2,ps,hps,hr2,rfl⟩
  refine yJ (t:=rm _ _) (λU M'=>nJ M2 M'/\∃r3 gs,(Rw.filter (qT "group")).mapM (λws=>vW ws.tail)=some gs/\lO M' r3=some (gs.map nN)/\U=[some (.str (oO Rw)),some (.ref r),some (.ref r2),some (.ref r3),none,none]) (λnx h=>?_) ?_
  .refine i' (s2.lst SR) (yC (hR1.sub s2) (qT "group") (λws=>(vW ws.tail).map nN) (λM' s=>s.lst (s2.lst SR)) Uy (λr0 ws hd M' s hw k1 k2 h1 h2=>?_) λys So M' s p hp=>?_)
   .obtain⟨ne,wl,SX⟩:=ok.row ws hd;refine i' hw (i' (rK ne) ?_);show if qT "group" ws=true then _ else _
    cases hk:qT "group" ws with
    | false=>exact wg (h2 hk)
    | true=>
     refine yD (i' hw λp1 Tq=>?_);rw[ux ws ne];refine⟨["name","manner"],"phones",p1,ws.tail,rfl,mI,by decide,by rw[fH];lia,λx hx=>SX x (gh hx),λes Ux=>h1 hk _ ?_ _ (.new Tq),λhn M3 s3=>Sq ?_ M3 (s1.trans (s2.trans (s.trans ((nJ.new Tq).trans s3))))⟩
     .rw[<-yH,Ux];rfl
     .have:=yH ws.tail;rw[hn]at this;unfold qX;rw[hps,rQ (eO.mpr ⟨hd,hk⟩) (f:=λws=>vW ws.tail) (by cases e2:vW ws.tail with|none=>rfl|some v=>rw[e2]at this;cases this)];rfl
   .rw[wQ]at So;obtain⟨gs,hgs,rfl⟩:=some_of So;exact h _ _ ⟨s.trans (.new hp),p,gs,hgs,mI,rfl⟩
  rintro U M3 ⟨s3,r3,gs,hgs,Uh,rfl⟩
  refine yJ (t:=rm _ _) (λU M'=>nJ M3 M'/\∃r4 vs,(Rw.filter zZ).mapM uh=some vs/\lO M' r4=some (vs.map pS)/\U=[some (.str (oO Rw)),some (.ref r),some (.ref r2),some (.ref r3),some (.ref r4),none]) (λnx h=>?_) ?_
  .refine i' (s3.lst (s2.lst SR)) (yC ((hR1.sub s2).sub s3) zZ (λws=>(uh ws).map pS) (λM' s=>s.lst (s3.lst (s2.lst SR))) Uy (λr0 ws hd M' s hw k1 k2 h1 h2=>?_) λys So M' s p hp=>?_)
   .obtain⟨ne,wl,SX⟩:=ok.row ws hd;refine i' hw (i' (rK ne) ⟨lP rfl,rfl,rfl,?_⟩);show if zZ ws=true then _ else _
    cases hk:zZ ws with
    | false=>exact wg (h2 hk)
    | true=>refine yD ⟨r0,ws,rfl,hw,ne,by lia,SX,λv hv=>h1 hk _ (by show(uh ws).map pS=_;rw[hv];rfl) _ .refl,λhn M3 s3'=>Sq ?_ M3 (s1.trans (s2.trans (s3.trans (s.trans s3'))))⟩;unfold qX;rw[hps,hgs,rQ (eO.mpr ⟨hd,hk⟩) hn];rfl
   .rw[wQ]at So;obtain⟨vs,hvs,rfl⟩:=some_of So;exact h _ _ ⟨s.trans (.new hp),p,vs,hvs,mI,rfl⟩
  rintro U M4 ⟨s4,r4,vs,hvs,hr4,rfl⟩
  have Ue:qX Rw=some ⟨ps,gs,vs⟩:=by unfold qX;rw[hps,hgs,hvs];rfl
  have fw:=Gf ok Ue;generalize hl:(⟨ps,gs,vs⟩:ng)=l at Ue fw;have hr2:lO M4 r2=some (l.kW.map nV):=by rw[<-hl];exact s4.lst (s3.lst hr2)
  have Uh:lO M4 r3=some (l.groups.map nN):=by rw[<-hl];exact s4.lst Uh
  have hr4:lO M4 r4=some (l.kY.map pS):=by rw[<-hl];exact hr4
  have sA:=s1.trans (s2.trans (s3.trans s4));intro p hp;have t5:=nJ.new (c:=.ins a.j []) hp;refine⟨p,r2,r3,r4,l,rfl,m7,t5.lst hr2,t5.lst Uh,t5.lst hr4,fw,λhB M0 kp pa fr=>⟨rfl,?_⟩,λhB M' s'=>rr (λ⟨l',e1,e2,_⟩=>by rw[Ue]at e1;cases e1;rw[hB]at e2;cases e2) M' (sA.trans (t5.trans s'))⟩;have sm:nJ M4 M0:=λb c h=>kp b c (HB h hp) (t5 b c h);refine⟨p,l,rfl,pa,u5 fw hB,⟨qL l==oO Rw,_,rfl,λg=>?_,λg=>rr (λ⟨l',e1,_,e3⟩=>by rw[Ue]at e1;cases e1;rw[e3]at g;simp at g) _ (sA.trans sm)⟩⟩;exact⟨M0,.refl,q l Ue hB fw (dr.mp g) p M0 (sA.trans sm) pa⟩
def Hi:rf:=λds M Q=>∃x:Str,ds=[.str x]/\x.length<=1000/\Q (.bl (nk x)) M
noncomputable def nZ(w:Str)(lo hi:Int):Bool:=pR w&&((decide (lo<=oa w)&&decide (oa w<=hi))&&(qi (oa w)==w))
def KL:rf:=λds M Q=>Ef λw lo hi=>ds=[.str w,.int lo,.int hi]/\Wd w/\Q (.bl (nZ w lo hi)) M
def FL:rf:=λds M Q=>Ju λr k m (cs ks:QQQ)=>ds=[.ref r,.int m,.ref k]/\lO M r=some (cs.map D.str)/\lO M k=some (ks.map D.str)/\cs.length<4000/\Q (.bl (mO cs ks m)) M
def Cd:Fq P w K mg base 1 a.Z Hi:=by
 refine fq G.Z.toDG zA (λr u=>⟨_,(mG (mM (qa (qj u mE (mJ mZ rfl G.e mY (nP v0)) mE) (qD (mJ (zj rfl) rfl G.an yB (nP (oI rfl (Af (ix:=[none]) (N':=["_law_sign_here"])) (nR v0) (nw 0) oz (nY u v0 mK)))))))),?_⟩)
 rintro ds M Q ⟨x,rfl,hl,q⟩
 have hz:=cP;refine⟨by lia,oo (λh1=>?_) (λh1=>?_)⟩
 .refine oo (λh2=>?_) (λh2=>?_)
  .refine n8 (f:=λd=>match d with|.str z=>D.bl (qq z pM)|_=>.k9) trivial _ [] _ ?_ (λd hd k hk=>?_) λp hp=>?_
   .rw[bP];have:x.cps.toList.length=x.length:=by simp[Str.length]
    simp only[cA];lia
   .obtain⟨c,_,rfl⟩:=cj.mp hd;exact hk
   .refine i' mI ?_;have e:([]++(x.cps.toList.map λc=>D.str ⟨#[c]⟩).map λd=>match d with|.str z=>D.bl (qq z pM)|_=>.k9)=x.cps.toList.map λc=>D.bl (qq ⟨#[c]⟩ pM):=by rw[cG,cB];rfl
    rw[e];refine i' (uf (λc=>qq ⟨#[c]⟩ pM) x.cps.toList) ⟨M,.new hp,?_⟩;rw[tE];have:nk x=x.cps.toList.all λc=>qq ⟨#[c]⟩ pM:=by unfold nk;rw[h1,h2];rfl
    rw[<-this];exact q
  .refine⟨M,.refl,?_⟩;have:nk x=false:=by
    unfold nk;have h2:decide ((x.length:Int)<=6)=false:=by simpa using h2
    rw[h2];simp
   rw[<-this];exact q
 .refine⟨M,.refl,?_⟩;have:nk x=false:=by
   unfold nk;have h1:decide ((1:Int)<=x.length)=false:=by simpa using h1
   rw[h1];rfl
  rw[<-this];exact q
def wM:Fq P w K mg base 1 a.t KL:=by
 refine fq G.t.toDG zY (λr u=>⟨_,(mF (nB (W3.b3 (tL (rZ (yV u mE (mJ mZ rfl G.e mY (nP v0)) mE)) (tU (qU (mJ (MX rfl) rfl G.bu Np (nP (oI rfl (Af (ix:=[none]) (N':=["_law_sign_here"])) (nR v0) (nw 0) oz (nY u v0 mK))))))))
 (mG (mM sH))
 mR)
 (mG (mM (qa (qj u V1 (nK BR rfl G.aJ A9 (nP v0)) V2) (qD (nY u (nK yX rfl G.al zk (nP (nK BR rfl G.aJ A9 (nP v0)))) v0)))))),?_⟩)
 rintro ds M Q ⟨w0,lo,hi,rfl,hw,q⟩
 have hz:=cP;obtain⟨hl,Ve⟩:=AH w0 hw;have eb:pR w0=((decide ((1:Int)<=w0.length)&&decide ((w0.length:Int)<=2))&&w0.cps.toList.all λc=>qq ⟨#[c]⟩ "0123456789"):=rfl;have no:pR w0=false->∃RW,nJ RW M/\Q (.bl false) RW:=λh=>by unfold nZ at q;rw[h]at q;exact⟨M,.refl,q⟩
 refine⟨by lia,oo (λh1=>?_) (λh1=>?_)⟩
 .have h1:decide ((1:Int)<=w0.length)=true:=h1;refine oo (λh2=>?_) (λh2=>?_)
  .refine no ?_;have h2:(!decide ((w0.length:Int)<=2))=true:=h2;rw[eb,show decide ((w0.length:Int)<=2)=false by simpa using h2];cases decide ((1:Int)<=w0.length)<;>rfl
  .have h2:decide ((w0.length:Int)<=2)=true:=by
    cases e:decide ((w0.length:Int)<=2)with
    | true=>rfl
    | false=>exact absurd (by show(!decide ((w0.length:Int)<=2))=true;rw[e];rfl) h2
   rw[h1,h2]at eb;refine n8 (f:=λd=>match d with|.str z=>D.bl (!qq z "0123456789")|_=>.k9) trivial _ [] _ ?_ (λd hd k hk=>?_) λp hp=>?_
   .rw[bP];have:w0.cps.toList.length=w0.length:=by simp[Str.length]
    simp only[cA];lia
   .obtain⟨c,_,rfl⟩:=cj.mp hd;exact hk
   .refine i' mI ?_;have e:([]++(w0.cps.toList.map λc=>D.str ⟨#[c]⟩).map λd=>match d with|.str z=>D.bl (!qq z "0123456789")|_=>.k9)=w0.cps.toList.map λc=>D.bl (!qq ⟨#[c]⟩ "0123456789"):=by rw[cG,cB];rfl
    rw[e];refine i' (uf (λc=>!qq ⟨#[c]⟩ "0123456789") w0.cps.toList) ?_;have ea:(w0.cps.toList.map λc=>!qq ⟨#[c]⟩ "0123456789").any id=!(w0.cps.toList.all λc=>qq ⟨#[c]⟩ "0123456789"):=by
     rw[kM];induction w0.cps.toList with
     | nil=>rfl
     | cons c r ih=>rw[eI,fL,ih];show(!qq ⟨#[c]⟩ "0123456789"||_)=_;cases qq ⟨#[c]⟩ "0123456789"<;>rfl
    rw[ea];cases hb:pR w0 with
    | false=>rw[show(w0.cps.toList.all λc=>qq ⟨#[c]⟩ "0123456789")=false by rw[eb]at hb;exact hb];obtain⟨RW,Uj,q''⟩:=no hb;exact yD ⟨RW,Uj.trans (.new hp),q''⟩
    | true=>
     rw[show(w0.cps.toList.all λc=>qq ⟨#[c]⟩ "0123456789")=true by rw[eb]at hb;exact hb];obtain⟨f1,f2,f3⟩:=Ve hb;unfold nZ at q;rw[hb]at q;have l2:(w0.length:Int)<=2:=bU (gg.mp (gg.mp hb).1).2;have nl:(oa w0).natAbs.log2<1920:=by
      have:(oa w0).natAbs<=99:=by lia
      exact jZ (kx _) (by lia)
     refine wg ⟨oa w0,f1,by lia,oo (λg1=>?_) (λg1=>?_)⟩
     .refine oo (λg2=>⟨oa w0,f1,by lia,nl,?_⟩) (λg2=>?_)
      .rw[show decide (lo<=oa w0)=true from g1,show decide (oa w0<=hi)=true from g2]at q;exact⟨M,.new hp,q⟩
      .rw[show decide (oa w0<=hi)=false from cE.mpr g2,cZ]at q;exact⟨M,.new hp,q⟩
     .rw[show decide (lo<=oa w0)=false from cE.mpr g1,cX]at q;exact⟨M,.new hp,q⟩
 .refine no ?_;rw[eb,show decide ((1:Int)<=w0.length)=false from cE.mpr h1];rfl
def vf:Fq P w K mg base 1 a.B FL:=by
 refine fq G.B.toDG xt (λr u=>⟨_,(mG (mM (qa (qj u mE (mJ mZ rfl G.e mY (nP v0)) V1) (qa (nY u (AG rfl v0 rfl G.e rfl G.a1 mY IB) (mJ mZ rfl G.e mY (nP v0))) (qD (mJ (zj rfl) rfl G.an yB (nP (oI rfl (Af (ix:=[none,some 2]) (N':=["_law_word_here","_law_names"])) (nR v0) (nw 0) oz (nY u v0 V1))))))))),?_⟩)
 rintro ds M Q ⟨r,k,m,cs,ks,rfl,UN,hk,hl,q⟩
 have hz:=cP;have key:((cs.map D.str).length:Int)=cs.length:=by rw[bP]
 have eb:mO cs ks m=(decide ((1:Int)<=cs.length)&&(decide ((cs.length:Int)<=m)&&(pf cs&&cs.all λc=>ks.any (·==c)))):=rfl;have Tr:∀b:Bool,mO cs ks m=b->∃RW,nJ RW M/\Q (.bl b) RW:=λb e=>⟨M,.refl,e ▸ q⟩;refine i' UN (oo (λh1=>?_) (λh1=>?_))
 .have h1:decide ((1:Int)<=cs.length)=true:=by rw[<-key];exact h1
  refine oo (λh2=>?_) (λh2=>?_)
  .have h2:decide ((cs.length:Int)<=m)=true:=by rw[<-key];exact h2
   rw[h1,h2]at eb;refine i' UN (i' (L3.ut cs) ⟨hl,i' UN ?_⟩);rw[key];refine oo (λh3=>?_) (λh3=>?_)
   .have h3:pf cs=true:=h3;refine i' UN (n8 (f:=λd=>match d with|.str z=>D.bl (ks.any (·==z))|_=>.k9) UN _ [] _ ?_ (λd hd k0 Us=>?_) λp hp=>?_)
    .rw[bP];simp only[cA];lia
    .obtain⟨c,_,rfl⟩:=cj.mp hd;refine i' hk ⟨rfl,pX ks,?_⟩;show k0 (.bl (inD (.str c) (ks.map D.str))) M;rw[qC];exact Us
    .refine i' mI ?_;have e:([]++(cs.map D.str).map λd=>match d with|.str z=>D.bl (ks.any (·==z))|_=>.k9)=cs.map λc=>D.bl (ks.any (·==c)):=by rw[cG,cB];rfl
     rw[e];refine i' (uf (λc=>ks.any (·==c)) cs) ⟨M,.new hp,?_⟩;rw[tE];rw[h3]at eb;rw[eb]at q;exact q
   .refine Tr _ ?_;rw[eb,show pf cs=false from cE.mpr h3];rfl
  .refine Tr _ ?_;rw[eb,show decide ((cs.length:Int)<=m)=false from cE.mpr (by rw[<-key];exact h2)];simp
 .refine Tr _ ?_;rw[eb,show decide ((1:Int)<=cs.length)=false from cE.mpr (by rw[<-key];exact h1)];rfl
noncomputable def xm(r:QQQ):Bool:=match r with
 | [_,_,f,l]=>!(f==l)&&(nZ f 0 23&&nZ l 0 23)
 | _=>false
noncomputable def vc(r:QQQ):Bool:=match r with
 | [_,_,n]=>nZ n 1 9
 | _=>false
noncomputable def tD(ws nm pn:QQQ):Bool:=match ws with
 | []=>false
 | w::r=>
  if w="bar" then decide ((1:Int)<r.length)&&(oU pn (r.headD "")&&mO r.tail nm 6)
  else if w="shut" then decide ((1:Int)<r.length)&&(oU nm (r.headD "")&&mO r.tail pn 6)
  else if w="wait"\/w="breaks" then((r.length:Int)==1)&&oU pn (r.headD "")
  else if w="always"\/w="busy" then mO (r.take 2) nm 2&&((r.length:Int)==2)
  else if w="night" then mO (r.take 2) nm 2&&xm r
  else if w="silent" then mO (r.take 2) nm 2&&vc r
  else false
def Ho:rf:=λds M Q=>QH λr nl ol (ws nm pn:QQQ)=>ds=[.ref r,.ref nl,.ref ol]/\lO M r=some (ws.map D.str)/\lO M nl=some (nm.map D.str)/\lO M ol=some (pn.map D.str)/\2<=ws.length/\ws.length<=901/\(∀x∈ws,Wd x)/\Q (.bl (tD ws nm pn)) M
def GN(ws:QQQ):L3.qx (ws.map D.str) none (some 2)=(ws.take 2).map D.str:=by
 unfold L3.qx;rw[HT.zI,show HT.pZ (ws.map D.str).length (ws.map D.str).length (some 2)=min 2 (ws.map D.str).length from HT.wB _ _ 2,gD,iL,gk,bP];by_cases h:2<=ws.length
 .rw[eX h]
 .rw[gM (by lia),dh (by rw[bP];exact cq _),dh (by rw[bP];lia)]
def yY(w x y:Str):inD (.str w) [.str x,.str y]=decide (w=x\/w=y):=by rw[show[D.str x,D.str y]=[x,y].map D.str from rfl,qC,gX];simp only[eI,kO,jB,iZ,dr,fA];exact⟨λh=>h.imp fV fV,λh=>h.imp fV fV⟩
def JF(w x y u v:Str):inD (.str w) [.str x,.str y,.str u,.str v]=decide (w=x\/w=y\/w=u\/w=v):=by rw[show[D.str x,D.str y,D.str u,D.str v]=[x,y,u,v].map D.str from rfl,qC,gX];simp only[eI,kO,jB,iZ,dr,fA];exact⟨λh=>h.imp fV λh=>h.imp fV λh=>h.imp fV fV,λh=>h.imp fV λh=>h.imp fV λh=>h.imp fV fV⟩
def EF{ws:QQQ}{i:Nat}{x:Str}(h:ws[i]?=some x):tY (ws.map D.str) (i:Int)=some (.str x):=qI (by rw[cD,h];rfl)
def Ex{l:QQQ}(h:l.length=4):∃x y u v,l=[x,y,u,v]:=by
 match l,h with
 | [x,y,u,v],_=>exact⟨x,y,u,v,rfl⟩
def HU{l:QQQ}(h:l.length=3):∃x y u,l=[x,y,u]:=by
 match l,h with
 | [x,y,u],_=>exact⟨x,y,u,rfl⟩
def GQ:Fq P w K mg base 2 a.aB Ho:=by
 refine fq G.aB.toDG rD (λr u=>⟨_,(mF (mT 3 rD (mX v0 mE))
 (mF (mT 4 rD (nE v0 (nj mE) nA))
 (mF (nB (mW u V3 mK)
 (mG (mM (qa (nY u (mJ mZ rfl G.e mY (nP v4)) mE) (qa (nY u (mX v4 mE) V2) (qD (mP (vf G) r G.B (qF (nE v4 (nj mE) nA) mE V1)))))))
 mR)
 (mF (nB (mW u V3 mK)
 (mG (mM (qa (nY u (mJ mZ rfl G.e mY (nP v4)) mE) (qa (nY u (mX v4 mE) V1) (qD (mP (vf G) r G.B (qF (nE v4 (nj mE) nA) mE V2)))))))
 mR)
 (mF (nB (mW u V3 (qv (qd mK mK)))
 (mG (mM (qa (nY u (mJ mZ rfl G.e mY (nP v4)) mE) (qD (nY u (mX v4 mE) V2)))))
 mR)
 (mF (nB (W3.b3 (tL (mW u V3 (qv (oW mK (qF mK mK mK)))) (tU (rZ (qU (mP (vf G) r G.B (qF (nE v4 nA (nj mE)) mE V1)))))))
 (mG (mM sH))
 mR)
 (mF (nB (mW u V3 mK)
 (mF (nB (W3.b3 (tL (mW u (mJ mZ rfl G.e mY (nP v4)) mE) (tU (mW u (mX v4 mE) (mX v4 mE)))))
 (mG (mM sH))
 mR)
 (mG (mM (qa (mP (wM G) r G.t (qF (mX v4 mE) mE mE)) (qD (mP (wM G) r G.t (qF (mX v4 mE) mE mE)))))))
 mR)
 (mF (nB (mW u V3 mK)
 (mG (mM (qa (nY u (mJ mZ rfl G.e mY (nP v4)) mE) (qD (mP (wM G) r G.t (qF (mX v4 mE) mE mE))))))
 mR)
 (mG (mM (nY u (mJ mZ rfl G.e mY (nP v4)) mE))))))))))),?_⟩)
 rintro ds M Q ⟨r,nl,ol,ws,nm,pn,rfl,hw,hn,ho,h2,h20,SX,q⟩
 cases ws with
 | nil=>cases h2
 | cons w0 r0=>
  have hw:lO M r=some (D.str w0::r0.map D.str):=hw;rw[b8]at h2 h20;refine i' hw (i' (tJ _ _) (i' hw λp hp=>?_));have ec:L3.qx (D.str w0::List.map D.str r0) (some 1) none=List.map D.str r0:=uG _ 1 (by rw[b8];lia);rw[ec];obtain⟨M1,e0,s1,l1⟩:=tR (ds:=r0.map D.str) hp;rw[<-e0];have n1:=s1.lst hn;have o1:=s1.lst ho;have RV:∀b:Bool,tD (w0::r0) nm pn=b->∀M2,nJ M1 M2->∃RW,nJ RW M2/\Q (.bl b) RW:=λb e M2 s2=>⟨M,s1.trans s2,e ▸ q⟩;have key:((r0.map D.str).length:Int)=r0.length:=by rw[bP]
  have ne:r0≠[]:=λz=>by rw[z]at h2;simp at h2
  have tl:r0.tail.length<4000:=by rw[fH];lia
  have eq:tD (w0::r0) nm pn=(if w0="bar" then decide ((1:Int)<r0.length)&&(oU pn (r0.headD "")&&mO r0.tail nm 6)
   else if w0="shut" then decide ((1:Int)<r0.length)&&(oU nm (r0.headD "")&&mO r0.tail pn 6)
   else if w0="wait"\/w0="breaks" then((r0.length:Int)==1)&&oU pn (r0.headD "")
   else if w0="always"\/w0="busy" then mO (r0.take 2) nm 2&&((r0.length:Int)==2)
   else if w0="night" then mO (r0.take 2) nm 2&&xm r0
   else if w0="silent" then mO (r0.take 2) nm 2&&vc r0
   else false):=rfl
  by_cases b1:w0="bar"
  .subst b1;rw[b9 rfl]at eq;refine i' l1 (oo (λg1=>?_) (λg1=>?_))
   .rw[show decide ((1:Int)<r0.length)=true by rw[<-key];exact g1,cW]at eq;refine i' l1 (i' (rK ne) (i' rfl (i' o1 ⟨rfl,pX pn,?_⟩)));rw[qC];refine oo (c:=oU pn (r0.headD "")) (λg2=>?_) (λg2=>?_)
    .rw[g2,cW]at eq;refine i' l1 λp2 SL=>?_;rw[ux r0 ne];have t2:=nJ.new (c:=.lst (r0.tail.map D.str)) SL;exact⟨p2,nl,6,r0.tail,nm,rfl,mI,t2.lst n1,tl,RV _ eq _ t2⟩
    .exact RV false (by rw[eq,show oU pn (r0.headD "")=false from cE.mpr g2];rfl) _ .refl
   .exact RV false (by rw[eq,show decide ((1:Int)<r0.length)=false from cE.mpr (by rw[<-key];exact g1)];rfl) _ .refl
  rw[bV b1]at eq;refine xT (c:=w0=="bar") (by simpa using b1) ?_;by_cases b2:w0="shut"
  .subst b2;rw[b9 rfl]at eq;refine i' l1 (oo (λg1=>?_) (λg1=>?_))
   .rw[show decide ((1:Int)<r0.length)=true by rw[<-key];exact g1,cW]at eq;refine i' l1 (i' (rK ne) (i' rfl (i' n1 ⟨rfl,pX nm,?_⟩)));rw[qC];refine oo (c:=oU nm (r0.headD "")) (λg2=>?_) (λg2=>?_)
    .rw[g2,cW]at eq;refine i' l1 λp2 SL=>?_;rw[ux r0 ne];have t2:=nJ.new (c:=.lst (r0.tail.map D.str)) SL;exact⟨p2,ol,6,r0.tail,pn,rfl,mI,t2.lst o1,tl,RV _ eq _ t2⟩
    .exact RV false (by rw[eq,show oU nm (r0.headD "")=false from cE.mpr g2];rfl) _ .refl
   .exact RV false (by rw[eq,show decide ((1:Int)<r0.length)=false from cE.mpr (by rw[<-key];exact g1)];rfl) _ .refl
  rw[bV b2]at eq;refine xT (c:=w0=="shut") (by simpa using b2) ?_;refine⟨lP rfl,λp2 SL=>i' mI ⟨rfl,rfl,?_⟩⟩;obtain⟨M2,e0,s2,_⟩:=tR (ds:=[D.str "wait",.str "breaks"]) SL;rw[<-e0];have l2:=s2.lst l1;have n2:=s2.lst n1;have o2:=s2.lst o1;show if inD (.str w0) [.str "wait",.str "breaks"]=true then _ else _
  rw[yY];by_cases b3:w0="wait"\/w0="breaks"
  .rw[b9 b3]at eq;refine zN (cu b3) (i' l2 ?_);refine oo (c:=((r0.map D.str).length:Int)==1) (λg1=>?_) (λg1=>?_)
   .rw[key]at g1;rw[g1,cW]at eq;refine i' l2 (i' (rK ne) (i' rfl (i' o2 ⟨rfl,pX pn,?_⟩)));rw[qC];exact RV _ eq _ s2
   .rw[key]at g1;exact RV false (by rw[eq,cE.mpr g1];rfl) _ s2
  rw[bV b3]at eq;refine xT (cS b3) ⟨lP rfl,λp3 Ug=>i' mI ⟨rfl,rfl,?_⟩⟩;have s3:=s2.trans (nJ.new (c:=.lst [D.str "always",.str "night",.str "busy",.str "silent"]) Ug);generalize mS M2 p3 (.lst [D.str "always",.str "night",.str "busy",.str "silent"])=M3 at s3 ⊢;have l3:=s3.lst l1;have n3:=s3.lst n1;show if (!inD (.str w0) [.str "always",.str "night",.str "busy",.str "silent"])=true then _ else _
  rw[JF];by_cases b4:w0="always"\/w0="night"\/w0="busy"\/w0="silent"
  .refine xT (by rw[cu b4];rfl) (i' l3 λp4 hp4=>?_);rw[GN];have s4:=s3.trans (nJ.new (c:=.lst ((r0.take 2).map D.str)) hp4);have x4:=@mI M3 p4 ((r0.take 2).map D.str);generalize mS M3 p4 (.lst ((r0.take 2).map D.str))=M4 at s4 x4 ⊢;have l4:=s4.lst l1;refine⟨p4,nl,2,r0.take 2,nm,rfl,x4,s4.lst n1,by rw[cQ];lia,?_⟩;have SY:tD (w0::r0) nm pn=(mO (r0.take 2) nm 2&&(if w0="night" then xm r0 else if w0="silent" then vc r0 else((r0.length:Int)==2))):=by rw[eq];rcases b4 with rfl|rfl|rfl|rfl<;>rfl
   refine oo (c:=!mO (r0.take 2) nm 2) (λg=>?_) (λg=>?_)
   .exact RV false (by rw[SY,show mO (r0.take 2) nm 2=false by simpa using g];rfl) _ s4
   .rw[show mO (r0.take 2) nm 2=true by simpa using g,cW]at SY;by_cases b5:w0="night"
    .subst b5;rw[b9 rfl]at SY;by_cases h4:r0.length=4
     .obtain⟨x,y,f,l,rfl⟩:=Ex h4;refine i' l4 (i' l4 (i' rfl (i' l4 (i' rfl ?_))));refine oo (c:=f==l) (λg=>?_) (λg=>?_)
      .refine RV false ?_ _ s4;rw[SY];show(!(f==l)&&_)=false;rw[g];rfl
      .have SY:tD ["night",x,y,f,l] nm pn=(!(f==l)&&(nZ f 0 23&&nZ l 0 23)):=SY;rw[cE.mpr g]at SY;refine i' l4 (i' rfl ⟨f,0,23,rfl,SX f (by simp),oo (c:=nZ f 0 23) (λg1=>?_) (λg1=>?_)⟩)
       .rw[g1]at SY;exact i' l4 (i' rfl ⟨l,0,23,rfl,SX l (by simp),RV _ SY _ s4⟩)
       .rw[cE.mpr g1]at SY;exact RV false SY _ s4
     .refine i' l4 (zN (c:=!(((r0.map D.str).length:Int)==4)) ?_ (RV false ?_ _ s4))
      .rw[key];simp;lia
      .rw[SY];unfold xm;split
       .exact absurd rfl h4
       .rfl
    .rw[bV b5]at SY;refine xT (c:=w0=="night") (by simpa using b5) ?_;by_cases b6:w0="silent"
     .subst b6;rw[b9 rfl]at SY;refine i' l4 (oo (c:=((r0.map D.str).length:Int)==3) (λg=>?_) (λg=>?_))
      .rw[key]at g;have h3:r0.length=3:=by have:=dr.mp g;lia
       obtain⟨x,y,n,rfl⟩:=HU h3;exact i' l4 (i' rfl ⟨n,1,9,rfl,SX n (by simp),RV _ SY _ s4⟩)
      .refine RV false ?_ _ s4;rw[key]at g;rw[SY];unfold vc;split
       .exact absurd rfl g
       .rfl
     .rw[bV b6]at SY;refine xT (c:=w0=="silent") (by simpa using b6) (i' l4 ?_);rw[key];exact RV _ SY _ s4
  .refine zN (by rw[cS b4];rfl) (RV false ?_ _ s3);rw[eq,bV λz=>b4 (z.elim .inl λz=>.inr (.inr (.inl z))),bV λz=>b4 (.inr (.inl z)),bV λz=>b4 (.inr (.inr (.inr z)))]
noncomputable def sY(ws own:QQQ):Bool:=match ws with
 | [_,x,l,r]=>nk x&&(!oU own x&&(nZ l 1 3&&nZ r 0 9))
 | _=>false
noncomputable def vp:V0 (QQQ)->QQQ->Option (QQQ)
 | [],own=>some own
 | ws::r,own=>if qT "phone" ws=true then(if sY ws own=true then vp r (own++[ws.getD 1 ""])else none)else some own
noncomputable def sT(own ws nm:QQQ):Bool:=match ws with
 | _::x::m::ms=>decide (4<=ms.length+3)&&(nk x&&(!oU nm x&&(decide (m="all"\/m="turns")&&mO ms own 4)))
 | _=>false
noncomputable def uP(own:QQQ):V0 (QQQ)->QQQ->Option (QQQ)
 | [],nm=>some nm
 | ws::r,nm=>if qT "group" ws=true then(if sT own ws nm=true then uP own r (nm++[ws.getD 1 ""])else none)else some nm
noncomputable def tG(ws:QQQ):QQQ:=if qT "off" ws=true then ws.tail else ws
noncomputable def zd(nm own ws:QQQ):Bool:=decide (2<=(tG ws).length)&&tD (tG ws) nm own
noncomputable def zq(own nm:QQQ)(R:V0 (QQQ)):Bool:=(decide (1<=own.length)&&decide (own.length<=8))&&(decide (nm.length<=own.length+3)&&decide (R.length<=nm.length+16))
noncomputable def nL(R:V0 (QQQ)):Bool:=match vp R []with
 | none=>false
 | some own=>match uP own (R.drop own.length) own with
  | none=>false
  | some nm=>zq own nm R&&(R.drop nm.length).all (zd nm own)
def FY:rf:=λds M Q=>∃Rw,ds=[.str (oO Rw)]/\rF Rw/\Q (.bl (nL Rw)) M
def wI{M0 M:Mp}{o:Addr}{c:s9}(s:nJ M0 M)(h:M0 o=none):nJ M0 (mS M o c):=λx d hx=>by rw[pL (λz=>by rw[z,h]at hx;cases hx)];exact s x d hx
def E4{R:V0 (QQQ)}{own:QQQ}(h:∀ws,R[own.length]?=some ws->qT "phone" ws=false):vp (R.drop own.length) own=some own:=by
 cases e:R.drop own.length with
 | nil=>rfl
 | cons ws r=>
  have:R[own.length]?=some ws:=by rw[<-kG,e];rfl
  show(if qT "phone" ws=true then _ else some own)=_;rw[h ws this];rfl
def Kw{R:V0 (QQQ)}{own ws:QQQ}(h:R[own.length]?=some ws)(hk:qT "phone" ws=true):vp (R.drop own.length) own=if sY ws own=true then vp (R.drop (own++[ws.getD 1 ""]).length) (own++[ws.getD 1 ""])else none:=by
 have e:R.drop own.length=ws::R.drop (own.length+1):=by obtain⟨hi,e⟩:=bW.mp h;rw[<-e];exact eN hi
 rw[e,bS,cC];show(if qT "phone" ws=true then _ else _)=_;rw[b9 hk]
def Fk{R:V0 (QQQ)}{own nm:QQQ}(h:∀ws,R[nm.length]?=some ws->qT "group" ws=false):uP own (R.drop nm.length) nm=some nm:=by
 cases e:R.drop nm.length with
 | nil=>rfl
 | cons ws r=>
  have:R[nm.length]?=some ws:=by rw[<-kG,e];rfl
  show(if qT "group" ws=true then _ else some nm)=_;rw[h ws this];rfl
def JO{R:V0 (QQQ)}{own nm ws:QQQ}(h:R[nm.length]?=some ws)(hk:qT "group" ws=true):uP own (R.drop nm.length) nm=if sT own ws nm=true then uP own (R.drop (nm++[ws.getD 1 ""]).length) (nm++[ws.getD 1 ""])else none:=by
 have e:R.drop nm.length=ws::R.drop (nm.length+1):=by obtain⟨hi,e⟩:=bW.mp h;rw[<-e];exact eN hi
 rw[e,bS,cC];show(if qT "group" ws=true then _ else _)=_;rw[b9 hk]
def FE:Fq P w K mg base 3 a.aC FY:=by
 refine fq G.aC.toDG oq (λr u=>⟨_,(mF (qh (i:=1) oq.nd rfl (Or.inl rfl) rfl (Af (ix:=[none]) (N':=["_law_row_here"])) (nR (rj v0 (nP mK))) (nw 0) oz (rj v0 (nP mK)))
 (mF (mT 2 oq (qv rV))
 (mF (Ci dI (W3.b3 (II (mW u (mJ mZ rfl G.e mY (nP V2)) (mJ mZ rfl G.e mY (nP V1))) (Fi (mW u (mX (mX V1 (mJ mZ rfl G.e mY (nP V2))) mE) mK))))
 (mF (mT 3 oq (mX V1 (mJ mZ rfl G.e mY (nP V2))))
 (mF (nB (W3.b3 (tL (mW u (mJ mZ rfl G.e mY (nP V3)) mE) (tL (rZ (qU (mP (Cd G) r G.Z (nP (mX V3 mE))))) (tU (mW u (mX V3 mE) V2)))))
 (mG (mM sH))
 mR)
 (mF (nB (W3.b3 (tL (rZ (qU (mP (wM G) r G.t (qF (mX V3 mE) mE mE)))) (tU (rZ (qU (mP (wM G) r G.t (qF (mX V3 mE) mE mE)))))))
 (mG (mM sH))
 mR)
 (mG (mV (oA V2 (nP (mX V3 mE)))))))))
 (mF (mT 4 oq (nK wU rfl G.am wG (nP V2)))
 (mF (Ci dI (W3.b3 (II (mW u (mJ mZ rfl G.e mY (nP v4)) (mJ mZ rfl G.e mY (nP V1))) (Fi (mW u (mX (mX V1 (mJ mZ rfl G.e mY (nP v4))) mE) mK))))
 (mF (mT 3 oq (mX V1 (mJ mZ rfl G.e mY (nP v4))))
 (mF (nB (W3.b3 (tL (mW u (mJ mZ rfl G.e mY (nP V3)) mE) (tL (rZ (qU (mP (Cd G) r G.Z (nP (mX V3 mE))))) (tL (mW u (mX V3 mE) v4) (tU (mW u (mX V3 mE) (qv (qd mK mK))))))))
 (mG (mM sH))
 mR)
 (mF (nB (rZ (qU (mP (vf G) r G.B (qF (nE V3 (nj mE) nA) mE V2))))
 (mG (mM sH))
 mR)
 (mG (mV (oA v4 (nP (mX V3 mE)))))))))
 (mF (nB (W3.b3 (tL (rZ (yV u mE (mJ mZ rfl G.e mY (nP V2)) mE)) (tL (mW u (mL (mJ mZ rfl G.e mY (nP v4)) (mJ mZ rfl G.e mY (nP V2))) mE) (tU (mW u (mL (mJ mZ rfl G.e mY (nP V1)) (mJ mZ rfl G.e mY (nP v4))) mE)))))
 (mG (mM sH))
 mR)
 (mF (qM dI rfl (nR (nE V1 (nj (mJ mZ rfl G.e mY (nP v4))) nA)) (om 3 oq)
 (mF (nB (mW u (mX V3 mE) mK)
 (mG (mT 3 oq (nE V3 (nj mE) nA)))
 mR)
 (mG (nB (W3.b3 (tL (mW u (mJ mZ rfl G.e mY (nP V3)) mE) (tU (rZ (qU (mP (GQ G) r G.aB (qF V3 v4 V2)))))))
 (mG (mM sH))
 mR))))
 (mG (mM sH))))))))),?_⟩)
 rintro ds M Q ⟨Rw,rfl,ok,q⟩
 have hz:=cP;have tl:=Co ok;have Uy:=ok.lP;have es:=vV ok;refine yJ (t:=rm _ _) (λU M'=>nJ M M'/\∃r rs,lO M' r=some (rs.map D.ref)/\qW M' rs Rw/\U=[some (.str (oO Rw)),some (.ref r),none,none,none]) (λnx h=>?_) ?_
 .refine⟨rfl,by lia,by rw[es,bP];lia,λp0 Ue=>i' mI ?_⟩;rw[es,cB];obtain⟨M0,e0,s0,c0⟩:=tR (ds:=Rw.map (D.str∘Str.join " ")) Ue;rw[<-e0];refine va (Rw.map (D.str∘Str.join " ")) (λpre acc U M'=>nJ M0 M'/\(∃rs:QXQ,acc=rs.map D.ref/\qW M' rs (Rw.take pre.length))/\∃y,U=[y]) (λ_ _ _ M' j=>j.1.lst c0) _ [] [] _ _ rfl (by rw[bP];simp only[cA];lia) ⟨.refl,⟨[],rfl,rfl,λi r ds a _=>by simp at a⟩,none,rfl⟩ ?_ ?_
  .rintro pre d post e acc U M' ⟨s1,⟨rs,rfl,hR⟩,y,rfl⟩ k hk
   obtain⟨ws,ed,rfl,et⟩:=BH e;have hd:=dt ed;have sp:=xu ok hd;have wl:=(ok.row ws hd).2.1;have rl:=yF ok hd;refine⟨rfl,by show(Str.join " " ws).length<=sizeLine;lia,by show(Txt.split (Str.join " " ws) " ").length<=sizeLine;rw[sp];lia,λp hp=>?_⟩;have t:=nJ.new (c:=.lst ((Txt.split (Str.join " " ws) " ").map D.str)) hp;refine hk _ _ _ ⟨s1.trans t,⟨rs++[p],by rw[cy];rfl,?_⟩,_,rfl⟩;rw[bS,cC,et];exact hR.snoc t (mI.trans (dJ (λz=>some (List.map D.str z)) sp))
  .rintro acc U M' ⟨s1,⟨rs,rfl,hR⟩,y,rfl⟩ p hp
   rw[bP,dC]at hR;have t:=nJ.new (c:=.lst (rs.map D.ref)) hp;exact h _ _ ⟨s0.trans (s1.trans t),p,rs,mI,hR.sub t,rfl⟩
 rintro U M0 ⟨s0,r,rs,lr,hR,rfl⟩
 have RV:∀b:Bool,nL Rw=b->∀M2,nJ M0 M2->∃RW,nJ RW M2/\Q (.bl b) RW:=λb e M2 s2=>⟨M,s0.trans s2,e ▸ q⟩;have lenR:((rs.map D.ref).length:Int)=Rw.length:=by rw[bP,hR.1]
 have UO:∀(i:Nat) ws,Rw[i]?=some ws->∃ri,tY (rs.map D.ref) (i:Int)=some (.ref ri)/\∀M',nJ M0 M'->lO M' ri=some (ws.map D.str):=λi ws h=>by
  have hi:i<rs.length:=by rw[hR.1];exact(bW.mp h).1
  exact⟨rs[i],qI (by rw[cD,bZ hi];rfl),λM' s=>s.lst (hR.2 i _ _ (bZ hi) h)⟩
 refine yJ (t:=rm _ _) (λU M'=>nJ M0 M'/\∃o,M0 o=none/\lO M' o=some []/\U=[some (.str (oO Rw)),some (.ref r),some (.ref o),none,none]) (λnx h=>⟨lP rfl,λo ho=>h _ _ ⟨.new ho,o,ho,mI,rfl⟩⟩) ?_
 rintro U M1 ⟨s1,o,ho,lo,rfl⟩
 refine yJ (t:=DP _ _) (λU M'=>nJ M0 M'/\∃own x,lO M' o=some (own.map D.str)/\own.length<=Rw.length/\vp Rw []=some own/\U=[some (.str (oO Rw)),some (.ref r),some (.ref o),x,none]) (λnx h=>?_) ?_
 .refine⟨λm U M'=>nJ M0 M'/\∃(own:QQQ) (x:Option D),m=Rw.length - own.length/\lO M' o=some (own.map D.str)/\own.length<=Rw.length/\vp Rw []=vp (Rw.drop own.length) own/\U=[some (.str (oO Rw)),some (.ref r),some (.ref o),x,none],⟨_,s1,[],none,rfl,lo,dY _,rfl,rfl⟩,?_⟩
  rintro m U M' ⟨s2,own,x,rfl,l2,hl,hp,rfl⟩
  have Uz:((own.map D.str).length:Int)=own.length:=by rw[bP]
  have lr2:=s2.lst lr;refine i' l2 (i' lr2 ?_);rw[Uz,lenR];by_cases Sf:own.length<Rw.length
  .refine zN (cu (by lia)) ?_;have eW:Rw[own.length]?=some Rw[own.length]:=bZ Sf;generalize Rw[own.length]=ws at eW;obtain⟨ne,wl,SX⟩:=ok.row ws (dt eW);obtain⟨ri,ei,li⟩:=UO _ _ eW;have lw:=li M' s2;refine i' l2 ?_;rw[Uz];refine i' lr2 (i' ei (i' lw (i' (rK ne) ?_)));show if qT "phone" ws=true then _ else _
   cases hk:qT "phone" ws with
   | false=>refine wg (h _ _ ⟨s2,own,x,l2,hl,?_,rfl⟩);rw[hp];exact E4 λws' e=>by rw[eW]at e;cases e;exact hk
   | true=>
    have st:=Kw eW hk;have Sq:sY ws own=false->nL Rw=false:=λhb=>by unfold nL;rw[hp,st,hb];rfl
    refine yD (i' l2 ?_);rw[Uz];refine i' lr2 (i' ei ?_);by_cases h4:ws.length=4
    .obtain⟨k0,x1,l1,r1,rfl⟩:=Ex h4;have lw1:lO M' ri=some [D.str k0,.str x1,.str l1,.str r1]:=lw;have wx:=SX x1 (by simp);have wx6:=(rb x1 wx).2.2;have e4:sY [k0,x1,l1,r1] own=(nk x1&&(!oU own x1&&(nZ l1 1 3&&nZ r1 0 9))):=rfl;refine i' lw1 (i' lw1 (i' rfl ⟨x1,rfl,by lia,?_⟩));refine oo (c:=!nk x1) (λg=>RV false (Sq (by rw[e4,show nk x1=false by simpa using g];rfl)) _ s2) (λg=>?_);have g:nk x1=true:=by simpa using g
     rw[g,cW]at e4;refine i' lw1 (i' rfl (i' rfl (i' l2 ⟨rfl,pX own,?_⟩)));rw[qC];refine oo (c:=oU own x1) (λg2=>RV false (Sq (by rw[e4,g2];rfl)) _ s2) (λg2=>?_);rw[show oU own x1=false from cE.mpr g2]at e4;refine i' lw1 (i' rfl ⟨l1,1,3,rfl,SX l1 (by simp),?_⟩);refine oo (c:=!nZ l1 1 3) (λg3=>RV false (Sq (by rw[e4,show nZ l1 1 3=false by simpa using g3];rfl)) _ s2) (λg3=>?_);rw[show nZ l1 1 3=true by simpa using g3]at e4;refine i' lw1 (i' rfl ⟨r1,0,9,rfl,SX r1 (by simp),?_⟩);refine oo (c:=!nZ r1 0 9) (λg4=>RV false (Sq (by rw[e4,show nZ r1 0 9=false by simpa using g4];rfl)) _ s2) (λg4=>?_);rw[show nZ r1 0 9=true by simpa using g4]at e4;refine⟨by show(lO M' o).isSome=true;rw[l2];rfl,i' lw1 (i' rfl (i' l2 ⟨by lia,_,?_,wI s2 ho,own++[x1],_,rfl,?_,?_,?_,rfl⟩))⟩
     .rw[bS,cC];lia
     .rw[mI,cy];rfl
     .rw[bS,cC];lia
     .rw[hp,st,b9 (by rw[e4];rfl)];rfl
    .refine i' lw (zN (c:=!(((ws.map D.str).length:Int)==4)) (by rw[bP];simp;lia) (RV false (Sq ?_) _ s2));unfold sY;split
     .exact absurd rfl h4
     .rfl
  .refine xT (cS (by lia)) (h _ _ ⟨s2,own,x,l2,hl,?_,rfl⟩);rw[hp];exact E4 λws' e=>by rw[fT (by lia)]at e;cases e
 rintro U M2 ⟨s2,own,x,l2,hlo,hph,rfl⟩
 have Uz:((own.map D.str).length:Int)=own.length:=by rw[bP]
 have bad1:uP own (Rw.drop own.length) own=none->nL Rw=false:=λh=>by unfold nL;rw[hph];simp only;rw[h]
 refine yJ (t:=rm _ _) (λU M'=>nJ M2 M'/\∃n,M2 n=none/\lO M' n=some (own.map D.str)/\U=[some (.str (oO Rw)),some (.ref r),some (.ref o),x,some (.ref n)]) (λnx h=>i' l2 λn hn=>h _ _ ⟨.new hn,n,hn,mI,rfl⟩) ?_
 rintro U M3 ⟨s3,n,hn,ln,rfl⟩
 refine yJ (t:=DP _ _) (λU M'=>nJ M2 M'/\∃nm y,lO M' n=some (nm.map D.str)/\own.length<=nm.length/\nm.length<=Rw.length/\uP own (Rw.drop own.length) own=some nm/\U=[some (.str (oO Rw)),some (.ref r),some (.ref o),y,some (.ref n)]) (λnx h=>?_) ?_
 .refine⟨λm U M'=>nJ M2 M'/\∃(nm:QQQ) (y:Option D),m=Rw.length - nm.length/\lO M' n=some (nm.map D.str)/\own.length<=nm.length/\nm.length<=Rw.length/\uP own (Rw.drop own.length) own=uP own (Rw.drop nm.length) nm/\U=[some (.str (oO Rw)),some (.ref r),some (.ref o),y,some (.ref n)],⟨_,s3,own,x,rfl,ln,cq _,hlo,rfl,rfl⟩,?_⟩
  rintro m U M' ⟨s4,nm,y,rfl,l4,hge,hl,hg,rfl⟩
  have T6:((nm.map D.str).length:Int)=nm.length:=by rw[bP]
  have T7:=s2.trans s4;have lr4:=T7.lst lr;refine i' l4 (i' lr4 ?_);rw[T6,lenR];by_cases Sf:nm.length<Rw.length
  .refine zN (cu (by lia)) ?_;have eW:Rw[nm.length]?=some Rw[nm.length]:=bZ Sf;generalize Rw[nm.length]=ws at eW;obtain⟨ne,wl,SX⟩:=ok.row ws (dt eW);obtain⟨ri,ei,li⟩:=UO _ _ eW;have lw:=li M' T7;refine i' l4 ?_;rw[T6];refine i' lr4 (i' ei (i' lw (i' (rK ne) ?_)));show if qT "group" ws=true then _ else _
   cases hk:qT "group" ws with
   | false=>refine wg (h _ _ ⟨s4,nm,y,l4,hge,hl,?_,rfl⟩);rw[hg];exact Fk λws' e=>by rw[eW]at e;cases e;exact hk
   | true=>
    have st:=JO (own:=own) eW hk;have Sq:sT own ws nm=false->nL Rw=false:=λhb=>bad1 (by rw[hg,st,hb];rfl);refine yD (i' l4 ?_);rw[T6];refine i' lr4 (i' ei ?_);have lenW:((ws.map D.str).length:Int)=ws.length:=by rw[bP]
    by_cases h4:4<=ws.length
    .obtain⟨k0,x1,m1,ms,rfl⟩:∃k0 x1 m1 ms,ws=k0::x1::m1::ms:=by
      match ws,h4 with
      | k0::x1::m1::ms,_=>exact⟨k0,x1,m1,ms,rfl⟩
     have a1:tY ((k0::x1::m1::ms).map D.str) ((1:Nat):Int)=some (.str x1):=EF rfl;have a2:tY ((k0::x1::m1::ms).map D.str) ((2:Nat):Int)=some (.str m1):=EF rfl;have wx6:=(rb x1 (SX x1 (by simp))).2.2;have lms:ms.length+3<=901:=wl;have e4:sT own (k0::x1::m1::ms) nm=(decide (4<=ms.length+3)&&(nk x1&&(!oU nm x1&&(decide (m1="all"\/m1="turns")&&mO ms own 4)))):=rfl;rw[cu (show 4<=ms.length+3 from h4),cW]at e4;refine i' lw (xT (c:=decide ((((k0::x1::m1::ms).map D.str).length:Int)<4)) (cS (by rw[lenW];lia)) ?_);refine i' lw (i' a1 ⟨x1,rfl,by lia,?_⟩);refine oo (c:=!nk x1) (λg=>RV false (Sq (by rw[e4,show nk x1=false by simpa using g];rfl)) _ T7) (λg=>?_);rw[show nk x1=true by simpa using g,cW]at e4;refine i' lw (i' a1 (i' rfl (i' l4 ⟨rfl,pX nm,?_⟩)));rw[qC];refine oo (c:=oU nm x1) (λg2=>RV false (Sq (by rw[e4,g2];rfl)) _ T7) (λg2=>?_);rw[show oU nm x1=false from cE.mpr g2]at e4;refine i' lw (i' a2 ⟨lP rfl,λp5 Vf=>i' mI ⟨rfl,rfl,?_⟩⟩);have s5:=s4.trans (nJ.new (c:=.lst [D.str "all",.str "turns"]) Vf);have l5:=(nJ.new (c:=.lst [D.str "all",.str "turns"]) Vf).lst l4;generalize mS M' p5 (.lst [D.str "all",.str "turns"])=M5 at s5 l5 ⊢;show if (!inD (.str m1) [.str "all",.str "turns"])=true then _ else _
     rw[yY];by_cases gm:m1="all"\/m1="turns"
     .rw[cu gm]at e4;refine xT (by rw[cu gm];rfl) (i' (li M5 (s2.trans s5)) λp6 hp6=>?_);have ec:L3.qx ((k0::x1::m1::ms).map D.str) (some 3) none=ms.map D.str:=uG _ 3 (by rw[bP];lia);rw[ec];have s6:=s5.trans (nJ.new (c:=.lst (ms.map D.str)) hp6);have l6:=(nJ.new (c:=.lst (ms.map D.str)) hp6).lst l5;have x6:=@mI M5 p6 (ms.map D.str);generalize mS M5 p6 (.lst (ms.map D.str))=M6 at s6 l6 x6 ⊢;refine⟨p6,o,4,ms,own,rfl,x6,s6.lst l2,by lia,?_⟩;refine oo (c:=!mO ms own 4) (λg3=>RV false (Sq (by rw[e4,show mO ms own 4=false by simpa using g3];rfl)) _ (s2.trans s6)) (λg3=>?_);rw[show mO ms own 4=true by simpa using g3]at e4;refine⟨by show(lO M6 n).isSome=true;rw[l6];rfl,i' (li M6 (s2.trans s6)) (i' a1 (i' l6 ⟨by lia,_,?_,wI s6 hn,nm++[x1],_,rfl,?_,?_,?_,?_,rfl⟩))⟩
      .rw[bS,cC];lia
      .rw[mI,cy];rfl
      .rw[bS];lia
      .rw[bS,cC];lia
      .rw[hg,st,b9 (by rw[e4];rfl)];rfl
     .refine zN (by rw[cS gm];rfl) (RV false (Sq ?_) _ (s2.trans s5));rw[e4,cS gm];rfl
    .refine i' lw (zN (c:=decide (((ws.map D.str).length:Int)<4)) (cu (by rw[lenW];lia)) (RV false (Sq ?_) _ T7));unfold sT;split
     .rename_i k0 x1 m1 ms;rw[b8,b8,b8]at h4;rw[cS (show ¬4<=ms.length+3 by lia)];rfl
     .rfl
  .refine xT (cS (by lia)) (h _ _ ⟨s4,nm,y,l4,hge,hl,?_,rfl⟩);rw[hg];exact Fk λws' e=>by rw[fT (by lia)]at e;cases e
 rintro U M4 ⟨s4,nm,y,l4,hge,hnl,hgr,rfl⟩
 have T6:((nm.map D.str).length:Int)=nm.length:=by rw[bP]
 have T7:=s2.trans s4;have lr4:=T7.lst lr;have lo4:=s4.lst l2;have eP:nL Rw=(zq own nm Rw&&(Rw.drop nm.length).all (zd nm own)):=by unfold nL;rw[hph];simp only;rw[hgr]
 have eS:zq own nm Rw=((decide (1<=own.length)&&decide (own.length<=8))&&(decide (nm.length<=own.length+3)&&decide (Rw.length<=nm.length+16))):=rfl;have no:zq own nm Rw=false->∀M5,nJ M0 M5->∃RW,nJ RW M5/\Q (.bl false) RW:=λh=>RV false (by rw[eP,h];rfl);refine i' lo4 (oo (c:=decide ((1:Int)<=((own.map D.str).length:Int))) (λg1=>?_) (λg1=>?_))
 rotate_left
 .refine no ?_ _ T7;rw[eS,cS (show ¬1<=own.length by have:=eM (cE.mpr g1);lia)];rfl
 have g1:1<=own.length:=by have:=bU g1;lia
 refine oo (c:=!decide (((own.map D.str).length:Int)<=8)) (λg2=>no ?_ _ T7) (λg2=>?_)
 .have:decide (((own.map D.str).length:Int)<=8)=false:=by simpa using g2
  rw[eS,cS (show ¬own.length<=8 by have:=eM this;lia)];simp
 have g2:own.length<=8:=by
  cases e:decide (((own.map D.str).length:Int)<=8)with
  | true=>have:=bU e;lia
  | false=>exact absurd (by rw[e];rfl) g2
 refine i' l4 (i' lo4 (oo (c:=decide ((3:Int)<((nm.map D.str).length:Int) - ((own.map D.str).length:Int))) (λg3=>no ?_ _ T7) (λg3=>?_)))
 .rw[eS,cS (show ¬nm.length<=own.length+3 by have:=bU g3;lia)];simp
 have g3:nm.length<=own.length+3:=by have:=eM (cE.mpr g3);lia
 refine i' lr4 (i' l4 (oo (c:=decide ((16:Int)<((rs.map D.ref).length:Int) - ((nm.map D.str).length:Int))) (λg4=>no ?_ _ T7) (λg4=>?_)))
 .rw[eS,cS (show ¬Rw.length<=nm.length+16 by have:=bU g4;lia)];simp
 have g4:Rw.length<=nm.length+16:=by have:=eM (cE.mpr g4);lia
 have hS:zq own nm Rw=true:=by rw[eS,cu g1,cu g2,cu g3,cu g4];rfl
 rw[hS,cW]at eP;refine i' l4 ?_;rw[T6];refine i' lr4 λp5 Vf=>?_;have ec:L3.qx (rs.map D.ref) (some (nm.length:Int)) none=(rs.drop nm.length).map D.ref:=by rw[uG _ _ (by rw[bP,hR.1];exact hnl),gj]
 rw[ec];have s5:=s4.trans (nJ.new (c:=.lst ((rs.drop nm.length).map D.ref)) Vf);have l5:=(nJ.new (c:=.lst ((rs.drop nm.length).map D.ref)) Vf).lst l4;have x5:=@mI M4 p5 ((rs.drop nm.length).map D.ref);generalize mS M4 p5 (.lst ((rs.drop nm.length).map D.ref))=M5 at s5 l5 x5 ⊢;refine i' x5 (si ((rs.drop nm.length).map D.ref) (λpre U M'=>nJ M5 M'/\((Rw.drop nm.length).take pre.length).all (zd nm own)=true/\∃z,U=[some (.str (oO Rw)),some (.ref r),some (.ref o),z,some (.ref n)]) (λp U M' j=>j.1.lst x5) _ [] _ _ rfl ⟨.refl,rfl,y,rfl⟩ ?_ ?_)
 .rintro pre d post e U M' ⟨s6,Sl,z,rfl⟩ nx Sm
  obtain⟨ri,er,rfl,_⟩:=BH e;rw[j4]at er;have hi:nm.length+pre.length<Rw.length:=by rw[<-hR.1];exact(bW.mp er).1
  have eW:Rw[nm.length+pre.length]?=some Rw[nm.length+pre.length]:=bZ hi;generalize Rw[nm.length+pre.length]=ws at eW;have s06:=s2.trans (s5.trans s6);have lw:=s06.lst (hR.2 _ _ _ er eW);obtain⟨ne,wl,SX⟩:=ok.row ws (dt eW);have eD:(Rw.drop nm.length)[pre.length]?=some ws:=by rw[j4];exact eW
  have et:(Rw.drop nm.length).take (pre.length+1)=(Rw.drop nm.length).take pre.length++[ws]:=by rw[fz,eD];rfl
  have Sq:zd nm own ws=false->nL Rw=false:=λhb=>by rw[eP];exact u7 (dt eD) hb
  dsimp only[pk];refine yJ (t:=Nf _ _ _) (λU RW=>nJ M' RW/\∃q1,lO RW q1=some ((tG ws).map D.str)/\U=[some (.str (oO Rw)),some (.ref r),some (.ref o),some (.ref q1),some (.ref n)]) (λnx2 h2=>?_) ?_
  .refine i' lw (i' (rK ne) ?_);show if qT "off" ws=true then _ else _
   have eo:tG ws=if qT "off" ws=true then ws.tail else ws:=rfl
   cases hk:qT "off" ws with
   | true=>rw[hk,b9 rfl]at eo;refine yD (i' lw λp7 hp7=>?_);rw[ux ws ne,<-eo];exact h2 _ _ ⟨.new hp7,p7,mI,rfl⟩
   | false=>rw[hk,bV cg]at eo;exact wg (h2 _ _ ⟨.refl,ri,by rw[eo];exact lw,rfl⟩)
  rintro U M7 ⟨s7,q1,lq,rfl⟩
  have s07:=s06.trans s7;have ow:(tG ws).length<=901/\∀x∈tG ws,Wd x:=by
   unfold tG;split
   .exact⟨by rw[fH];lia,λx hx=>SX x (gh hx)⟩
   .exact⟨wl,SX⟩
  have eL:zd nm own ws=(decide (2<=(tG ws).length)&&tD (tG ws) nm own):=rfl;refine i' lq (oo (c:=decide ((((tG ws).map D.str).length:Int)<2)) (λg=>RV false (Sq ?_) _ s07) (λg=>?_))
  .have:=bU g;rw[bP]at this;rw[eL,cS (show ¬2<=(tG ws).length by lia)];rfl
  .have g:2<=(tG ws).length:=by have:=eM (cE.mpr g);rw[bP]at this;lia
   rw[cu g,cW]at eL;refine⟨q1,n,o,tG ws,nm,own,rfl,lq,s7.lst (s6.lst l5),(s5.trans (s6.trans s7)).lst l2,g,ow.1,ow.2,?_⟩;refine oo (c:=!tD (tG ws) nm own) (λg2=>RV false (Sq (by rw[eL];simpa using g2)) _ s07) (λg2=>?_);refine Sm _ _ ⟨s6.trans s7,?_,_,rfl⟩;rw[bS,cC,et,List.all_append,Sl];show(true&&(zd nm own ws&&true))=true;rw[eL,show tD (tG ws) nm own=true by simpa using g2];rfl
 .rintro U M' ⟨s6,Sl,z,rfl⟩
  refine RV true ?_ _ (s2.trans (s5.trans s6));rw[eP];rw[bP,cU,hR.1]at Sl;have:((Rw.drop nm.length).take (Rw.length - nm.length))=Rw.drop nm.length:=dh (by rw[cU];exact cq _);rw[this]at Sl;exact Sl
noncomputable def pU(p:pF):QQQ:=["phone",p.1,qi p.2.1,qi p.2.2]
noncomputable def pK(g:pN):QQQ:="group"::g.1::g.2.1::g.2.2
noncomputable def pI(v:Wi):QQQ:=v.told.flatMap nu
noncomputable def qc(w:qu):QQQ:=if w.1=true then pI w.2 else "off"::pI w.2
noncomputable def pq(l:ng):V0 (QQQ):=l.kW.map pU++(l.groups.map pK++l.kY.map qc)
def an{x y:Bool}(h1:x=true)(h2:y=true):(x&&y)=true:=(bR _ _).mpr ⟨h1,h2⟩
def rA{n:Int}(h0:0<=n)(h1:n<=23):pR (qi n)=true/\oa (qi n)=n:=by
 obtain⟨m,rfl⟩:=cK h0;have key:∀m:_root_.Fin 24,pR (qi ((m.val:Nat):Int))=true/\oa (qi ((m.val:Nat):Int))=((m.val:Nat):Int):=by decide+kernel
 exact key ⟨m,by lia⟩
def r6{n lo hi:Int}(h0:0<=n)(h1:n<=23)(h2:lo<=n)(h3:n<=hi):nZ (qi n) lo hi=true:=by obtain⟨a,b⟩:=rA h0 h1;unfold nZ;rw[a,b,cu h2,cu h3];simp
def rT{w:Str}{lo hi:Int}(h:nZ w lo hi=true):lo<=oa w/\oa w<=hi/\qi (oa w)=w:=by obtain⟨_,h⟩:=(bR _ _).mp h;obtain⟨h,h3⟩:=(bR _ _).mp h;obtain⟨h1,h2⟩:=(bR _ _).mp h;exact⟨bU h1,bU h2,dr.mp h3⟩
def Fj{ss:QQQ}{x:Str}(h:oU ss x=false):x∉ss:=λhx=>by have:oU ss x=true:=e7.mpr ⟨x,hx,by simp⟩;rw[h]at this;cases this
def E9{ss:QQQ}{x:Str}(h:x∉ss):oU ss x=false:=cE.mpr λz=>h (nM z)
def Df(l:ng):qL l=oO (pq l):=by
 unfold qL oO;congr 1;rw[vH];unfold sJ pq;rw[df,cy,cy,cy,cy];simp only[cB];congr 1;congr 1
 .refine d3 λg _=>?_;show rJ _=Str.join " " _;unfold rJ DB pK;congr 1;show([("group":Str),g.1,g.2.1]:QQQ)++(nu (names g.2.2)++[])=_;rw[oS,cJ];rfl
 .refine d3 λw _=>?_;obtain⟨on,v⟩:=w;cases on<;>rfl
def G6{l:ng}(ok:oM l){R:V0 (QQQ)}(hR:rF R)(h:qL l=oO R):pq l=R:=by
 have key:pq l=(sJ l).map λds=>ds.flatMap nu:=by
  unfold sJ pq;rw[df,cy,cy];simp only[cB];congr 1;congr 1
  .refine d3 λg _=>?_;show _=([("group":Str),g.1,g.2.1]:QQQ)++(nu (names g.2.2)++[]);rw[oS,cJ];rfl
  .refine d3 λw _=>?_;obtain⟨on,v⟩:=w;cases on<;>rfl
 have e:=Do ok;rw[h,vV hR]at e;have e2:=dJ (List.map λx=>Txt.split x " ") e;rw[cB,cB]at e2;have e3:R.map ((λx=>Txt.split x " ")∘Str.join " ")=R:=by have:R.map ((λx=>Txt.split x " ")∘Str.join " ")=R.map id:=d3 λws SA=>xu hR SA;rw[this,kT]
 have e4:(sJ l).map ((λx=>Txt.split x " ")∘rJ)=(sJ l).map λds=>ds.flatMap nu:=d3 λds SF=>FJ ok SF;rw[e3,e4]at e2;rw[key,<-e2]
def qg(nm:QQQ)(x y:Str):mO [x,y] nm 2=(oU nm x&&(oU nm y&&!(x==y))):=by
 have e:pf [x,y]=!(x==y):=by
  by_cases h:x=y
  .subst h;have:pf [x,x]=false:=cE.mpr λz=>by have:=wY z;simp at this
   rw[this];simp
  .rw[vo (by simpa using h)];simp[h]
 have e2:mO [x,y] nm 2=(pf [x,y]&&([x,y].all λc=>nm.any (·==c))):=rfl;rw[e2,e];show(_&&(oU nm x&&(oU nm y&&true)))=_;cases oU nm x<;>cases oU nm y<;>cases(x==y)<;>rfl
def xR{pn nm:QQQ}{v:Wi}(h:oh pn nm v=true):tD (pI v) nm pn=true/\2<=(pI v).length/\qT "off" (pI v)=false/\qT "phone" (pI v)=false/\qT "group" (pI v)=false:=by
 cases v with
 | bar x ns=>
  have e:pI (.bar x ns)=("bar":Str)::x::ns:=by show([("bar":Str),x]:QQQ)++(nu (names ns)++[])=_;rw[oS,cJ];rfl
  rw[e];obtain⟨h1,h2⟩:=(bR _ _).mp h;have l1:1<=ns.length:=by have:=bU ((bR _ _).mp h2).1;lia
  refine⟨?_,by rw[b8,b8];lia,rfl,rfl,rfl⟩;show(decide ((1:Int)<(x::ns).length)&&(oU pn x&&mO ns nm 6))=true;rw[cu (show(1:Int)<(x::ns).length by rw[b8];lia),h1,h2];rfl
 | shut x ns=>
  have e:pI (.shut x ns)=("shut":Str)::x::ns:=by show([("shut":Str),x]:QQQ)++(nu (names ns)++[])=_;rw[oS,cJ];rfl
  rw[e];obtain⟨h1,h2⟩:=(bR _ _).mp h;have l1:1<=ns.length:=by have:=bU ((bR _ _).mp h2).1;lia
  refine⟨?_,by rw[b8,b8];lia,rfl,rfl,rfl⟩;show(decide ((1:Int)<(x::ns).length)&&(oU nm x&&mO ns pn 6))=true;rw[cu (show(1:Int)<(x::ns).length by rw[b8];lia),h1,h2];rfl
 | always x y=>refine⟨?_,by show 2<=3;decide,rfl,rfl,rfl⟩;show(mO [x,y] nm 2&&_)=true;rw[qg];exact an h rfl
 | busy x y=>refine⟨?_,by show 2<=3;decide,rfl,rfl,rfl⟩;show(mO [x,y] nm 2&&_)=true;rw[qg];exact an h rfl
 | night x y f l=>
  obtain⟨h1,h⟩:=(bR _ _).mp h;obtain⟨h2,h⟩:=(bR _ _).mp h;obtain⟨h3,h⟩:=(bR _ _).mp h;obtain⟨h4,h⟩:=(bR _ _).mp h;obtain⟨h5,h6⟩:=(bR _ _).mp h;obtain⟨a1,a2⟩:=(bR _ _).mp h3;obtain⟨b1,b2⟩:=(bR _ _).mp h4;have a1:=bU a1;have a2:=bU a2;have b1:=bU b1;have b2:=bU b2;refine⟨?_,by show 2<=5;decide,rfl,rfl,rfl⟩;show(mO [x,y] nm 2&&(!(qi f==qi l)&&(nZ (qi f) 0 23&&nZ (qi l) 0 23)))=true;rw[qg,r6 a1 a2 a1 a2,r6 b1 b2 b1 b2,h1,h2,h5];have:(qi f==qi l)=false:=cE.mpr λz=>by have z:=dJ oa (dr.mp z);rw[(rA a1 a2).2,(rA b1 b2).2]at z;rw[z]at h6;simp at h6
  rw[this];rfl
 | silent x y n=>obtain⟨h1,h⟩:=(bR _ _).mp h;obtain⟨h2,h⟩:=(bR _ _).mp h;obtain⟨h3,h4⟩:=(bR _ _).mp h;obtain⟨a1,a2⟩:=(bR _ _).mp h3;have a1:=bU a1;have a2:=bU a2;refine⟨?_,by show 2<=4;decide,rfl,rfl,rfl⟩;show(mO [x,y] nm 2&&nZ (qi n) 1 9)=true;rw[qg,r6 (by lia) (by lia) a1 a2,h1,h2,h4];rfl
 | wait x=>refine⟨?_,by show 2<=2;decide,rfl,rfl,rfl⟩;show(true&&oU pn x)=true;exact an rfl h
 | breaks x=>refine⟨?_,by show 2<=2;decide,rfl,rfl,rfl⟩;show(true&&oU pn x)=true;exact an rfl h
def CU{pn nm ws:QQQ}(h:tD ws nm pn=true):∃v,oh pn nm v=true/\pI v=ws:=by
 cases ws with
 | nil=>cases h
 | cons w r=>
  have eq:tD (w::r) nm pn=(if w="bar" then decide ((1:Int)<r.length)&&(oU pn (r.headD "")&&mO r.tail nm 6)
   else if w="shut" then decide ((1:Int)<r.length)&&(oU nm (r.headD "")&&mO r.tail pn 6)
   else if w="wait"\/w="breaks" then((r.length:Int)==1)&&oU pn (r.headD "")
   else if w="always"\/w="busy" then mO (r.take 2) nm 2&&((r.length:Int)==2)
   else if w="night" then mO (r.take 2) nm 2&&xm r
   else if w="silent" then mO (r.take 2) nm 2&&vc r
   else false):=rfl
  rw[eq]at h;by_cases b1:w="bar"
  .subst b1;rw[b9 rfl]at h;obtain⟨h1,h⟩:=(bR _ _).mp h;obtain⟨h2,h3⟩:=(bR _ _).mp h;cases r with
   | nil=>cases h1
   | cons x ns=>refine⟨.bar x ns,an h2 h3,?_⟩;show([("bar":Str),x]:QQQ)++(nu (names ns)++[])=_;rw[oS,cJ];rfl
  rw[bV b1]at h;by_cases b2:w="shut"
  .subst b2;rw[b9 rfl]at h;obtain⟨h1,h⟩:=(bR _ _).mp h;obtain⟨h2,h3⟩:=(bR _ _).mp h;cases r with
   | nil=>cases h1
   | cons x ns=>refine⟨.shut x ns,an h2 h3,?_⟩;show([("shut":Str),x]:QQQ)++(nu (names ns)++[])=_;rw[oS,cJ];rfl
  rw[bV b2]at h;by_cases b3:w="wait"\/w="breaks"
  .rw[b9 b3]at h;obtain⟨h1,h2⟩:=(bR _ _).mp h;have h1:r.length=1:=by have:=dr.mp h1;lia
   match r,h1 with
   | [x],_=>
    rcases b3 with rfl|rfl
    .exact⟨.wait x,h2,rfl⟩
    .exact⟨.breaks x,h2,rfl⟩
  rw[bV b3]at h;by_cases b4:w="always"\/w="busy"
  .rw[b9 b4]at h;obtain⟨h1,h2⟩:=(bR _ _).mp h;have h2:r.length=2:=by have:=dr.mp h2;lia
   match r,h2 with
   | [x,y],_=>
    have h1:mO [x,y] nm 2=true:=h1;rw[qg]at h1;rcases b4 with rfl|rfl
    .exact⟨.always x y,h1,rfl⟩
    .exact⟨.busy x y,h1,rfl⟩
  rw[bV b4]at h;by_cases b5:w="night"
  .subst b5;rw[b9 rfl]at h;obtain⟨h1,h2⟩:=(bR _ _).mp h;unfold xm at h2;split at h2
   .rename_i x y f l;have h1:mO [x,y] nm 2=true:=h1;rw[qg]at h1;obtain⟨n1,h2⟩:=(bR _ _).mp h2;obtain⟨f1,f2⟩:=(bR _ _).mp h2;obtain⟨a1,a2,a3⟩:=rT f1;obtain⟨c1,c2,c3⟩:=rT f2;obtain⟨p1,h1⟩:=(bR _ _).mp h1;obtain⟨p2,p3⟩:=(bR _ _).mp h1;refine⟨.night x y (oa f) (oa l),an p1 (an p2 (an (an (cu a1) (cu a2)) (an (an (cu c1) (cu c2)) (an p3 ?_)))),?_⟩
    .have:oa f≠oa l:=λz=>by rw[<-a3,<-c3,z]at n1;simp at n1
     simpa using this
    .show[("night":Str),x,y,qi (oa f),qi (oa l)]=_;rw[a3,c3]
   .cases h2
  rw[bV b5]at h;by_cases b6:w="silent"
  .subst b6;rw[b9 rfl]at h;obtain⟨h1,h2⟩:=(bR _ _).mp h;unfold vc at h2;split at h2
   .rename_i x y n;have h1:mO [x,y] nm 2=true:=h1;rw[qg]at h1;obtain⟨a1,a2,a3⟩:=rT h2;obtain⟨p1,h1⟩:=(bR _ _).mp h1;obtain⟨p2,p3⟩:=(bR _ _).mp h1;refine⟨.silent x y (oa n),an p1 (an p2 (an (an (cu a1) (cu a2)) p3)),?_⟩;show[("silent":Str),x,y,qi (oa n)]=_;rw[a3]
   .cases h2
  rw[bV b6]at h;cases h
theorem Iv:∀{rows:V0 (QQQ)} {own0 own:QQQ},vp rows own0=some own->own0.Nodup->∃ps:List pF,own=own0++ps.map (·.1)/\own.Nodup/\rows=ps.map pU++rows.drop ps.length/\∀p∈ps,uR p=true
 | [],own0,own,h,nd=>by cases h;exact⟨[],by simp,nd,rfl,λp hp=>nomatch hp⟩
 | ws::r,own0,own,h,nd=>by
  have h:(if qT "phone" ws=true then(if sY ws own0=true then vp r (own0++[ws.getD 1 ""])else none)else some own0)=some own:=h;by_cases hk:qT "phone" ws=true
  .rw[b9 hk]at h;by_cases hb:sY ws own0=true
   .rw[b9 hb]at h;unfold sY at hb;split at hb
    .rename_i k0 x l r1 _;have hk:k0="phone":=dr.mp hk;subst hk;obtain⟨h1,hb⟩:=(bR _ _).mp hb;obtain⟨h2,hb⟩:=(bR _ _).mp hb;obtain⟨h3,h4⟩:=(bR _ _).mp hb;obtain⟨a1,a2,a3⟩:=rT h3;obtain⟨c1,c2,c3⟩:=rT h4;have h:vp r (own0++[x])=some own:=h;have nx:x∉own0:=Fj (by simpa using h2);obtain⟨ps,e1,e2,e3,e4⟩:=Iv h (dZ.mpr ⟨nd,by simp,λy hy z hz=>by rw[c8.mp hz];exact λq=>nx (q ▸ hy)⟩);refine⟨(x,oa l,oa r1)::ps,by rw[e1,df];rfl,e2,?_,λp hp=>?_⟩
     .show _=pU (x,oa l,oa r1)::(ps.map pU++r.drop ps.length);rw[<-e3];show _=[("phone":Str),x,qi (oa l),qi (oa r1)]::r;rw[a3,c3]
     .rcases bT.mp hp with z|z
      .rw[z];exact an h1 (an (an (cu a1) (cu a2)) (an (cu c1) (cu c2)))
      .exact e4 p z
    .cases hb
   .rw[bV hb]at h;cases h
  .rw[bV hk]at h;cases h;exact⟨[],by simp,nd,rfl,λp hp=>nomatch hp⟩
theorem Hd{own:QQQ}:∀{rows:V0 (QQQ)} {Sw nm:QQQ},uP own rows Sw=some nm->Sw.Nodup->∃gs:List pN,nm=Sw++gs.map (·.1)/\nm.Nodup/\rows=gs.map pK++rows.drop gs.length/\∀g∈gs,uW own g=true
 | [],Sw,nm,h,nd=>by cases h;exact⟨[],by simp,nd,rfl,λp hp=>nomatch hp⟩
 | ws::r,Sw,nm,h,nd=>by
  have h:(if qT "group" ws=true then(if sT own ws Sw=true then uP own r (Sw++[ws.getD 1 ""])else none)else some Sw)=some nm:=h;by_cases hk:qT "group" ws=true
  .rw[b9 hk]at h;by_cases hb:sT own ws Sw=true
   .rw[b9 hb]at h;unfold sT at hb;split at hb
    .rename_i k0 x m1 ms _;have hk:k0="group":=dr.mp hk;subst hk;obtain⟨_,hb⟩:=(bR _ _).mp hb;obtain⟨h1,hb⟩:=(bR _ _).mp hb;obtain⟨h2,hb⟩:=(bR _ _).mp hb;obtain⟨h3,h4⟩:=(bR _ _).mp hb;have h:uP own r (Sw++[x])=some nm:=h;have nx:x∉Sw:=Fj (by simpa using h2);obtain⟨gs,e1,e2,e3,e4⟩:=Hd h (dZ.mpr ⟨nd,by simp,λy hy z hz=>by rw[c8.mp hz];exact λq=>nx (q ▸ hy)⟩);refine⟨(x,m1,ms)::gs,by rw[e1,df];rfl,e2,?_,λg hg=>?_⟩
     .show _=pK (x,m1,ms)::(gs.map pK++r.drop gs.length);rw[<-e3];rfl
     .rcases bT.mp hg with z|z
      .rw[z];exact an h1 (an (by show inD (.str m1) [.str "all",.str "turns"]=true;rw[yY];exact h3) h4)
      .exact e4 g z
    .cases hb
   .rw[bV hb]at h;cases h
  .rw[bV hk]at h;cases h;exact⟨[],by simp,nd,rfl,λp hp=>nomatch hp⟩
theorem LB{RU:V0 (QQQ)}(hr:∀ws∈RU.head?,qT "phone" ws=false):∀{ps:List pF} {own0:QQQ},(∀p∈ps,uR p=true)->(own0++ps.map (·.1)).Nodup->vp (ps.map pU++RU) own0=some (own0++ps.map (·.1))
 | [],own0,_,_=>by
  cases RU with
  | nil=>simp[vp]
  | cons ws r=>show(if qT "phone" ws=true then _ else some own0)=_;rw[hr ws rfl,gW,cJ];rfl
 | p::ps,own0,hp,nd=>by
  obtain⟨h1,h⟩:=(bR _ _).mp (hp p ck);obtain⟨h2,h3⟩:=(bR _ _).mp h;obtain⟨a1,a2⟩:=(bR _ _).mp h2;obtain⟨c1,c2⟩:=(bR _ _).mp h3;have a1:=bU a1;have a2:=bU a2;have c1:=bU c1;have c2:=bU c2;have nx:p.1∉own0:=λz=>(dZ.mp nd).2.2 p.1 z p.1 (by simp) rfl;have eb:sY (pU p) own0=true:=by show(nk p.1&&(!oU own0 p.1&&(nZ (qi p.2.1) 1 3&&nZ (qi p.2.2) 0 9)))=true;rw[h1,E9 nx,r6 (by lia) (by lia) a1 a2,r6 c1 (by lia) c1 c2];rfl
  show(if qT "phone" (pU p)=true then(if sY (pU p) own0=true then vp (ps.map pU++RU) (own0++[p.1])else none)else some own0)=_;rw[b9 (by rfl),b9 eb];have e:own0++(p::ps).map (·.1)=(own0++[p.1])++ps.map (·.1):=by rw[df];rfl
  rw[e]at nd ⊢;exact LB hr (λq hq=>hp q (ci _ hq)) nd
theorem Lw{own:QQQ}{RU:V0 (QQQ)}(hr:∀ws∈RU.head?,qT "group" ws=false):∀{gs:List pN} {Sw:QQQ},(∀g∈gs,uW own g=true)->(Sw++gs.map (·.1)).Nodup->uP own (gs.map pK++RU) Sw=some (Sw++gs.map (·.1))
 | [],Sw,_,_=>by
  cases RU with
  | nil=>simp[uP]
  | cons ws r=>show(if qT "group" ws=true then _ else some Sw)=_;rw[hr ws rfl,gW,cJ];rfl
 | g::gs,Sw,hp,nd=>by
  obtain⟨h1,h⟩:=(bR _ _).mp (hp g ck);obtain⟨h2,h3⟩:=(bR _ _).mp h;have l1:1<=g.2.2.length:=by have:=bU ((bR _ _).mp h3).1;lia
  have nx:g.1∉Sw:=λz=>(dZ.mp nd).2.2 g.1 z g.1 (by simp) rfl;rw[yY]at h2;have eb:sT own (pK g) Sw=true:=by show(decide (4<=g.2.2.length+3)&&(nk g.1&&(!oU Sw g.1&&(decide (g.2.1="all"\/g.2.1="turns")&&mO g.2.2 own 4))))=true;rw[cu (show 4<=g.2.2.length+3 by lia),h1,E9 nx,h2,h3];rfl
  show(if qT "group" (pK g)=true then(if sT own (pK g) Sw=true then uP own (gs.map pK++RU) (Sw++[g.1])else none)else some Sw)=_;rw[b9 (by rfl),b9 eb];have e:Sw++(g::gs).map (·.1)=(Sw++[g.1])++gs.map (·.1):=by rw[df];rfl
  rw[e]at nd ⊢;exact Lw hr (λq hq=>hp q (ci _ hq)) nd
def Ct{x:Str}(h:nk x=true):x.length<=6:=by obtain⟨_,h⟩:=(bR _ _).mp h;have:=bU ((bR _ _).mp h).1;lia
def vF{cs ks:QQQ}{m:Int}(h:mO cs ks m=true):(cs.length:Int)<=m:=(oH h).1
def vQ{l:ng}(h:sg l=true):(1<=l.kW.length/\l.kW.length<=8/\∀p∈l.kW,uR p=true)/\(l.groups.length<=3/\∀g∈l.groups,uW l.pn g=true)/\l.nm.Nodup/\l.kY.length<=16/\∀w∈l.kY,oh l.pn l.nm w.2=true:=by obtain⟨h1,h⟩:=(bR _ _).mp h;obtain⟨h2,h⟩:=(bR _ _).mp h;obtain⟨h3,h4⟩:=(bR _ _).mp h;obtain⟨a,a3⟩:=(bR _ _).mp h1;obtain⟨a1,a2⟩:=(bR _ _).mp a;obtain⟨b1,b2⟩:=(bR _ _).mp h2;obtain⟨c1,c2⟩:=(bR _ _).mp h4;have a1:=bU a1;have a2:=bU a2;have b1:=bU b1;have c1:=bU c1;exact⟨⟨by lia,by lia,cL.mp a3⟩,⟨by lia,cL.mp b2⟩,wY h3,by lia,cL.mp c2⟩
def FW{l:ng}(h:sg l=true):vg l:=by
 obtain⟨⟨_,p8,po⟩,⟨g3,go⟩,_,mw,wo⟩:=vQ h;refine⟨by lia,by lia,by lia,λp hp=>?_,λg hg=>?_,λw hw=>?_⟩
 .have:=Ct ((bR _ _).mp (po p hp)).1;lia
 .obtain⟨h1,h2⟩:=(bR _ _).mp (go g hg);have:=Ct h1;have:=vF ((bR _ _).mp h2).2;exact⟨by lia,by lia⟩
 .have hw:=wo w hw;generalize w.2=v at hw;cases v with
  | bar x ns=>have:=vF ((bR _ _).mp hw).2;show ns.length<4000;lia
  | shut x ns=>have:=vF ((bR _ _).mp hw).2;show ns.length<4000;lia
  | _=>trivial
theorem u9{α β:Type}{f:β->Option α}{g:α->β}:∀{l:List α},(∀x∈l,f (g x)=some x)->(l.map g).mapM f=some l
 | [],_=>rfl
 | x::r,h=>by rw[cY,dP,h x ck,u9 λy hy=>h y (ci _ hy)];rfl
def Gv{pn nm:QQQ}{v:Wi}(h:oh pn nm v=true):rG (pI v)=some v:=by
 cases v with
 | bar x ns=>
  have e:pI (.bar x ns)=("bar":Str)::x::ns:=by show([("bar":Str),x]:QQQ)++(nu (names ns)++[])=_;rw[oS,cJ];rfl
  rw[e];rfl
 | shut x ns=>
  have e:pI (.shut x ns)=("shut":Str)::x::ns:=by show([("shut":Str),x]:QQQ)++(nu (names ns)++[])=_;rw[oS,cJ];rfl
  rw[e];rfl
 | night x y f l=>obtain⟨_,h⟩:=(bR _ _).mp h;obtain⟨_,h⟩:=(bR _ _).mp h;obtain⟨h3,h⟩:=(bR _ _).mp h;obtain⟨h4,_⟩:=(bR _ _).mp h;obtain⟨a1,a2⟩:=(bR _ _).mp h3;obtain⟨b1,b2⟩:=(bR _ _).mp h4;obtain⟨f1,f2⟩:=rA (bU a1) (bU a2);obtain⟨l1,l2⟩:=rA (bU b1) (bU b2);show(if pR (qi f)=true then(if pR (qi l)=true then some (Wi.night x y (oa (qi f)) (oa (qi l)))else none)else none)=_;rw[b9 f1,b9 l1,f2,l2]
 | silent x y n=>obtain⟨_,h⟩:=(bR _ _).mp h;obtain⟨_,h⟩:=(bR _ _).mp h;obtain⟨h3,_⟩:=(bR _ _).mp h;obtain⟨a1,a2⟩:=(bR _ _).mp h3;have a1:=bU a1;have a2:=bU a2;obtain⟨f1,f2⟩:=rA (n:=n) (by lia) (by lia);show(if pR (qi n)=true then some (Wi.silent x y (oa (qi n)))else none)=_;rw[b9 f1,f2]
 | _=>rfl
def pG{pn nm:QQQ}{w:qu}(h:oh pn nm w.2=true):qT "phone" (qc w)=false/\qT "group" (qc w)=false/\zZ (qc w)=true/\uh (qc w)=some w/\tG (qc w)=pI w.2:=by
 obtain⟨_,h2,k1,k2,k3⟩:=xR h;have tb:=Gv h;obtain⟨on,v⟩:=w;have wi:∀ws:QQQ,qT "phone" ws=false->qT "group" ws=false->zZ ws=true:=λws a b=>by
  unfold zZ;rw[yY,cS]
  .rfl
  .rintro (z|z)
   .unfold qT at a;rw[z]at a;simp at a
   .unfold qT at b;rw[z]at b;simp at b
 cases on with
 | true=>
  have e:qc (true,v)=pI v:=rfl;rw[e];refine⟨k2,k3,wi _ k2 k3,?_,?_⟩
  .have ho:¬(pI v).head?=some "off":=λz=>by
    unfold qT at k1;cases hv:pI v with
    | nil=>rw[hv]at z;cases z
    | cons x r=>rw[hv]at z k1;have z:x="off":=ce z;subst z;cases k1
   have e2:uh (pI v)=(rG (pI v)).map λv=>(true,v):=bV ho;rw[e2,tb];rfl
  .have e2:tG (pI v)=if qT "off" (pI v)=true then(pI v).tail else pI v:=rfl
   rw[e2,k1];rfl
 | false=>have e:qc (false,v)=("off":Str)::pI v:=rfl;rw[e];refine⟨rfl,rfl,rfl,?_,rfl⟩;have e2:uh (("off":Str)::pI v)=(rG (pI v)).map λv=>(false,v):=rfl;rw[e2,tb];rfl
def BU{l:ng}(h:sg l=true):qX (pq l)=some l:=by
 obtain⟨⟨_,_,po⟩,⟨_,go⟩,_,_,wo⟩:=vQ h;have all:∀{α:Type} {g:α->QQQ} {q:QQQ->Bool} {l:List α},(∀x∈l,q (g x)=true)->(l.map g).filter q=l.map g:=λh=>jI.mpr λx hx=>by obtain⟨y,hy,rfl⟩:=cj.mp hx;exact h y hy
 have SS:∀{α:Type} {g:α->QQQ} {q:QQQ->Bool} {l:List α},(∀x∈l,q (g x)=false)->(l.map g).filter q=[]:=λh=>List.filter_eq_nil_iff.mpr λx hx=>by obtain⟨y,hy,rfl⟩:=cj.mp hx;rw[h y hy];exact cg
 have f1:(pq l).filter (qT "phone")=l.kW.map pU:=by unfold pq;rw[fi,fi,all (λ_ _=>rfl),SS (λ_ _=>rfl),SS (λw hw=>(pG (wo w hw)).1),cJ,cJ]
 have f2:(pq l).filter (qT "group")=l.groups.map pK:=by unfold pq;rw[fi,fi,SS (g:=pU) (λ_ _=>rfl),all (λ_ _=>rfl),SS (λw hw=>(pG (wo w hw)).2.1),cJ,cG]
 have f3:(pq l).filter zZ=l.kY.map qc:=by unfold pq;rw[fi,fi,SS (g:=pU) (λ_ _=>rfl),SS (g:=pK) (λ_ _=>rfl),all (λw hw=>(pG (wo w hw)).2.2.1),cG,cG]
 unfold qX;rw[f1,f2,f3,u9 (l:=l.kW) λp hp=>?_,u9 (l:=l.groups) λg hg=>?_,u9 (l:=l.kY) λw hw=>(pG (wo w hw)).2.2.2.1]
 .rfl
 .rfl
 .obtain⟨_,h⟩:=(bR _ _).mp (po p hp);obtain⟨h2,h3⟩:=(bR _ _).mp h;obtain⟨a1,a2⟩:=(bR _ _).mp h2;obtain⟨c1,c2⟩:=(bR _ _).mp h3;have a1:=bU a1;have a2:=bU a2;have c1:=bU c1;have c2:=bU c2;obtain⟨f1,f2⟩:=rA (n:=p.2.1) (by lia) (by lia);obtain⟨l1,l2⟩:=rA (n:=p.2.2) (by lia) (by lia);show(if pR (qi p.2.1)=true then(if pR (qi p.2.2)=true then some (p.1,oa (qi p.2.1),oa (qi p.2.2))else none)else none)=_;rw[b9 f1,b9 l1,f2,l2]
def A6{l:ng}(h:sg l=true):nL (pq l)=true:=by
 obtain⟨⟨p1,p8,po⟩,⟨g3,go⟩,nd,mw,wo⟩:=vQ h;have hw1:∀k:Str,(∀w∈l.kY,qT k (qc w)=false)->∀ws∈(l.kY.map qc).head?,qT k ws=false:=λk h ws SA=>by obtain⟨w,hw,rfl⟩:=cj.mp (jk SA);exact h w hw
 have r1:∀ws∈(l.groups.map pK++l.kY.map qc).head?,qT "phone" ws=false:=λws SA=>by
  rcases c7.mp (jk SA)with z|z
  .obtain⟨g,_,rfl⟩:=cj.mp z;rfl
  .obtain⟨w,hw,rfl⟩:=cj.mp z;exact(pG (wo w hw)).1
 have nd1:l.pn.Nodup:=(dZ.mp nd).1;have e1:vp (pq l) []=some l.pn:=LB r1 (own0:=[]) po (by rw[cG];exact nd1);have lp:l.pn.length=l.kW.length:=bP ..;have lg:l.nm.length=l.kW.length+l.groups.length:=by unfold ng.nm ng.gn;rw[bS,bP,lp]
 have d1:(pq l).drop l.pn.length=l.groups.map pK++l.kY.map qc:=by unfold pq;rw[lp,<-bP (f:=pU) (as:=l.kW),kH]
 have e2:uP l.pn ((pq l).drop l.pn.length) l.pn=some l.nm:=by rw[d1];exact Lw (hw1 "group" λw hw=>(pG (wo w hw)).2.1) go nd
 have d2:(pq l).drop l.nm.length=l.kY.map qc:=by unfold pq;rw[<-df,lg,<-bP (f:=pU) (as:=l.kW),<-bP (f:=pK) (as:=l.groups),<-bS,kH]
 unfold nL;rw[e1];simp only;rw[e2];simp only;rw[d2];have hl:(pq l).length=l.kW.length+(l.groups.length+l.kY.length):=by unfold pq;rw[bS,bS,bP,bP,bP]
 refine an (an (an (cu (by lia)) (cu (by lia))) (an (cu (by lia)) (cu (by lia)))) (cL.mpr λws SA=>?_);obtain⟨w,hw,rfl⟩:=cj.mp SA;obtain⟨a,b,_⟩:=xR (wo w hw);have e3:=(pG (wo w hw)).2.2.2.2;show(decide (2<=(tG (qc w)).length)&&tD (tG (qc w)) l.nm l.pn)=true;rw[e3];exact an (cu b) a
def Bx{R:V0 (QQQ)}(hR:rF R)(h:nL R=true):∃l,sg l=true/\pq l=R:=by
 unfold nL at h;cases e1:vp R []with
 | none=>rw[e1]at h;cases h
 | some own=>
  rw[e1]at h;simp only at h;cases e2:uP own (R.drop own.length) own with
  | none=>rw[e2]at h;cases h
  | some nm=>
   rw[e2]at h;simp only at h;obtain⟨hs,hw⟩:=(bR _ _).mp h;obtain⟨TZ,SE⟩:=(bR _ _).mp hs;obtain⟨z1,z2⟩:=(bR _ _).mp TZ;obtain⟨z3,z4⟩:=(bR _ _).mp SE;have z1:=bU z1;have z2:=bU z2;have z3:=bU z3;have z4:=bU z4;obtain⟨ps,a1,a2,a3,a4⟩:=Iv e1 gE;rw[cG]at a1;have lo:own.length=ps.length:=by rw[a1,bP]
   obtain⟨gs,b1,b2,b3,b4⟩:=Hd e2 a2;have ln:nm.length=own.length+gs.length:=by rw[b1,bS,bP]
   rw[ib,<-ln]at b3;have key:∀rows:V0 (QQQ),(∀ws∈rows,zd nm own ws=true/\ws≠[])->∃vs:List qu,rows=vs.map qc/\∀w∈vs,oh own nm w.2=true:=λrows=>by
    induction rows with
    | nil=>intro _;exact⟨[],rfl,λw hw=>nomatch hw⟩
    | cons ws r ih=>
     intro hh;obtain⟨vs,e,hv⟩:=ih λx hx=>hh x (ci _ hx);obtain⟨h0,ne⟩:=hh ws ck;obtain⟨_,h2⟩:=(bR _ _).mp h0;obtain⟨v,v1,v2⟩:=CU h2;have eo:tG ws=if qT "off" ws=true then ws.tail else ws:=rfl
     by_cases ho:qT "off" ws=true
     .rw[eo,b9 ho]at v2;refine⟨(false,v)::vs,?_,λw hw=>?_⟩
      .rw[cY,<-e];show _=(("off":Str)::pI v)::r;rw[v2];cases ws with
       | nil=>exact absurd rfl ne
       | cons x t=>have:x="off":=dr.mp ho;rw[this];rfl
      .rcases bT.mp hw with z|z
       .rw[z];exact v1
       .exact hv w z
     .rw[eo,bV ho]at v2;refine⟨(true,v)::vs,?_,λw hw=>?_⟩
      .rw[cY,<-e];show _=pI v::r;rw[v2]
      .rcases bT.mp hw with z|z
       .rw[z];exact v1
       .exact hv w z
   obtain⟨vs,c1,c2⟩:=key (R.drop nm.length) λws SA=>⟨cL.mp hw ws SA,(hR.row ws (eC SA)).1⟩;have eR:R=ps.map pU++(gs.map pK++vs.map qc):=by rw[<-c1,<-b3,lo];exact a3
   have lR:R.length=ps.length+(gs.length+vs.length):=by rw[eR,bS,bS,bP,bP,bP]
   refine⟨⟨ps,gs,vs⟩,?_,eR.symm⟩;have epn:ng.pn ⟨ps,gs,vs⟩=own:=a1.symm;have enm:ng.nm ⟨ps,gs,vs⟩=nm:=by show ng.pn ⟨ps,gs,vs⟩++gs.map (·.1)=nm;rw[epn,b1]
   have eB:sg ⟨ps,gs,vs⟩=(wA ps&&(wc (ng.pn ⟨ps,gs,vs⟩) gs&&(pf (ng.nm ⟨ps,gs,vs⟩)&&wV (ng.pn ⟨ps,gs,vs⟩) (ng.nm ⟨ps,gs,vs⟩) vs))):=rfl;rw[eB,epn,enm];exact an (an (an (cu (by lia)) (cu (by lia))) (cL.mpr a4)) (an (an (cu (by lia)) (cL.mpr b4)) (an (vo b2) (an (cu (by lia)) (cL.mpr c2))))
def CC{R:V0 (QQQ)}(hR:rF R):(∃l,qX R=some l/\sg l=true/\qL l=oO R)↔nL R=true:=by
 constructor
 .rintro ⟨l,_,h2,h3⟩
  have:=G6 (u5 (FW h2) h2) hR h3;rw[<-this];exact A6 h2
 .intro h;obtain⟨l,h1,rfl⟩:=Bx hR h;exact⟨l,BU h1,h1,Df l⟩
seal L3.E3 L3.B3 L3.A3 L3.S3 L3.zP L3.vB
def yh{K:nz}{M:Mp}{e:Addr}{C:Addr}{c:D}{cv:Vl}{b:Bool}{K0:DK}(h:M e=some (.exc (tH e C)))(hx:we K C)(hc:Nl c=some cv)(hk:W.kitOne K (.ref C) cv=some b)(k:K0 (.bl b) M):vB K [.ref e,c] M K0:=by unfold vB;exact⟨C,none,h,hx,i' hc (i' hk k)⟩
def Jf(a:Ad):rf:=λds M Q=>∃Rw,ds=[.str (oO Rw)]/\rF Rw/\(nL Rw=true->∀l p M',nJ M M'->wZ a M' p l->oM l->qL l=oO Rw->Q (.tup [.ref p,.k9]) M')/\(nL Rw=false->∀M',nJ M M'->Q (.tup [.k9,.bl true]) M')
def Ik:Fq P w K mg base 10 a.aA (Jf a):=by
 refine fq G.aA.toDG qo (λr u=>⟨_,(mF (mT 1 qo AU)
 (mF (mT 2 qo AU)
 (mF (IL (ix:=1) (i:=3) (uQ (KW G) (r.mono (by first|decide|lia)) rfl G.R.mg G.R.toDG.kp G.R.b (nP v0)) rfl rfl rfl G.a4 qo.nd rfl rfl rfl rfl (λev E'=>
 (mF (mT 2 qo (qa (mJ (sF (K:=K) rfl) rfl G.F pE (qd V3 (Be rfl G.aW))) (qD (mJ (sF (K:=K) rfl) rfl G.F pE (qd V3 (ES rfl G.bw Aa))))))
 (mG (nB (W3.b3 (tL (qU (mJ (sF (K:=K) rfl) rfl G.F pE (qd V3 (Be rfl G.a5)))) (tU (qU (mJ (sF (K:=K) rfl) rfl G.F pE (qd V3 (Be rfl G.a6)))))))
 (mG (mT 2 qo sH))
 mR)))))
 (mG (mM (og (qd V1 V2))))))),?_⟩)
 rintro ds M Q ⟨Rw,rfl,ok,q1,q2⟩
 refine⟨λC y M'=>(C=a.g/\y=none)/\nL Rw=false/\nJ M M',?_,?_⟩
 .refine⟨Rw,rfl,ok,λl h1 h2 h3 h4 p M' s pa=>?_,λhn M' s=>⟨⟨rfl,rfl⟩,?_,s⟩⟩
  .exact⟨lP rfl,M',.refl,q1 ((CC ok).mp ⟨l,h1,h2,h4⟩) l p M' s pa (u5 h3 h2) h4⟩
  .exact cE.mpr λz=>hn ((CC ok).mpr z)
 .rintro C y M' ⟨⟨rfl,rfl⟩,hB,sM⟩
  refine⟨rfl,G.a8,λe he=>?_⟩;have s4:nJ M (mS M' e (.exc (tH e a.g))):=sM.trans (.new he);have ee:mS M' e (.exc (tH e a.g)) e=some (.exc (tH e a.g)):=m7;generalize mS M' e (.exc (tH e a.g))=M4 at ee s4 ⊢;have i1:∀K0:DK,K0 (.bl true) M4->vB K [.ref e,.ref a.g] M4 K0:=λK0 k0=>yh ee G.aG rfl G.bq k0;have i2:∀K0:DK,K0 (.bl true) M4->vB K [.ref e,.ty "ValueError"] M4 K0:=λK0 k0=>yh ee G.aG rfl G.br k0;have i3:∀K0:DK,K0 (.bl false) M4->vB K [.ref e,.ref a.aL] M4 K0:=λK0 k0=>yh ee G.aG rfl G.bs k0;have i4:∀K0:DK,K0 (.bl false) M4->vB K [.ref e,.ref a.aM] M4 K0:=λK0 k0=>yh ee G.aG rfl G.bt k0;refine i1 _ ?_;refine i2 _ ?_;refine i3 _ ?_;refine i4 _ ?_;exact⟨lP rfl,M4,.refl,q2 hB M4 s4⟩
def qJ(c B:Nat)(l:V0 Nat):Prop:=∀x y z,l=x++y++z->c∉y->y.length<=B
abbrev Mf:=qJ 10
def qJ.mono{c B C:Nat}{l:V0 Nat}(h:qJ c B l)(k:B<=C):qJ c C l:=λx y z e n=>di (h x y z e n) k
def qJ.len{c:Nat}(l:V0 Nat):qJ c l.length l:=λx y z e _=>by rw[e];simp only[bS];lia
def qJ.inf{c B:Nat}{l p m s:V0 Nat}(h:qJ c B l)(e:l=p++m++s):qJ c B m:=λx y z e2 n=>h (p++x) y (z++s) (by rw[e,e2];simp only[df]) n
def qJ.take{c B:Nat}{l:V0 Nat}(h:qJ c B l)(n:Nat):qJ c B (l.take n):=h.inf (p:=[]) (s:=l.drop n) (by rw[cG,fW])
def qJ.drop{c B:Nat}{l:V0 Nat}(h:qJ c B l)(n:Nat):qJ c B (l.drop n):=h.inf (p:=l.take n) (s:=[]) (by rw[cJ,fW])
def qJ.app{c B C:Nat}{a b:V0 Nat}(h:qJ c B a)(k:qJ c C b):qJ c (B+C) (a++b):=λx y z e n=>by
 rcases fD.mp e with⟨a',e1,e2⟩|⟨c',e1,e2⟩
 .rcases fD.mp e1 with⟨u,e3,e4⟩|⟨u,e3,e4⟩
  .have h1:=h x u [] (by rw[cJ];exact e3) λq=>n (by rw[e4];exact fX _ q);have h2:=k [] a' z (by rw[cG];exact e2) λq=>n (by rw[e4];exact cV _ q);rw[e4,bS];lia
  .have:=k u y z (by rw[e2,e4]) n;lia
 .have:=h x y c' e1 n;lia
def qJ.sep{c B:Nat}{a b:V0 Nat}(h:qJ c B a)(k:qJ c B b):qJ c B (a++c::b):=λx y z e n=>by
 rcases fD.mp e with⟨a',e1,e2⟩|⟨c',e1,e2⟩
 .rcases fD.mp e1 with⟨u,e3,e4⟩|⟨u,e3,e4⟩
  .cases a' with
   | nil=>rw[cJ]at e4;exact h x y [] (by rw[cJ,e4];exact e3) n
   | cons w a'=>have e2:c::b=w::(a'++z):=e2;rw[e4,<-(dw e2).1]at n;exact absurd (cV _ ck) n
  .rw[e4]at e2;cases u with
   | nil=>
    cases y with
    | nil=>exact dY _
    | cons w y=>have e2:c::b=w::(y++z):=e2;rw[<-(dw e2).1]at n;exact absurd ck n
   | cons w u=>have e2:c::b=w::(u++y++z):=e2;exact k u y z (dw e2).2 n
 .exact h x y c' e1 n
def Jr:rf:=λds M Q=>∃m:Int,ds=[.int m]/\∀c,c.length=1->Q (.str c) M
noncomputable def xb : Str := " !\"#$&'()*+,-./0123456789:;<=>?@ABCDEFGHIJKLMNOPQRSTUVWXYZ[\\]^_{|}~"
def EU{l:V0 Nat}{i:Int}(h0:0<=i)(h1:i<(l.length:Nat)):∃c,tY l i=some c:=by
 obtain⟨n,rfl⟩:=cK h0;have hn:n<l.length:=by lia
 exact⟨l[n],qI (bZ hn)⟩
def K1:Fq P w K mg base 1 a.aD Jr:=by
 refine fq G.aD.toDG xC (λr u=>⟨_,(mF (nB (mW u (mL v0 mE) mE)
 (mG (mM (mX mK (mL (mL v0 mE) mE))))
 mR)
 (mF (mT 1 xC mK)
 (mG (mM (mX V1 (mL (mL v0 mE) (mJ mZ rfl G.e mY (nP V1)))))))),?_⟩)
 rintro ds M Q ⟨m,rfl,q⟩
 refine⟨by decide,oo (c:=m % 2==0) (λh=>?_) (λh=>?_)⟩
 .have z0:=cT (m / 2) (show(19:Int)≠0 by decide);have z1:=cO (m / 2) (show(0:Int)<19 by decide);obtain⟨c,hc⟩:=EU (l:=("abcxyz0123456789  \n":Str).cps.toList) z0 (by show m / 2 % 19<((19:Nat):Int);exact z1);exact⟨⟨by decide,by decide⟩,by decide,by decide+kernel,i' hc ⟨M,.refl,q _ rfl⟩⟩
 .have hp:(0:Int)<(xb.length:Nat):=by decide+kernel
  have z0:=cT (m / 2) (show((xb.length:Nat):Int)≠0 by lia);have z1:=cO (m / 2) hp;have el:xb.cps.toList.length=xb.length:=by simp[Str.length]
  obtain⟨c,hc⟩:=EU (l:=xb.cps.toList) z0 (by rw[el];exact z1);have hs:xb.length<=sizeLine:=by decide+kernel
  exact⟨⟨by decide,by decide⟩,hs,hp,hs,i' hc ⟨M,.refl,q _ rfl⟩⟩
def wk(x:Str)(k:Nat):(Txt.slice x none (some (k:Nat))).cps.toList=x.cps.toList.take k:=by
 have hx:x.cps.toList.length=x.length:=by simp[Str.length]
 rw[yI x (λi e=>by cases e) (λi e=>by cases e;lia)];show(x.cps.toList.drop 0).take (min ((k:Int)).toNat x.length - 0)=_;rw[gD,eY,iL];by_cases h:k<=x.length
 .rw[eX h]
 .rw[gM (by lia),dh (by lia),dh (by lia)]
def qO(x:Str)(k:Nat):(Txt.slice x (some (k:Nat)) none).cps.toList=x.cps.toList.drop k:=by
 have hx:x.cps.toList.length=x.length:=by simp[Str.length]
 rw[yI x (λi e=>by cases e;lia) (λi e=>by cases e)];show(x.cps.toList.drop (min ((k:Int)).toNat x.length)).take (x.length - min ((k:Int)).toNat x.length)=_;rw[eY,dh (by rw[cU];lia)];by_cases h:k<=x.length
 .rw[eX h]
 .rw[gM (by lia),fR (by lia),fR (by lia)]
structure AK(B n:Nat)(x:Str):Prop where
 run:Mf B x.cps.toList
 lP:x.cps.toList.count 10<=n
def oV(a b:Str):(a++b).cps.toList=a.cps.toList++b.cps.toList:=gv
def KY{c:Str}(h:c.length=1):Mf 1 c.cps.toList/\c.cps.toList.count 10<=1:=by
 have hl:c.cps.toList.length=1:=by rw[<-h];simp[Str.length]
 exact⟨hl ▸ qJ.len _,hl ▸ List.count_le_length⟩
def zC(l:V0 Nat)(k:Nat):(l.take k).count 10+(l.drop k).count 10=l.count 10:=by rw[<-dG,fW]
def Ja(x:Str)(k m:Nat):(Txt.slice x (some (k:Nat)) (some (m:Nat))).cps.toList=(x.cps.toList.drop k).take (m - k):=by
 have hx:x.cps.toList.length=x.length:=by simp[Str.length]
 rw[yI x (λi e=>by cases e;lia) (λi e=>by cases e;lia)];show(x.cps.toList.drop (min ((k:Int)).toNat x.length)).take (min ((m:Int)).toNat x.length - min ((k:Int)).toNat x.length)=_;rw[eY,eY];by_cases h:k<=x.length
 .rw[eX h];by_cases h2:m<=x.length
  .rw[eX h2]
  .rw[gM (by lia),dh (by rw[cU];lia),dh (by rw[cU];lia)]
 .rw[show min k x.length=x.length by lia,fR (by lia),fR (by lia)];simp
def DY:rf:=λds M Q=>∃x m wy B n,ds=[.str x,.int m,.int wy]/\AK B n x/\x.length<=100000/\∀y,AK (2*B+2) (n+1) y->y.length<=x.length+1->Q (.str y) M
def CA:Fq P w K mg base 2 a.aE DY:=by
 refine fq G.aE.toDG pA (λr u=>⟨_,(mF (mT 3 pA (mL (mL V1 mE) (mL (mJ mZ rfl G.e mY (nP v0)) mE)))
 (mF (mT 4 pA (mP (K1 G) r G.aD (nP (mL V1 mE))))
 (mF (nB (mW u V2 mE)
 (mG (mM (mL (mL (pY v0 nA (nj V3)) v4) (pY v0 (nj V3) nA))))
 mR)
 (mF (nB (mW u V2 mE)
 (mG (mM (mL (pY v0 nA (nj V3)) (pY v0 (nj (mL V3 mE)) nA))))
 mR)
 (mF (nB (mW u V2 mE)
 (mG (mM (mL (mL (pY v0 nA (nj V3)) v4) (pY v0 (nj (mL V3 mE)) nA))))
 mR)
 (mF (mT 5 pA (mL (pY v0 (nj (mL V3 mE)) (nj (mL V3 mE))) (pY v0 (nj V3) (nj (mL V3 mE)))))
 (mG (mM (mL (mL (pY v0 nA (nj V3)) v5) (pY v0 (nj (mL V3 mE)) nA)))))))))),?_⟩)
 rintro ds M Q ⟨x,m,wy,B,n,rfl,tb,hl,q⟩
 have zz:=cP;have p0:(0:Int)<(x.length:Int)+1:=by lia
 refine⟨⟨by decide,by decide⟩,by lia,p0,?_⟩;have k0:=cT (m / 3) (show(x.length:Int)+1≠0 by lia);have k1:=cO (m / 3) p0;obtain⟨k,hk⟩:=cK k0;have hk:m / 3 % ((x.length:Int)+1)=(k:Nat):=hk;rw[hk]at k1 ⊢;have hx:x.cps.toList.length=x.length:=by simp[Str.length]
 refine⟨⟨by decide,by decide⟩,m / 5,rfl,λc hc=>?_⟩;have lt:∀z:Str,z.length=z.cps.toList.length:=λz=>by simp[Str.length]
 obtain⟨c1,c2⟩:=KY hc;have e1:((k:Nat):Int)+1=((k+1:Nat):Int):=by lia
 have e2:((k:Nat):Int)+2=((k+2:Nat):Int):=by lia
 have l1:(Txt.slice x none (some (k:Nat))).length=k:=by rw[lt,wk,cQ];lia
 have l2:(Txt.slice x (some (k:Nat)) none).length=x.length - k:=by rw[lt,qO,cU];lia
 have l3:(Txt.slice x (some (k+1:Nat)) none).length=x.length - (k+1):=by rw[lt,qO,cU];lia
 have r1:=tb.run.take k;have n1:=zC x.cps.toList k;have n2:=zC x.cps.toList (k+1);have n3:(x.cps.toList.drop (k+1)).count 10<=(x.cps.toList.drop k).count 10:=by rw[show x.cps.toList.drop (k+1)=(x.cps.toList.drop k).drop 1 by rw[ib]];have:=zC (x.cps.toList.drop k) 1;lia
 have nf:=tb.lP;refine oo (c:=wy==0) (λh=>?_) (λh=>?_)
 .refine⟨by lia,by rw[l1,hc];lia,by lia,by rw[cR,l1,l2,hc];lia,M,.refl,q _ ⟨?_,?_⟩ ?_⟩
  .rw[oV,oV,wk,qO];exact((r1.app c1).app (tb.run.drop k)).mono (by lia)
  .rw[oV,oV,wk,qO,dG,dG];lia
  .rw[cR,cR,l1,l2,hc];lia
 refine oo (c:=wy==1) (λh=>?_) (λh=>?_)
 .refine⟨by lia,by lia,?_⟩;rw[e1];refine⟨by rw[l1,l3];lia,M,.refl,q _ ⟨?_,?_⟩ ?_⟩
  .rw[oV,wk,qO];exact(r1.app (tb.run.drop (k+1))).mono (by lia)
  .rw[oV,wk,qO,dG];lia
  .rw[cR,l1,l3];lia
 refine oo (c:=wy==2) (λh=>?_) (λh=>?_)
 .refine⟨by lia,by rw[l1,hc];lia,by lia,?_⟩;rw[e1];refine⟨by rw[cR,l1,l3,hc];lia,M,.refl,q _ ⟨?_,?_⟩ ?_⟩
  .rw[oV,oV,wk,qO];exact((r1.app c1).app (tb.run.drop (k+1))).mono (by lia)
  .rw[oV,oV,wk,qO,dG,dG];lia
  .rw[cR,cR,l1,l3,hc];lia
 have m0:(Txt.slice x (some (k:Nat)) (some (k+1:Nat))).cps.toList=(x.cps.toList.drop k).take 1:=by rw[Ja];congr 1;lia
 have m1:(Txt.slice x (some (k+1:Nat)) (some (k+2:Nat))).cps.toList=(x.cps.toList.drop (k+1)).take 1:=by rw[Ja];congr 1;lia
 have l4:(Txt.slice x (some (k+2:Nat)) none).length=x.length - (k+2):=by rw[lt,qO,cU];lia
 have lm0:(Txt.slice x (some (k:Nat)) (some (k+1:Nat))).length=min 1 (x.length - k):=by rw[lt,m0,cQ,cU,hx]
 have lm1:(Txt.slice x (some (k+1:Nat)) (some (k+2:Nat))).length=min 1 (x.length - (k+1)):=by rw[lt,m1,cQ,cU,hx]
 have w0:((x.cps.toList.drop k).take 1).count 10+(x.cps.toList.drop (k+1)).count 10=(x.cps.toList.drop k).count 10:=by
  have:=zC (x.cps.toList.drop k) 1
  rwa [ib]at this
 have w1:((x.cps.toList.drop (k+1)).take 1).count 10+(x.cps.toList.drop (k+2)).count 10=(x.cps.toList.drop (k+1)).count 10:=by
  have:=zC (x.cps.toList.drop (k+1)) 1
  rwa [ib]at this
 have one:∀l:V0 Nat,Mf 1 (l.take 1):=λl=>(qJ.len _).mono (by rw[cQ];lia);dsimp only[OM];refine⟨by lia,?_⟩;rw[e1,e2];refine⟨by lia,by simp only[e1,e2];rw[lm0,lm1];lia,by lia,by simp only[e1,e2];rw[cR,l1,lm0,lm1];lia,by lia,by simp only[e1,e2];rw[cR,cR,l1,lm0,lm1,l4];lia,M,.refl,q _ ⟨?_,?_⟩ ?_⟩
 .simp only[e1,e2];rw[oV,oV,oV,wk,qO,m0,m1];exact((r1.app ((one _).app (one _))).app (tb.run.drop (k+2))).mono (by lia)
 .simp only[e1,e2];rw[oV,oV,oV,wk,qO,m0,m1,dG,dG,dG];lia
 .simp only[e1,e2];rw[cR,cR,cR,l1,lm0,lm1,l4];lia
noncomputable def jl(ps:QQQ):Nat:=(ps.map (·.length)).sum+ps.length
def uu(a b:QQQ):jl (a++b)=jl a+jl b:=by unfold jl;rw[cy,List.sum_append,bS];lia
def zg(x:Str):jl [x]=x.length+1:=by simp[jl]
def wd(c:Nat)(x y:Str)(r:QQQ):(Str.join ⟨#[c]⟩ (x::y::r)).cps.toList=x.cps.toList++c::(Str.join ⟨#[c]⟩ (y::r)).cps.toList:=by show((x.cps++#[c])++(Str.join ⟨#[c]⟩ (y::r)).cps).toList=_;simp
theorem tW(c:Nat):∀ps:QQQ,ps≠[]->(Str.join ⟨#[c]⟩ ps).length+1=jl ps
 | [],h=>absurd rfl h
 | [x],_=>(zg x).symm
 | x::y::r,_=>by
  have h:=tW c (y::r) (c9 _ _);have e:(Str.join ⟨#[c]⟩ (x::y::r)).length=x.length+(1+(Str.join ⟨#[c]⟩ (y::r)).length):=by show(x++⟨#[c]⟩++Str.join ⟨#[c]⟩ (y::r)).length=_;rw[cR,cR];show x.length+1+_=_;lia
  rw[e,show x::y::r=[x]++(y::r)from rfl,uu,zg];lia
theorem DF(c d:Nat)(hd:d≠c):∀ps:QQQ,d∈(Str.join ⟨#[c]⟩ ps).cps.toList↔∃p∈ps,d∈p.cps.toList
 | []=>by
  constructor
  .intro h;exact absurd h (by show d∉([]:V0 Nat);simp)
  .rintro ⟨p,h,_⟩;cases h
 | [x]=>by show d∈x.cps.toList↔_;simp
 | x::y::r=>by
  rw[wd,c7,bT,DF c d hd (y::r)];constructor
  .rintro (h|h|⟨p,h,k⟩)
   .exact⟨x,ck,h⟩
   .exact absurd h hd
   .exact⟨p,ci _ h,k⟩
  .rintro ⟨p,h,k⟩
   rcases bT.mp h with rfl|h
   .exact .inl k
   .exact .inr (.inr ⟨p,h,k⟩)
theorem BG{c B:Nat}:∀ps:QQQ,qJ c B (Str.join ⟨#[c]⟩ ps).cps.toList->∀p∈ps,c∉p.cps.toList->p.length<=B
 | [],_,p,hp,_=>nomatch hp
 | [x],h,p,hp,hn=>by rw[c8.mp hp]at hn ⊢;exact h [] x.cps.toList [] (by rw[cG,cJ];rfl) hn
 | x::y::r,h,p,hp,hn=>by
  rw[wd]at h;rcases bT.mp hp with rfl|hp
  .exact h [] p.cps.toList _ rfl hn
  .exact BG (y::r) (h.inf (p:=x.cps.toList++[c]) (s:=[]) (by simp)) p hp hn
theorem HI:∀ps:QQQ,ps.length<=(Str.join ⟨#[10]⟩ ps).cps.toList.count 10+1
 | []=>by simp
 | [x]=>by simp
 | x::y::r=>by have h:=HI (y::r);rw[wd,dG,jz];rw[b8];lia
theorem Dx{c B:Nat}:∀ps:QQQ,(∀p∈ps,p.length<=B)->qJ c B (Str.join ⟨#[c]⟩ ps).cps.toList
 | [],_=>λx y z e _=>by have e:([]:V0 Nat)=x++y++z:=e;have:=dJ List.length e;simp only[cA,bS]at this;lia
 | [x],h=>(qJ.len x.cps.toList).mono (h x ck)
 | x::y::r,h=>by rw[wd];exact((qJ.len x.cps.toList).mono (h x ck)).sep (Dx (y::r) λp hp=>h p (ci _ hp))
theorem GJ:∀ps:QQQ,(∀p∈ps,10∉p.cps.toList)->(Str.join ⟨#[10]⟩ ps).cps.toList.count 10<=ps.length - 1
 | [],_=>iD rfl
 | [x],h=>iD (j5.mpr (h x ck))
 | x::y::r,h=>by have h4:=GJ (y::r) λp hp=>h p (ci _ hp);rw[wd,dG,jz,j5.mpr (h x ck)];simp only[b8]at h4 ⊢;lia
theorem Ij{B:Nat}:∀ps:QQQ,(∀p∈ps,p.length<=B)->jl ps<=ps.length*(B+1)
 | [],_=>dY _
 | x::r,h=>by have h1:=h x ck;have h2:=Ij r λp hp=>h p (ci _ hp);rw[show x::r=[x]++r from rfl,uu,zg,bS,Nat.add_mul];show _<=1*(B+1)+_;lia
theorem Bz:∀{ps:QQQ} {p:Str},p∈ps->p.length+1<=jl ps
 | [],_,h=>nomatch h
 | x::r,p,h=>by
  rw[show x::r=[x]++r from rfl,uu,zg];rcases bT.mp h with rfl|h
  .omega
  .have:=Bz h;lia
def BI(ps:QQQ):ps.length<=jl ps:=by unfold jl;lia
def AK.rows{B n:Nat}{x:Str}(h:AK B n x):(∀p∈Txt.split x "\n",10∉p.cps.toList/\p.length<=B)/\(Txt.split x "\n").length<=n+1:=by have e:Str.join ⟨#[10]⟩ (Txt.split x ⟨#[10]⟩)=x:=dR x ⟨#[10]⟩;have f:∀p∈Txt.split x ⟨#[10]⟩,10∉p.cps.toList:=ij _ _;rw[yQ];refine⟨λp hp=>⟨f p hp,BG (Txt.split x ⟨#[10]⟩) (by rw[e];exact h.run) p hp (f p hp)⟩,?_⟩;have:=HI (Txt.split x ⟨#[10]⟩);rw[e]at this;have:=h.lP;lia
def AK.len{B n:Nat}{x:Str}(h:AK B n x):x.length+1<=(n+1)*(B+1):=by obtain⟨h1,h2⟩:=h.rows;rw[yQ]at h1 h2;have e:Str.join ⟨#[10]⟩ (Txt.split x ⟨#[10]⟩)=x:=dR x ⟨#[10]⟩;have l:=tW 10 _ (L3.pW x ⟨#[10]⟩);rw[e]at l;have:=Ij _ λp hp=>(h1 p hp).2;have:=Nat.mul_le_mul_right (B+1) h2;lia
def AK.of{B n:Nat}{ps:QQQ}(h:∀p∈ps,10∉p.cps.toList/\p.length<=B)(hn:ps.length<=n+1):AK B n (Str.join "\n" ps):=by rw[yQ];have h2:=GJ ps λp hp=>(h p hp).1;exact⟨Dx ps λp hp=>(h p hp).2,by lia⟩
def xn{x:Str}(h:10∉x.cps.toList):jl (Txt.split x " ")=x.length+1/\∀p∈Txt.split x " ",32∉p.cps.toList/\10∉p.cps.toList:=by rw[xQ];have e:Str.join ⟨#[32]⟩ (Txt.split x ⟨#[32]⟩)=x:=dR x ⟨#[32]⟩;have l:=tW 32 _ (L3.pW x ⟨#[32]⟩);rw[e]at l;refine⟨l.symm,λp hp=>⟨ij _ _ p hp,λk=>h ?_⟩⟩;rw[<-e];exact(DF 32 10 (by decide) _).mpr ⟨p,hp,k⟩
def Ep{B n:Nat}{x:Str}(h:AK B n x):jl (Txt.split (Txt.replace x "\n" " ") " ")=x.length+1/\∀p∈Txt.split (Txt.replace x "\n" " ") " ",32∉p.cps.toList/\10∉p.cps.toList/\p.length<=B:=by
 obtain⟨h1,h2⟩:=h.rows;have e0:Txt.replace x "\n" " "=Str.join ⟨#[32]⟩ (Txt.split x "\n"):=by rw[yQ,xQ];exact jK x _ 10
 have hn:10∉(Txt.replace x "\n" " ").cps.toList:=λk=>by rw[e0]at k;obtain⟨p,hp,k⟩:=(DF 32 10 (by decide) _).mp k;exact(h1 p hp).1 k
 obtain⟨w1,w2⟩:=xn hn;have l1:=tW 32 _ (L3.pW x "\n");have l2:=tW 10 _ (L3.pW x "\n");have ej:Str.join ⟨#[10]⟩ (Txt.split x "\n")=x:=dR x "\n";rw[ej]at l2;rw[<-e0]at l1;refine⟨by lia,λp hp=>⟨(w2 p hp).1,(w2 p hp).2,?_⟩⟩;have r:=Dx (c:=32) (Txt.split x "\n") λp hp=>(h1 p hp).2;rw[<-e0]at r;have es:Str.join ⟨#[32]⟩ (Txt.split (Txt.replace x "\n" " ") " ")=Txt.replace x "\n" " ":=dR _ _;exact BG (c:=32) _ (by rw[es];exact r) p hp (w2 p hp).1
def yw(x:Str):(Txt.replace x "\n" " ").length=x.length:=by
 have l1:=tW 32 _ (L3.pW x "\n");have l2:=tW 10 _ (L3.pW x "\n");have ej:Str.join ⟨#[10]⟩ (Txt.split x "\n")=x:=dR x "\n";have e0:Txt.replace x "\n" " "=Str.join ⟨#[32]⟩ (Txt.split x "\n"):=by rw[yQ,xQ];exact jK x _ 10
 rw[ej]at l2;rw[<-e0]at l1;lia
def OJ(ps:QQQ)(j:Nat):jl (ps.take j)+jl (ps.drop j)=jl ps:=by rw[<-uu,fW]
def JM{ps:QQQ}{j:Nat}(h:j<ps.length):jl (ps.drop (j+1))<=jl (ps.drop j):=by rw[eN h,show ps[j]::ps.drop (j+1)=[ps[j]]++ps.drop (j+1)from rfl,uu];lia
def GM(ps qs:QQQ)(y:Str):jl (ps++y::qs)=jl ps+(y.length+1)+jl qs:=by rw[show ps++y::qs=ps++([y]++qs)from rfl,uu,uu,zg];lia
def MF{n i:Nat}(h:i<n):Eo n (i:Nat)=some i:=by unfold Eo;simp[h]
def vd{M:Mp}{r:Addr}{ps:QQQ}{B n:Nat}{Q:DK}(hr:lO M r=some (ps.map D.str))(h:∀p∈ps,10∉p.cps.toList/\p.length<=2*B+2)(hl:ps.length<=n+2)(hB:B<=1000)(hn:n<=90)(q:∀y,AK (2*B+2) (n+1) y->Q (.str y) M):vD (.str "\n") [.ref r] M Q:=by
 refine i' hr ⟨ps,2002,rfl,λy hy=>?_,?_,q _ (AK.of h hl)⟩
 .have:=(h y hy).2;lia
 .show ps.length*2002+ps.length*1<=16777216;lia
def DR{M:Mp}{r:Addr}{ws:QQQ}{B:Nat}{Q:DK}(hr:lO M r=some (ws.map D.str))(h:∀p∈ws,32∉p.cps.toList/\10∉p.cps.toList)(hl:jl ws<=2*B+3)(hB:B<=1000)(q:∀y:Str,10∉y.cps.toList->y.length<=2*B+2->Q (.str y) M):vD (.str " ") [.ref r] M Q:=by
 refine i' hr ⟨ws,2002,rfl,λy hy=>?_,?_,q _ (sj λw hw=>h w hw) ?_⟩
 .have:=Bz hy;lia
 .show ws.length*2002+ws.length*1<=16777216;have:=BI ws;lia
 .cases ws with
  | nil=>exact dY _
  | cons w r=>have:=tW 32 (w::r) (c9 _ _);rw[xQ];lia
def LC(L:QQQ){k:Nat}(h:k<=L.length):L3.qx (L.map D.str) none (some (k:Nat))=(L.take k).map D.str:=by rw[Dz _ _ (by rw[bP];exact h),gk]
def Ft(L:QQQ){k:Nat}(h:k<=L.length):L3.qx (L.map D.str) (some (k:Nat)) none=(L.drop k).map D.str:=by rw[uG _ _ (by rw[bP];exact h),gj]
def B4{M M':Mp}{p:Addr}(s:nJ M M')(h:M' p=none):M p=none:=by
 cases e:M p with
 | none=>rfl
 | some c=>rw[s p c e]at h;cases h
def IW{U:rH}{M:Mp}{Q:DK}{r:Addr}{L:QQQ}{k j:Nat}{ta tk tj:T3}(ha:∀M Q,Q (.ref r) M->ta U M Q)(hk:∀M Q,Q (.int (k:Nat)) M->tk U M Q)(hj:∀M Q,Q (.int (j:Nat)) M->tj U M Q)(lr:lO M r=some (L.map D.str))(k1:k<=L.length)(j1:j<=L.length)(hl:L.length<=200000) (q:∀p M',nJ M M'->M p=none->lO M' p=some ((L.take k++L.drop j).map D.str)->Q (.ref p) M'):o3 .Add (s3 ta wz (CF tk)) (s3 ta (CF tj) wz) U M Q:=by
 refine ha _ _ (hk _ _ (i' lr λp hp=>?_));rw[LC L k1];obtain⟨M1,e0,t1,e1⟩:=tR (ds:=(L.take k).map D.str) hp;rw[<-e0];refine ha _ _ (hj _ _ (i' (t1.lst lr) λp2 SL=>?_));rw[Ft L j1];obtain⟨M2,e0,t2,e2⟩:=tR (ds:=(L.drop j).map D.str) SL;rw[<-e0];have zz:=cP;refine i' (t2.lst e1) (i' e2 ⟨?_,λp3 Ug=>?_⟩)
 .rw[bP,bP,cQ,cU];lia
 .rw[<-cy];exact q _ _ (t1.trans (t2.trans (.new Ug))) (B4 (t1.trans t2) Ug) mI
def HW{U:rH}{M:Mp}{Q:DK}{r:Addr}{L:QQQ}{k j:Nat}{ta tk tj te:T3}{S:Str->Prop}(ha:∀M Q,Q (.ref r) M->ta U M Q)(hk:∀M Q,Q (.int (k:Nat)) M->tk U M Q)(hj:∀M Q,Q (.int (j:Nat)) M->tj U M Q)(he:∀M' Q,nJ M M'->(∀z,S z->Q (.str z) M')->te U M' Q)(lr:lO M r=some (L.map D.str))(k1:k<=L.length)(j1:j<=L.length)(hl:L.length<=200000) (q:∀p M' z,S z->nJ M M'->lO M' p=some ((L.take k++[z]++L.drop j).map D.str)->Q (.ref p) M'):o3 .Add (o3 .Add (s3 ta wz (CF tk)) (NN (rY te vw))) (s3 ta (CF tj) wz) U M Q:=by
 have zz:=cP;refine ha _ _ (hk _ _ (i' lr λp hp=>?_));rw[LC L k1];obtain⟨M1,e0,t1,e1⟩:=tR (ds:=(L.take k).map D.str) hp;rw[<-e0];refine he _ _ t1 λz hz=>⟨lP rfl,λp2 SL=>?_⟩;obtain⟨M2,e0,t2,e2⟩:=tR (ds:=[D.str z]) SL;rw[<-e0];refine i' (t2.lst e1) (i' e2 ⟨?_,λp3 Ug=>?_⟩)
 .rw[bP,cQ];show _+1<=_;lia
 obtain⟨M3,e0,t3,e3⟩:=tR (ds:=(L.take k).map D.str++[D.str z]) Ug;rw[<-e0];have t13:=t1.trans (t2.trans t3);refine ha _ _ (hj _ _ (i' (t13.lst lr) λp4 hp4=>?_));rw[Ft L j1];obtain⟨M4,e0,t4,e4⟩:=tR (ds:=(L.drop j).map D.str) hp4;rw[<-e0];refine i' (t4.lst e3) (i' e4 ⟨?_,λp5 Vf=>?_⟩)
 .rw[bS,bP,bP,cQ,cU];show _+1+_<=_;lia
 .refine q p5 _ z hz (t13.trans (t4.trans (.new Vf))) ?_;rw[mI,cy,cy];rfl
def DQ{t:T3}{x:Str}{E:yE}{U:rH}{M:Mp}(h:t U M λd M'=>vD (.str x) [d] M' E.rt):ON (PR vD (c3 (.str x)) (rY t vw)) E U M:=h
def Il{t:T3}{g:zK}{E:yE}{U:rH}{M:Mp}(h:t U M λd M'=>g d U M' E.nx):rm t g E U M:=h
def Gw:rf:=λds M Q=>Ju λx m wy B n=>ds=[.str x,.int m,.int wy]/\AK B n x/\B<=1000/\n<=90/\∀y,AK (2*B+2) (n+1) y->Q (.str y) M
def DE:Fq P w K mg base 2 a.aF Gw:=by
 refine fq G.aF.toDG nS (λr u=>⟨_,(Gm (JY (i:=3) nS.nd rfl (Or.inl rfl) (FX v0))
 (rP (mT 4 nS (mL (mL V1 mE) (mJ mZ rfl G.e mY (nP V3))))
 (rP (nB (mW u V2 mE)
 (mG (mM (pH mK (nP (mL (nE V3 nA (nj v4)) (nE V3 (nj (mL v4 mE)) nA))))))
 mR)
 (rP (nB (mW u V2 mE)
 (mG (mM (pH mK (nP (mL (mL (nE V3 nA (nj v4)) (qv (nP (mX V3 v4)))) (nE V3 (nj v4) nA))))))
 mR)
 (rP (nB (mW u V2 mE)
 (mF (mT 5 nS (mL (nE V3 nA (nj v4)) (nE V3 (nj (mL v4 mE)) nA)))
 (mF (mV (vE v5 (qd (mL (mL V1 mE) (mL (mJ mZ rfl G.e mY (nP v5)) mE)) (mX V3 v4))))
 (mG (mM (pH mK (nP v5))))))
 mR)
 (rP (mT 6 nS (rj (mX V3 v4) (nP mK)))
 (rP (mT 7 nS (mL (mL V1 mE) (mJ mZ rfl G.e mY (nP v6))))
 (DI (Lc (i:=8) nS.nd rfl (Or.inl rfl) (FF (C5 v0) (nP mK)))
 (mF (nB (mW u V2 mE)
 (mG (mT 6 nS (mL (nE v6 nA (nj v7)) (nE v6 (nj (mL v7 mE)) nA))))
 (mG (nB (mW u V2 mE)
 (mG (mV (vE v6 (qd v7 (mX v6 v7)))))
 (mG (Bk (mX v8 (mL (mL V1 mE) (mJ mZ rfl G.e mY (nP v8)))) (Od v6 v7))))))
 (mG (mM (pH mK (nP (mL (mL (nE V3 nA (nj v4)) (qv (nP (pH mK (nP v6))))) (nE V3 (nj (mL v4 mE)) nA))))))))))))))),?_⟩)
 rintro ds M Q ⟨x,m,wy,B,n,rfl,tb,hB,hn,q⟩
 have zz:=cP;obtain⟨h1,h2⟩:=tb.rows;obtain⟨w1,w2⟩:=Ep tb;have xl:x.length<=100000:=by have:=tb.len;have:=gC (show n+1<=91 by lia) (show B+1<=1001 by lia);lia
 have SJ:=L3.pW x "\n";have sne:=L3.pW (Txt.replace x "\n" " ") " ";refine yJ (t:=rm _ _) (λU M'=>nJ M M'/\∃r,M r=none/\lO M' r=some ((Txt.split x "\n").map D.str)/\U=[some (.str x),some (.int m),some (.int wy),some (.ref r),none,none,none,none,none]) (λnx h=>⟨rfl,by lia,by lia,λp hp=>h _ _ ⟨.new hp,p,hp,mI,rfl⟩⟩) ?_
 rintro U M1 ⟨s1,r,hr,lr,rfl⟩
 generalize Txt.split x "\n"=L at h1 h2 SJ lr;have l0:0<L.length:=dE.mpr SJ;refine yJ (t:=rm _ _) (λU M'=>M1=M'/\∃k:Nat,k<L.length/\U=[some (.str x),some (.int m),some (.int wy),some (.ref r),some (.int (k:Nat)),none,none,none,none]) (λnx h=>?_) ?_
 .have el:((L.map D.str).length:Int)=L.length:=by rw[bP]
  refine⟨⟨by decide,by decide⟩,i' lr ⟨by rw[el];lia,?_⟩⟩;rw[el];have k0:=cT (m / 3) (show(L.length:Int)≠0 by lia);have k1:=cO (m / 3) (show(0:Int)<L.length by lia);obtain⟨k,hk⟩:=cK k0;have hk:m / 3 % (L.length:Int)=(k:Nat):=hk;rw[hk]at k1 ⊢;exact h _ _ ⟨rfl,k,by lia,rfl⟩
 rintro U _ ⟨rfl,k,hk,rfl⟩
 have hL:∀p∈L,10∉p.cps.toList/\p.length<=2*B+2:=λp hp=>⟨(h1 p hp).1,by have:=(h1 p hp).2;lia⟩;have hm:=fF hk;have ek:(L.map D.str)[k]?=some (D.str L[k]):=by rw[cD,bZ hk];rfl
 have ak:tY (L.map D.str) (k:Nat)=some (D.str L[k]):=qI ek;generalize L[k]=z at hm ek ak;have kd:∀j p,p∈L.take k++L.drop j->p∈L:=λj p hp=>(c7.mp hp).elim dU eC;refine oo (c:=wy==4) (λ_=>?_) (λ_=>?_)
 .refine DQ (IW (k:=k) (j:=k+1) (λ_ _ h=>by exact h) (λ_ _ h=>by exact h) (λ_ _ h=>by exact h) lr (by lia) (by lia) (by lia) λp M' s _ lp=>?_);refine vd lp (λp hp=>hL p (kd _ p hp)) ?_ hB hn λy ty=>⟨M,s1.trans s,q y ty⟩;rw[bS,cQ,cU];lia
 refine oo (c:=wy==5) (λ_=>?_) (λ_=>?_)
 .refine DQ (HW (k:=k) (j:=k) (S:=λy=>y=z) (λ_ _ h=>by exact h) (λ_ _ h=>by exact h) (λ_ _ h=>by exact h) (λM' Q s h=>by exact i' (s.lst lr) (i' ak (h z rfl))) lr (by lia) (by lia) (by lia) λp M' y e s lp=>?_);refine vd lp (λp hp=>?_) ?_ hB hn λy ty=>⟨M,s1.trans s,q y ty⟩
  .rw[e]at hp;rcases c7.mp hp with hp|hp
   .rcases c7.mp hp with hp|hp
    .exact hL p (dU hp)
    .rw[c8.mp hp];exact hL z hm
   .exact hL p (eC hp)
  .rw[bS,bS,cQ,cU,cC];lia
 refine oo (c:=wy==6) (λ_=>?_) (λ_=>?_)
 .refine yJ (t:=rm _ _) (λU M'=>nJ M M'/\∃(p:Addr) (L':QQQ),M1 p=none/\lO M' r=some (L.map D.str)/\lO M' p=some (L'.map D.str)/\L'.length+1=L.length/\(∀p∈L',p∈L)/\U=[some (.str x),some (.int m),some (.int wy),some (.ref r),some (.int (k:Nat)),some (.ref p),none,none,none]) (λnx h=>?_) ?_
  .refine Il (IW (k:=k) (j:=k+1) (λ_ _ h=>by exact h) (λ_ _ h=>by exact h) (λ_ _ h=>by exact h) lr (by lia) (by lia) (by lia) λp M' s hp lp=>?_);refine h _ _ ⟨s1.trans s,p,_,hp,s.lst lr,lp,?_,kd _,rfl⟩;rw[bS,cQ,cU];lia
  rintro U M2 ⟨s2,p,L',hp,lr2,lp,ll,hL',rfl⟩
  have el:((L'.map D.str).length:Int)=L'.length:=by rw[bP]
  refine⟨by show(lO M2 p).isSome=true;rw[lp];rfl,⟨by decide,by decide⟩,i' lp ⟨by rw[el];lia,i' lr2 (i' ak ?_)⟩⟩;rw[el];have j0:=cT (m / 60) (show(L'.length:Int)+1≠0 by lia);have j1:=cO (m / 60) (show(0:Int)<L'.length+1 by lia);obtain⟨j,hj⟩:=cK j0;have hj:m / 60 % ((L'.length:Int)+1)=(j:Nat):=hj;rw[hj]at j1 ⊢;refine⟨by lia,by lia,i' lp ⟨by rw[bP];lia,by rw[bP];show j<=_;lia,?_⟩⟩;show vD (.str "\n") [.ref p] _ λd M'=>∃RW,nJ RW M'/\Q d RW;refine vd (ps:=L'.take j++z::L'.drop j) ?_ (λp hp=>?_) ?_ hB hn λy ty=>⟨M,wI s2 (B4 s1 hp),q y ty⟩
  .rw[cy,cY,gk,gj];exact mI
  .rcases c7.mp hp with hp|hp
   .exact hL p (hL' p (dU hp))
   .rcases bT.mp hp with rfl|hp
    .exact hL _ hm
    .exact hL p (hL' p (eC hp))
  .rw[bS,b8,cQ,cU];lia
 dsimp only[OM];obtain⟨Vg,hz2⟩:=h1 z hm;obtain⟨v1,v2⟩:=xn Vg;have vne:=L3.pW z " ";have vl:=BI (Txt.split z " ");have sl:=BI (Txt.split (Txt.replace x "\n" " ") " ");have rl:=yw x;refine yJ (t:=rm _ _) (λU M'=>nJ M1 M'/\∃p,M1 p=none/\lO M' p=some ((Txt.split z " ").map D.str)/\U=[some (.str x),some (.int m),some (.int wy),some (.ref r),some (.int (k:Nat)),none,some (.ref p),none,none]) (λnx h=>i' lr (i' ak ⟨rfl,by lia,by lia,λp hp=>h _ _ ⟨.new hp,p,hp,mI,rfl⟩⟩)) ?_
 rintro U M2 ⟨s2,p,hp,lp,rfl⟩
 generalize Txt.split z " "=W at v1 v2 vne vl lp;have W0:0<W.length:=dE.mpr vne;refine yJ (t:=rm _ _) (λU M'=>M2=M'/\∃j:Nat,j<W.length/\U=[some (.str x),some (.int m),some (.int wy),some (.ref r),some (.int (k:Nat)),none,some (.ref p),some (.int (j:Nat)),none]) (λnx h=>?_) ?_
 .have el:((W.map D.str).length:Int)=W.length:=by rw[bP]
  refine⟨⟨by decide,by decide⟩,i' lp ⟨by rw[el];lia,?_⟩⟩;rw[el];have k0:=cT (m / 60) (show(W.length:Int)≠0 by lia);have k1:=cO (m / 60) (show(0:Int)<W.length by lia);obtain⟨k,hk⟩:=cK k0;have hk:m / 60 % (W.length:Int)=(k:Nat):=hk;rw[hk]at k1 ⊢;exact h _ _ ⟨rfl,k,by lia,rfl⟩
 rintro U _ ⟨rfl,j,hj,rfl⟩
 refine yJ (t:=rm _ _) (λU M'=>nJ M2 M'/\∃p2,M2 p2=none/\lO M' p2=some ((Txt.split (Txt.replace x "\n" " ") " ").map D.str)/\U=[some (.str x),some (.int m),some (.int wy),some (.ref r),some (.int (k:Nat)),none,some (.ref p),some (.int (j:Nat)),some (.ref p2)]) (λnx h=>⟨by lia,rfl,by lia,by lia,λp hp=>h _ _ ⟨.new hp,p,hp,mI,rfl⟩⟩) ?_
 rintro U M3 ⟨s3,p2,SL,lp2,rfl⟩
 generalize Txt.split (Txt.replace x "\n" " ") " "=S at w1 w2 sne sl lp2;have S0:0<S.length:=dE.mpr sne;have s13:=s2.trans s3;have lp3:=s3.lst lp;have jt:=OJ W j;have jn:=JM hj;have jm:=fF hj;have ej:(W.map D.str)[j]?=some (D.str W[j]):=by rw[cD,bZ hj];rfl
 have aj:tY (W.map D.str) (j:Nat)=some (D.str W[j]):=qI ej;generalize W[j]=y at jm ej aj;have jy:=Bz jm;have ins:∀(u:Str),32∉u.cps.toList/\10∉u.cps.toList->∀i v,v∈W.take j++u::W.drop i->32∉v.cps.toList/\10∉v.cps.toList:=λu hu i v hv=>by
  rcases c7.mp hv with hv|hv
  .exact v2 v (dU hv)
  .rcases bT.mp hv with rfl|hv
   .exact hu
   .exact v2 v (eC hv)
 refine yJ (t:=Nf _ _ _) (λU M'=>nJ M1 M'/\∃(p3:Addr) (W':QQQ),lO M' p3=some (W'.map D.str)/\(∀v∈W',32∉v.cps.toList/\10∉v.cps.toList)/\jl W'<=2*B+3/\U=[some (.str x),some (.int m),some (.int wy),some (.ref r),some (.int (k:Nat)),none,some (.ref p3),some (.int (j:Nat)),some (.ref p2)]) (λnx h=>?_) ?_
 .refine oo (c:=wy==7) (λ_=>?_) (λ_=>oo (c:=wy==8) (λ_=>?_) (λ_=>?_))
  .refine Il (IW (k:=j) (j:=j+1) (λ_ _ h=>by exact h) (λ_ _ h=>by exact h) (λ_ _ h=>by exact h) lp3 (by lia) (by lia) (by lia) λp M' s hp lp=>?_);refine h _ _ ⟨s13.trans s,p,_,lp,λv hv=>?_,?_,rfl⟩
   .exact v2 v ((c7.mp hv).elim dU eC)
   .rw[uu];lia
  .refine⟨by show(lO M3 p).isSome=true;rw[lp3];rfl,i' lp3 (i' aj ⟨by lia,by lia,i' lp3 ⟨by rw[bP];lia,by rw[bP];show j<=_;lia,?_⟩⟩)⟩;refine h _ _ ⟨wI s13 hp,p,W.take j++y::W.drop j,?_,ins y (v2 y jm) j,?_,rfl⟩
   .rw[cy,cY,gk,gj];exact mI
   .rw[GM];lia
  .have el:((S.map D.str).length:Int)=S.length:=by rw[bP]
   refine⟨⟨by decide,by decide⟩,i' lp2 ⟨by rw[el];lia,?_⟩⟩;rw[el];have k0:=cT (m / 997) (show(S.length:Int)≠0 by lia);have k1:=cO (m / 997) (show(0:Int)<S.length by lia);obtain⟨i,hi⟩:=cK k0;have hi:m / 997 % (S.length:Int)=(i:Nat):=hi;rw[hi]at k1 ⊢;have hi:i<S.length:=by lia
   have ei:(S.map D.str)[i]?=some (D.str S[i]):=by rw[cD,bZ hi];rfl
   obtain⟨u1,u2,u3⟩:=w2 _ (fF hi);refine i' lp2 (i' (qI ei) (i' lp3 (i' (MF (by rw[bP];exact hj)) ?_)));generalize S[i]=u at u1 u2 u3;refine h _ _ ⟨wI s13 hp,p,W.take j++u::W.drop (j+1),?_,ins u ⟨u1,u2⟩ (j+1),?_,rfl⟩
   .rw[mI,show W.take j++u::W.drop (j+1)=W.set j u by rw[List.set_eq_take_append_cons_drop,b9 hj],List.map_set]
   .rw[GM];lia
 rintro U M4 ⟨s4,p3,W',lp4,hW,hj4,rfl⟩
 refine DQ (HW (k:=k) (j:=k+1) (S:=λy=>10∉y.cps.toList/\y.length<=2*B+2) (λ_ _ h=>by exact h) (λ_ _ h=>by exact h) (λ_ _ h=>by exact h) (λM' Q s h=>by exact DR (s.lst lp4) hW hj4 hB λy y1 y2=>h y ⟨y1,y2⟩) (s4.lst lr) (by lia) (by lia) (by lia) λp M' y hy s lp=>?_);refine vd lp (λp hp=>?_) ?_ hB hn λy ty=>⟨M,s1.trans (s4.trans s),q y ty⟩
 .rcases c7.mp hp with hp|hp
  .rcases c7.mp hp with hp|hp
   .exact hL p (dU hp)
   .rw[c8.mp hp];exact hy
  .exact hL p (eC hp)
 .rw[bS,bS,cQ,cU,cC];lia
def GZ{pn nm:QQQ}{v:Wi}(h:tV pn nm v):(v.told.flatMap nu).length<=8:=by
 cases v with
 | bar x ns=>show(nu (.str "bar")++(nu (.str x)++(nu (names ns)++[]))).length<=8;rw[oS];have:=(oH h.2.2).1;simp only[bS,cA];show 1+(1+(ns.length+0))<=8;lia
 | shut x ns=>show(nu (.str "shut")++(nu (.str x)++(nu (names ns)++[]))).length<=8;rw[oS];have:=(oH h.2.2).1;simp only[bS,cA];show 1+(1+(ns.length+0))<=8;lia
 | always x y=>exact(by decide:3<=8)
 | night x y f t=>exact(by decide:5<=8)
 | busy x y=>exact(by decide:3<=8)
 | silent x y n=>exact(by decide:4<=8)
 | wait x=>exact(by decide:2<=8)
 | breaks x=>exact(by decide:2<=8)
def Ln{l:ng}(ok:oM l){ds:V0 D}(h:ds∈sJ l):(ds.flatMap nu).length<=9:=by
 rcases Av h with⟨p,hp,rfl⟩|⟨g,hg,rfl⟩|⟨w,hw,rfl⟩
 .exact(by decide:4<=9)
 .have:=(oH (ok.go g hg).mem).1;show(nu (.str "group")++(nu (.str g.1)++(nu (.str g.2.1)++(nu (names g.2.2)++[])))).length<=9;rw[oS];simp only[bS,cA];show 1+(1+(1+(g.2.2.length+0)))<=9;lia
 .have o:=ok.wo w hw;obtain⟨on,v⟩:=w;have this:(v.told.flatMap nu).length<=8:=GZ o;cases on with
  | true=>exact Nat.le_succ_of_le this
  | false=>show(nu (.str "off")++v.told.flatMap nu).length<=9;rw[bS];show 1+_<=9;lia
def Kp{l:ng}(ok:oM l):AK 100 27 (qL l):=by unfold qL;refine AK.of (λp hp=>?_) (by have:=(CW ok).1;lia);rw[vH]at hp;obtain⟨ds,hd,rfl⟩:=cj.mp hp;have rp:=(ve ok hd).2;refine⟨sj λw hw=>(rp w hw).1,?_⟩;obtain⟨⟨k,es,e⟩,_⟩:=ve ok hd;have h1:=tW 32 (ds.flatMap nu) (by rw[e];exact c9 _ _);have h2:=Ij (B:=6) (ds.flatMap nu) λp hp=>(rp p hp).2;have h3:=Ln ok hd;unfold rJ;rw[xQ];lia
def AK.readable{x:Str}(h:AK 814 30 x):∃R,rF R/\x=oO R:=by
 obtain⟨h1,h2⟩:=h.rows;have jw:∀r,Str.join " " (Txt.split r " ")=r:=λr=>dR r " ";refine⟨(Txt.split x "\n").map λr=>Txt.split r " ",⟨λz=>L3.pW _ _ (jJ.mp z),by rw[bP];lia,λws hw=>?_,λws hw=>?_⟩,?_⟩
 .obtain⟨r,hr,rfl⟩:=cj.mp hw;obtain⟨r1,r2⟩:=h1 r hr;obtain⟨w1,w2⟩:=xn r1;have l:=BI (Txt.split r " ");refine⟨L3.pW _ _,by lia,λw hw=>⟨(w2 w hw).1,(w2 w hw).2,?_⟩⟩;have:=Bz hw;lia
 .obtain⟨r,hr,rfl⟩:=cj.mp hw;rw[jw];have:=(h1 r hr).2;lia
 .unfold oO;rw[cB,show(Str.join " "∘λr=>Txt.split r " ")=id from funext jw,kT];exact(dR x "\n").symm
def Kz:rf:=λds M Q=>yZ λon es=>ds=[.bl on,.tup es]/\vC (.str "off"::es)/\Q (.str (rJ (wJ on++es))) M
def HY:rf:=λds M Q=>Gc λr1 r2 r3 (l:ng)=>ds=[.ref r1,.ref r2,.ref r3]/\lO M r1=some (l.kW.map nV)/\lO M r2=some (l.groups.map nN)/\lO M r3=some (l.kY.map pS)/\oM l/\Q (.str (qL l)) M
def Dk(n a b:Str):("phone ":Str)++n++" "++a++" "++b=Str.join " " ["phone",n,a,b]:=by
 have e:("phone ":Str)=("phone":Str)++(" ":Str):=by decide+kernel
 show _=("phone":Str)++" "++(n++" "++(a++" "++b));rw[e];simp only[Str.append_assoc]
noncomputable def HX(d:D):D:=match d with
 | .tup [.str n,.int a,.int b]=>.str (rJ [.str "phone",.str n,.int a,.int b])
 | _=>.k9
noncomputable def G'(d:D):D:=match d with
 | .tup [.bl on,.tup es]=>.str (rJ (wJ on++es))
 | _=>.k9
def LZ(ps:List pF):(ps.map nV).map HX=(ps.map pV).map D.str:=by rw[cB,cB];rfl
def ME(ws:List qu):(ws.map pS).map G'=(ws.map tZ).map D.str:=by rw[cB,cB];rfl
def Ke:Fq P w K mg base 1 a.ay Kz:=by
 refine fq G.ay.toDG tX (λr u=>⟨_,(mF (mT 2 tX (qv rV))
 (mF (qM dI rfl (nR V1) (om 3 tX)
 (mG (nB (qU (mJ xj rfl G.F pE (qd V3 (ES rfl G.r qN))))
 (mG (mT 2 tX (mL V2 (nK wU rfl G.am wG (nP V3)))))
 (mG (mV (oA V2 (nP (nK yX rfl G.al zk (nP V3)))))))))
 (mG (mM (pH mK (nP (mL (NK (qv (nP mK)) (nK NS rfl G.aJ A9 (nP (L7 v0)))) V2))))))),?_⟩)
 rintro ds M Q ⟨on,es,rfl,ho,q⟩
 have hz:=cP;have hl10:=ho.1;rw[b8]at hl10;have T8:∀d∈es,sD d:=λd hd=>ho.2 d (ci _ hd);refine⟨lP rfl,λr0 UN=>?_⟩;obtain⟨M0,e0,s0,c0⟩:=tR (ds:=[]) UN;rw[<-e0];refine si es (λpre U M'=>∃r y,nJ M M'/\M r=none/\lO M' r=some (((es.take pre.length).flatMap nu).map D.str)/\U=[some (.bl on),some (.tup es),some (.ref r),y]) (λ_ _ _ _=>trivial) _ [] _ _ rfl ⟨r0,none,s0,UN,c0,rfl⟩ ?_ ?_
 .rintro pre d post e U M' ⟨r,y,s1,hr,c1,rfl⟩ nx Sm
  obtain⟨hd,et⟩:=Es e;have hp:=T8 d hd;have T5:(((es.take pre.length).flatMap nu).map D.str).length<=60:=by rw[bP];have:=(rS (ds:=es.take pre.length) λx hx=>T8 x (dU hx)).1;rw[cQ]at this;lia
  rw[bS,cC]at Sm;have HD:∀ws:QQQ,nu d=ws->((es.take pre.length).flatMap nu).map D.str++ws.map D.str=((es.take (pre.length+1)).flatMap nu).map D.str:=λws ew=>by rw[et,hZ,cy];show _=_++(nu d++[]).map D.str;rw[cJ,ew]
  have il:CD M' (.ref r):=by show(lO M' r).isSome=true;rw[c1];rfl
  have app:∀x,nu d=[x]->nx [some (.bl on),some (.tup es),some (.ref r),some d] (mS M' r (.lst (((es.take pre.length).flatMap nu).map D.str++[.str x]))):=λx ex=>Sm _ _ ⟨r,_,λz c h=>by rw[pL (HB h hr)];exact s1 z c h,hr,by rw[<-HD [x] ex];exact mI,rfl⟩;rcases id hp with⟨x,rfl,hx⟩|⟨i,rfl,h0,h1⟩|⟨ns,rfl,hns,_⟩
  .exact⟨λC z=>(by cases z),i' G.aR (wg ⟨il,i' c1 ⟨by lia,app x rfl⟩⟩)⟩
  .exact⟨λC z=>(by cases z),i' G.aS (wg ⟨il,yr h0 h1,i' c1 ⟨by lia,app _ rfl⟩⟩)⟩
  .refine⟨λC z=>(by cases z),i' G.aT (yD λp1 Tq=>?_)⟩;have u1:=nJ.new (c:=.lst (ns.map D.str)) Tq;refine i' (u1.lst c1) (i' mI ⟨by rw[bP]at T5 ⊢;rw[bP];lia,λp2 SL=>?_⟩);have u2:=s1.trans (u1.trans (nJ.new (c:=.lst (((es.take pre.length).flatMap nu).map D.str++ns.map D.str)) SL));refine Sm _ _ ⟨p2,_,u2,(s1.trans u1).none SL,?_,rfl⟩;rw[<-HD ns (qV ns)];exact mI
 .rintro U M' ⟨r,y,s1,hr,c1,rfl⟩
  rw[dC]at c1;refine⟨lP rfl,λq1 TM=>?_⟩;have u1:=nJ.new (c:=.lst [.str "off"]) TM;have hj:(0:Int)<=(if (!on)=true then 1 else 0)/\(if (!on)=true then(1:Int)else 0)<=1000:=by cases on<;>decide
  refine i' mI ⟨⟨hj.1,hj.2,by show 1<=1000;decide⟩,λq2 Uw=>?_⟩;have eo:(List.replicate (if (!on)=true then(1:Int)else 0).toNat [D.str "off"]).flatten=((wJ on).flatMap nu).map D.str:=by cases on<;>rfl
  rw[eo];have u2:=nJ.new (c:=.lst (((wJ on).flatMap nu).map D.str)) Uw;have wl:=(rS T8).1;have lo:(((wJ on).flatMap nu).map D.str).length<=1:=by cases on<;>decide
  refine i' rfl (i' mI (i' ((u1.trans u2).lst c1) ⟨by rw[bP (as:=es.flatMap nu)];lia,λq3 hq3=>?_⟩));have ec:((wJ on).flatMap nu).map D.str++(es.flatMap nu).map D.str=((wJ on++es).flatMap nu).map D.str:=by rw[hZ,cy]
  rw[ec];exact xw (E7 ho) mI ⟨M,s1.trans (u1.trans (u2.trans (.new hq3))),q⟩
def IG:Fq P w K mg base 2 a.az HY:=by
 refine fq G.az.toDG ur (λr u=>⟨_,(mF (qh (i:=3) ur.nd rfl (Or.inl rfl) rfl (Af (ix:=[none,none,none]) (N':=["_law_name","_law_lines","_law_rank"])) (nR v0) (pT (n:=3) rfl (mQ (nw 0) (mQ (nw 1) (mQ (nw 2) oY)))) oz (mL (mL (mL (mL (mL mK v0) mK) (nK yX rfl G.al zk (nP V1))) mK) (nK yX rfl G.al zk (nP V2))))
 (mF (mT 3 ur (mL V3 (oI rfl (Af (ix:=[none,none,none]) (N':=["_law_name","_law_manner","_law_members"])) (nR V1) (pT (n:=3) rfl (mQ (nw 0) (mQ (nw 1) (mQ (nw 2) oY)))) oz (pH mK (nP (mL (qv (qF mK v0 V1)) (nK wU rfl G.am wG (nP V2))))))))
 (mG (mM (pH mK (nP (mL V3 (oI rfl (Af (ix:=[none,none]) (N':=["_law_on","_law_told"])) (nR V2) (pT (n:=2) rfl (mQ (nw 0) (mQ (nw 1) oY))) oz (mP (Ke G) r G.ay (qd v0 V1)))))))))),?_⟩)
 rintro ds M Q ⟨r1,r2,r3,l,rfl,e1,e2,e3,ok,q⟩
 have hz:=cP;have h1:=ok.p8;have h2:=ok.g3;have h3:=ok.mw;refine i' e1 (su (f:=HX) (λU=>∃x y z,U=[x,y,z]) e1 _ [] _ ⟨_,_,_,rfl⟩ (by rw[bP];simp only[cA];lia) (λd hd U hδ k hk=>?_) λq1 TM=>?_)
 .obtain⟨x,y,z,rfl⟩:=hδ;obtain⟨v,hv,rfl⟩:=cj.mp hd;have po:=ok.po v hv;have l1:=po.len;have l2:=A2 (i:=v.2.1) (by have:=po.l1;lia) (by have:=po.l2;lia);have l3:=A2 (i:=v.2.2) po.r1 (by have:=po.r2;lia);have p6:("phone ":Str).length=6:=rfl;have p1:(" ":Str).length=1:=rfl;refine⟨rfl,?_⟩;refine⟨by lia,by rw[cR];lia,yr (by have:=po.l1;lia) (by have:=po.l2;lia),by rw[cR,cR];lia,by rw[cR,cR,cR];lia,yr po.r1 (by have:=po.r2;lia),by rw[cR,cR,cR,cR];lia,?_⟩;have e:("phone ":Str)++v.1++" "++(Str.ofString (toString v.2.1))++" "++(Str.ofString (toString v.2.2))=pV v:=Dk _ _ _;rw[e];exact hk _ ⟨_,_,_,rfl⟩
 rw[cG,LZ];obtain⟨M1,e0,s1,c1⟩:=tR (ds:=(l.kW.map pV).map D.str) TM;rw[<-e0];have g3:=s1.lst e2;refine i' g3 ?_;refine va (l.groups.map nN) (λpre acc U M'=>nJ M1 M'/\acc=pre.map (CM "group")/\∃x y z,U=[x,y,z]) (λ_ _ _ _ j=>j.1.lst g3) _ [] [] _ _ rfl (by rw[bP];simp only[cA];lia) ⟨.refl,rfl,_,_,_,rfl⟩ ?_ ?_
 .rintro pre d post e acc U M' ⟨sx,rfl,x,y,z,rfl⟩ k hk
  have hd:d∈l.groups.map nN:=by rw[<-e];simp
  obtain⟨v,hv,rfl⟩:=cj.mp hd;have go:=ok.go v hv;obtain⟨d1,d2⟩:=oH go.mem;refine⟨rfl,lP rfl,λp1 Tq=>λp2 SL=>?_⟩;have u1:=nJ.new (c:=.lst [.str "group",.str v.1,.str v.2.1]) Tq;have u2:=nJ.new (c:=.lst (v.2.2.map D.str)) SL;refine i' (u2.lst mI) (i' mI ⟨by rw[bP];show 3+v.2.2.length<=sizeLine;lia,λp3 Ug=>?_⟩);have ec:[D.str "group",.str v.1,.str v.2.1]++v.2.2.map D.str=(([D.str "group",.str v.1,.str v.2.1,names v.2.2]).flatMap nu).map D.str:=by show _=([("group":Str)]++([v.1]++([v.2.1]++(uA (v.2.2.map D.str)++[])))).map D.str;rw[qV,cJ];rfl
  rw[ec];refine xw (t9 ok go) mI ?_;exact hk _ _ _ ⟨sx.trans (u1.trans (u2.trans (.new Ug))),by rw[cy];rfl,_,_,_,rfl⟩
 rintro acc U M2 ⟨s2,rfl,_⟩ q2 Uw
 rw[xN];have t2:=s2.trans (nJ.new (c:=.lst ((l.groups.map pb).map D.str)) Uw);refine i' (t2.lst c1) (i' mI ⟨by rw[bP,bP,bP,bP];lia,λq3 hq3=>?_⟩);rw[<-cy];have s3:=s1.trans (t2.trans (nJ.new (c:=.lst ((l.kW.map pV++l.groups.map pb).map D.str)) hq3));have c3:=@mI (mS M2 q2 (.lst ((l.groups.map pb).map D.str))) q3 ((l.kW.map pV++l.groups.map pb).map D.str);generalize mS (mS M2 q2 (.lst ((l.groups.map pb).map D.str))) q3 (.lst ((l.kW.map pV++l.groups.map pb).map D.str))=M3 at s3 c3 ⊢;have w3:=s3.lst e3;refine i' w3 (su (f:=G') (λU=>∃x y,U=[x,y]) w3 _ [] _ ⟨_,_,rfl⟩ (by rw[bP];simp only[cA];lia) (λd hd U hδ k hk=>?_) λq4 hq4=>?_)
 .obtain⟨x,y,rfl⟩:=hδ;obtain⟨v,hv,rfl⟩:=cj.mp hd;exact⟨rfl,v.1,_,rfl,uO ok (ok.wo v hv),hk _ ⟨_,_,rfl⟩⟩
 rw[cG,ME];have t4:=nJ.new (c:=.lst ((l.kY.map tZ).map D.str)) hq4;refine i' (t4.lst c3) (i' mI ⟨?_,λq5 hq5=>?_⟩)
 .rw[bP,bS,bP,bP,bP,bP];lia
 rw[<-cy];exact Au ok mI ⟨M,s3.trans (t4.trans (.new hq5)),q⟩
noncomputable def rL:QQQ:=["off","phone","group","all","turns","bar","wait","night","hour","a","busy"]
noncomputable def qS(at0' k:Int):Str:=wF rL ((at0'+k) % 11)
noncomputable def rk(c:Int)(nm:QQQ):V0 (Str×Str):=(List.range nm.length).map λi=>(nm.getD i Str.empty,qS c (i:Nat))
noncomputable def qr(t:V0 (Str×Str))(x:Str):Str:=(t.lookup x).getD x
noncomputable def Wi.lH(f:Str->Str):Wi->Wi
 | .bar x ns=>.bar (f x) (ns.map f)
 | .shut x ns=>.shut (f x) (ns.map f)
 | .always x y=>.always (f x) (f y)
 | .night x y a b=>.night (f x) (f y) a b
 | .busy x y=>.busy (f x) (f y)
 | .silent x y n=>.silent (f x) (f y) n
 | .wait x=>.wait (f x)
 | .breaks x=>.breaks (f x)
noncomputable def ng.lH(f:Str->Str)(l:ng):ng:=⟨l.kW.map λp=>(f p.1,p.2),l.groups.map λg=>(f g.1,g.2.1,g.2.2.map f),l.kY.map λw=>(w.1,w.2.lH f)⟩
def DM(f:Str->Str)(l:ng):(l.lH f).pn=l.pn.map f:=by show(l.kW.map _).map _=(l.kW.map _).map f;rw[cB,cB];rfl
def Mb(f:Str->Str)(l:ng):(l.lH f).gn=l.gn.map f:=by show(l.groups.map _).map _=(l.groups.map _).map f;rw[cB,cB];rfl
def HN(f:Str->Str)(l:ng):(l.lH f).nm=l.nm.map f:=by show(l.lH f).pn++(l.lH f).gn=(l.pn++l.gn).map f;rw[DM,Mb,cy]
def Et{ss:QQQ}{x:Str}(h:x∈ss):sZ ss x:=e7.mpr ⟨x,h,by simp⟩
def qA{f:Str->Str}{ss:QQQ}{x:Str}(h:sZ ss x):sZ (ss.map f) (f x):=Et (cj.mpr ⟨x,nM h,rfl⟩)
theorem Jc:∀(l acc:QQQ),(l.foldl (λacc k=>if k∈acc then acc else acc++[k]) acc).length<=acc.length+l.length
 | [],acc=>by simp
 | k::r,acc=>by
  rw[dQ];refine di (Jc r _) ?_;split
  .simp only[b8];lia
  .simp only[b8,bS,cA];lia
theorem Io:∀(l acc:QQQ),acc.Nodup->(l.foldl (λacc k=>if k∈acc then acc else acc++[k]) acc).length=acc.length+l.length->(acc++l).Nodup
 | [],acc,h,_=>by rw[cJ];exact h
 | k::r,acc,h,e=>by
  rw[dQ]at e;by_cases hk:k∈acc
  .rw[b9 hk]at e;have:=Jc r acc;simp only[b8]at e;lia
  .rw[bV hk]at e;have nd:(acc++[k]).Nodup:=dZ.mpr ⟨h,by simp,λa ha b hb=>by
    rw[c8.mp hb];exact λz=>hk (z ▸ ha)⟩
   have:=Io r (acc++[k]) nd (by rw[e,bS,b8,cC];lia);rw[df]at this;exact this
def yG{ss:QQQ}(h:(qe ss).length=ss.length):ss.Nodup:=by
 have:=Io ss [] gE (by show(qe ss).length=_;rw[h];simp)
 simpa using this
def Du{ss:QQQ}(h:pf ss=true):ss.Nodup:=by
 unfold pf at h;have h:((qe ss).length:Int)=(ss.length:Int):=by simpa using h
 exact yG (by lia)
theorem B2{f:Str->Str}:∀{ss:QQQ},(∀x∈ss,∀y∈ss,f x=f y->x=y)->ss.Nodup->(ss.map f).Nodup
 | [],_,_=>gE
 | x::r,inj,h=>by obtain⟨h1,h2⟩:=eV.mp h;rw[cY];refine eV.mpr ⟨λz=>?_,B2 (λa ha b hb=>inj a (ci _ ha) b (ci _ hb)) h2⟩;obtain⟨y,hy,e⟩:=cj.mp z;exact h1 (inj y (ci _ hy) x ck e ▸ hy)
def Ay{f:Str->Str}{ss all:QQQ}(inj:∀x∈all,∀y∈all,f x=f y->x=y)(hs:∀x∈ss,x∈all)(h:ss.Nodup):(ss.map f).Nodup:=B2 (λx hx y hy e=>inj x (hs x hx) y (hs y hy) e) h
def vG{f:Str->Str}{cs ks all:QQQ}{m:Int}(inj:∀x∈all,∀y∈all,f x=f y->x=y)(hk:∀x∈ks,x∈all)(h:mO cs ks m=true):mO (cs.map f) (ks.map f) m=true:=by have⟨c1,c2⟩:=oH h;unfold mO at h ⊢;simp only[bR,fA,cL]at h ⊢;rw[bP];refine⟨h.1,h.2.1,vo (Ay inj (λx hx=>hk x (c2 x hx)) (Du h.2.2.1)),λx hx=>?_⟩;obtain⟨y,hy,rfl⟩:=cj.mp hx;exact Et (cj.mpr ⟨y,c2 y hy,rfl⟩)
def Md{f:Str->Str}{l:ng}(ok:oM l)(inj:∀x∈l.nm,∀y∈l.nm,f x=f y->x=y)(nms:∀x∈l.nm,nk (f x)=true/\(f x).length<=1000):oM (l.lH f):=by
 have inp:∀x∈l.pn,x∈l.nm:=λx hx=>sE hx;refine⟨by show 1<=(l.kW.map _).length;rw[bP];exact ok.p1,by show(l.kW.map _).length<=8;rw[bP];exact ok.p8,λp hp=>?_,by show(l.groups.map _).length<=3;rw[bP];exact ok.g3,λg hg=>?_,?_,by show(l.kY.map _).length<=16;rw[bP];exact ok.mw,λw hw=>?_⟩
 .obtain⟨q,hq,rfl⟩:=cj.mp hp;have k:=ok.po q hq;have n:=nms q.1 (inp _ (cj.mpr ⟨q,hq,rfl⟩));exact⟨n.2,n.1,k.l1,k.l2,k.r1,k.r2⟩
 .obtain⟨q,hq,rfl⟩:=cj.mp hg;have k:=ok.go q hq;have n:=nms q.1 (cV _ (cj.mpr ⟨q,hq,rfl⟩));rw[DM];exact⟨n.2,n.1,k.man,by show(q.2.2.map f).length<4000;rw[bP];exact k.lP,vG inj inp k.mem⟩
 .rw[HN];exact Ay inj (λx hx=>hx) ok.nd
 .obtain⟨q,hq,rfl⟩:=cj.mp hw;have k:=ok.wo q hq;show tV (l.lH f).pn (l.lH f).nm (q.2.lH f);rw[DM,HN];have ne:∀{x y:Str},sZ l.nm x->sZ l.nm y->x≠y->f x≠f y:=λhx hy n e=>n (inj _ (nM hx) _ (nM hy) e);generalize q.2=v at k ⊢;cases v with
  | bar x ns=>exact⟨qA k.1,by rw[bP];exact k.2.1,vG inj (λx hx=>hx) k.2.2⟩
  | shut x ns=>exact⟨qA k.1,by rw[bP];exact k.2.1,vG inj inp k.2.2⟩
  | always x y=>exact⟨qA k.1,qA k.2.1,ne k.1 k.2.1 k.2.2⟩
  | night x y a b=>exact⟨qA k.1,qA k.2.1,ne k.1 k.2.1 k.2.2.1,k.2.2.2⟩
  | busy x y=>exact⟨qA k.1,qA k.2.1,ne k.1 k.2.1 k.2.2⟩
  | silent x y n=>exact⟨qA k.1,qA k.2.1,ne k.1 k.2.1 k.2.2.1,k.2.2.2⟩
  | wait x=>exact qA k
  | breaks x=>exact qA k
def Cp{c:Int}{nm:QQQ}(nd:nm.Nodup){i:Nat}{x:Str}(h:nm[i]?=some x):(rk c nm).lookup x=some (qS c (i:Nat)):=by
 have hi:i<nm.length:=(bW.mp h).1;have ex:nm[i]=x:=(bW.mp h).2;unfold rk;have go:∀(l:V0 Nat),i∈l->(∀j∈l,j<nm.length)->(l.map λj=>(nm.getD j Str.empty,qS c (j:Nat))).lookup x=some (qS c (i:Nat)):=λl=>by
  induction l with
  | nil=>intro hm;cases hm
  | cons j r ih=>
   intro hm hl;rw[cY,dg];have hj:j<nm.length:=hl j ck;have ej:nm.getD j Str.empty=nm[j]:=by simp[hj]
   by_cases hji:j=i
   .subst hji;have:(x==nm.getD j Str.empty)=true:=by rw[ej,ex];simp
    rw[this]
   .have:(x==nm.getD j Str.empty)=false:=by rw[ej];refine dN.mpr λz=>hji ?_;exact(iC nd).mp (z.symm.trans ex.symm)
    rw[this];refine ih ?_ λk hk=>hl k (ci _ hk);rcases bT.mp hm with z|z
    .exact absurd z.symm hji
    .exact z
 exact go _ (eA.mpr hi) λj hj=>eA.mp hj
def Gp{c k:Int}:nk (qS c k)=true/\(qS c k).length<=1000:=by
 have h0:0<=(c+k) % 11:=cT _ (by decide);have h1:(c+k) % 11<11:=cO _ (by decide);unfold qS;obtain⟨n,hn⟩:=cK h0;rw[hn]at h1 ⊢;have key:∀n:_root_.Fin 11,nk (wF rL ((n.val:Nat):Int))=true/\(wF rL ((n.val:Nat):Int)).length<=1000:=by decide+kernel
 exact key ⟨n,by lia⟩
def DN{c:Int}{i j:Nat}(hi:i<11)(hj:j<11)(h:qS c (i:Nat)=qS c (j:Nat)):i=j:=by
 have a0:0<=(c+(i:Nat)) % 11:=cT _ (by decide);have a1:(c+(i:Nat)) % 11<11:=cO _ (by decide);have b0:0<=(c+(j:Nat)) % 11:=cT _ (by decide);have b1:(c+(j:Nat)) % 11<11:=cO _ (by decide);have key:∀n m:_root_.Fin 11,wF rL ((n.val:Nat):Int)=wF rL ((m.val:Nat):Int)->n=m:=by decide+kernel
 unfold qS at h;obtain⟨n,hn⟩:=cK a0;obtain⟨m,hm⟩:=cK b0;rw[hn,hm]at h;have:=key ⟨n,by lia⟩ ⟨m,by lia⟩ h;have:n=m:=dJ _root_.Fin.val this;lia
def yu{c:Int}{nm:QQQ}(nd:nm.Nodup){x:Str}(h:x∈nm):∃i,nm[i]?=some x/\i<nm.length/\qr (rk c nm) x=qS c (i:Nat)/\(rk c nm).lookup x=some (qS c (i:Nat)):=by obtain⟨i,hi⟩:=List.mem_iff_getElem?.mp h;have e:=Cp (c:=c) nd hi;exact⟨i,hi,(bW.mp hi).1,by unfold qr;rw[e];rfl,e⟩
def G4{c:Int}{l:ng}(ok:oM l):oM (l.lH (qr (rk c l.nm))):=by
 have hl:l.nm.length<=11:=by show(l.pn++l.gn).length<=11;have h1:=ok.p8;have h2:=ok.g3;rw[bS];show(l.kW.map _).length+(l.groups.map _).length<=11;rw[bP,bP];lia
 refine Md ok (λx hx y hy e=>?_) λx hx=>?_
 .obtain⟨i,i1,i2,i3,_⟩:=yu (c:=c) ok.nd hx;obtain⟨j,j1,j2,j3,_⟩:=yu (c:=c) ok.nd hy;rw[i3,j3]at e;have:=DN (by lia) (by lia) e;rw[this,j1]at i1;exact(ce i1).symm
 .obtain⟨i,i1,i2,i3,_⟩:=yu (c:=c) ok.nd hx;rw[i3];exact Gp
def NA:rf:=λds M Q=>Ju λ(ns:V0 Int) r1 r2 r3 (l:ng)=>ds=[.rl (ns.map D.int),.tup [.ref r1,.ref r2,.ref r3]]/\lO M r1=some (l.kW.map nV)/\lO M r2=some (l.groups.map nN)/\lO M r3=some (l.kY.map pS)/\oM l/\
 ∀(l':ng) (q1 q2 q3:Addr) (M':Mp),nJ M M'->oM l'->lO M' q1=some (l'.kW.map nV)->lO M' q2=some (l'.groups.map nN)->lO M' q3=some (l'.kY.map pS)->Q (.tup [.ref q1,.ref q2,.ref q3]) M'
noncomputable def AR(t:V0 (Str×Str)):V0 (oK×D):=t.map λp=>((Sum.inr p.1:oK),D.str p.2)
theorem CQ(x:Str):∀t:V0 (Str×Str),xc (AR t) (.inr x)=(t.lookup x).map D.str
 | []=>rfl
 | (k,v)::r=>by
  have ih:=CQ x r;rw[dg];by_cases h:k=x
  .subst h;have:(k==k)=true:=by simp
   rw[this];show((((Sum.inr k:oK),D.str v)::AR r).find? λp=>decide (p.1=Sum.inr k)).map (·.2)=_;rw[List.find?_cons_of_pos (by simp)];rfl
  .have:(x==k)=false:=dN.mpr (cH h);rw[this];show((((Sum.inr k:oK),D.str v)::AR r).find? λp=>decide (p.1=Sum.inr x)).map (·.2)=_;rw[jb (by simpa using h)];exact ih
theorem C9(i:Int):∀t:V0 (Str×Str),xc (AR t) (.inl i)=none
 | []=>rfl
 | (k,v)::r=>by show((((Sum.inr k:oK),D.str v)::AR r).find? λp=>decide (p.1=Sum.inl i)).map (·.2)=_;rw[jb (by simp)];exact C9 i r
def JN{t:V0 (Str×Str)}{x y:Str}(h:∀p∈t,p.1≠x):xF (AR t) (.inr x) (.str y)=AR (t++[(x,y)]):=by
 unfold xF;have:((AR t).any λkv=>decide (kv.1=Sum.inr x))=false:=by
  rw[j6];intro kv hkv;obtain⟨p,hp,rfl⟩:=cj.mp hkv
  simpa using h p hp
 rw[this,bV cg];unfold AR;rw[cy];rfl
def F7{c:Int}{nm:QQQ}{i:Nat}{x:Str}(h:nm[i]?=some x):(rk c nm).take (i+1)=(rk c nm).take i++[(x,qS c (i:Nat))]:=by
 have hi:i<nm.length:=(bW.mp h).1;have ex:nm[i]=x:=(bW.mp h).2;have:(rk c nm)[i]?=some (x,qS c (i:Nat)):=by unfold rk;rw[cD,hV hi];simp[hi,ex]
 rw[fz,this];rfl
def JC{c:Int}{nm:QQQ}(nd:nm.Nodup){i:Nat}{x:Str}(h:nm[i]?=some x):∀p∈(rk c nm).take i,p.1≠x:=λp hp e=>by
 have hi:i<nm.length:=(bW.mp h).1;have ex:nm[i]=x:=(bW.mp h).2;unfold rk at hp;rw[<-gk,List.take_range]at hp;obtain⟨j,hj,rfl⟩:=cj.mp hp;have hj:=eA.mp hj;have UH:j<nm.length:=by lia
 have e2:nm.getD j Str.empty=nm[j]:=by simp[UH]
 have e3:nm[j]=nm[i]:=by rw[<-e2,ex];exact e
 have:=(iC nd).mp e3;lia
noncomputable def CI(t:V0 (Str×Str)):D->D
 | .str x=>.str (qr t x)
 | d=>d
noncomputable def G0(t:V0 (Str×Str)):D->D
 | .str x=>.str (qr t x)
 | .tup ds=>.tup (ds.map (CI t))
 | d=>d
def vL(t:V0 (Str×Str))(ns:QQQ):(ns.map D.str).map (CI t)=(ns.map (qr t)).map D.str:=by rw[cB,cB];rfl
noncomputable def LW(t:V0 (Str×Str)):D->D
 | .tup [.str n,x,y]=>.tup [.str (qr t n),x,y]
 | d=>d
noncomputable def LG(t:V0 (Str×Str)):D->D
 | .tup [.str n,x,.tup ds]=>.tup [.str (qr t n),x,.tup (ds.map (CI t))]
 | d=>d
def Mq(t:V0 (Str×Str))(ps:List pF):(ps.map nV).map (LW t)=(ps.map λp=>(qr t p.1,p.2)).map nV:=by rw[cB,cB];rfl
def L8(t:V0 (Str×Str))(gs:List pN):(gs.map nN).map (LG t)=(gs.map λg=>(qr t g.1,g.2.1,g.2.2.map (qr t))).map nN:=by rw[cB,cB];refine d3 λg _=>?_;show D.tup [.str (qr t g.1),.str g.2.1,.tup ((g.2.2.map D.str).map (CI t))]=_;rw[vL];rfl
def JR(nm:QQQ)(d:D):Prop:=(∃x,d=.str x/\x∈nm)\/(∃i:Int,d=.int i)\/(∃ns:QQQ,d=names ns/\ns.length<=6/\∀x∈ns,x∈nm)
def DV{l:ng}{v:Wi}(h:tV l.pn l.nm v):v.told≠[]/\v.told.length<=5/\L3.qx v.told (some 1) none=v.told.tail/\∀d∈v.told.tail,JR l.nm d:=by
 cases v with
 | bar x ns=>obtain⟨h1,_,h3⟩:=h;obtain⟨c1,c2⟩:=oH h3;exact⟨c9 _ _,by show 3<=5;decide,rfl,mH (.inl ⟨x,rfl,sE (nM h1)⟩) (mH (.inr (.inr ⟨ns,rfl,by lia,c2⟩)) nF)⟩
 | shut x ns=>obtain⟨h1,_,h3⟩:=h;obtain⟨c1,c2⟩:=oH h3;exact⟨c9 _ _,by show 3<=5;decide,rfl,mH (.inl ⟨x,rfl,nM h1⟩) (mH (.inr (.inr ⟨ns,rfl,by lia,λy hy=>sE (c2 y hy)⟩)) nF)⟩
 | always x y=>exact⟨c9 _ _,by show 3<=5;decide,rfl,mH (.inl ⟨x,rfl,nM h.1⟩) (mH (.inl ⟨y,rfl,nM h.2.1⟩) nF)⟩
 | night x y a b=>exact⟨c9 _ _,by show 5<=5;decide,rfl,mH (.inl ⟨x,rfl,nM h.1⟩) (mH (.inl ⟨y,rfl,nM h.2.1⟩) (mH (.inr (.inl ⟨a,rfl⟩)) (mH (.inr (.inl ⟨b,rfl⟩)) nF)))⟩
 | busy x y=>exact⟨c9 _ _,by show 3<=5;decide,rfl,mH (.inl ⟨x,rfl,nM h.1⟩) (mH (.inl ⟨y,rfl,nM h.2.1⟩) nF)⟩
 | silent x y n=>exact⟨c9 _ _,by show 4<=5;decide,rfl,mH (.inl ⟨x,rfl,nM h.1⟩) (mH (.inl ⟨y,rfl,nM h.2.1⟩) (mH (.inr (.inl ⟨n,rfl⟩)) nF))⟩
 | wait x=>exact⟨c9 _ _,by show 2<=5;decide,rfl,mH (.inl ⟨x,rfl,sE (nM h)⟩) nF⟩
 | breaks x=>exact⟨c9 _ _,by show 2<=5;decide,rfl,mH (.inl ⟨x,rfl,sE (nM h)⟩) nF⟩
def HG(t:V0 (Str×Str))(v:Wi):∃d,v.told[0]?=some d/\(v.lH (qr t)).told=d::v.told.tail.map (G0 t):=by
 cases v with
 | bar x ns=>exact⟨_,rfl,by show[D.str "bar",.str (qr t x),.tup ((ns.map (qr t)).map D.str)]=[D.str "bar",.str (qr t x),.tup ((ns.map D.str).map (CI t))];rw[vL]⟩
 | shut x ns=>exact⟨_,rfl,by show[D.str "shut",.str (qr t x),.tup ((ns.map (qr t)).map D.str)]=[D.str "shut",.str (qr t x),.tup ((ns.map D.str).map (CI t))];rw[vL]⟩
 | _=>exact⟨_,rfl,rfl⟩
def Hn{c:Int}{nm:QQQ}(nd:nm.Nodup){x:Str}(h:x∈nm):xc (AR (rk c nm)) (.inr x)=some (.str (qr (rk c nm) x)):=by obtain⟨i,_,_,e1,e2⟩:=yu (c:=c) nd h;rw[CQ,e2,e1];rfl
def MI:Fq P w K mg base 2 a.ax NA:=by
 refine fq G.ax.toDG nc (λr u=>⟨_,(SsI.out (qm (SI.of (Bk V1 (pT (n:=3) rfl (mQ (om 2 nc) (mQ (om 3 nc) (mQ (om 4 nc) oY))))))
 (qm (SI.of (nB (mW u (mP (oR G) r G.h (qF (mP (AS G) r G.n (qd v0 mE)) mE mE)) mE)
 (mG (mM V1))
 mR))
 (qm (Nq (i:=5) nc.nd rfl (Or.inl rfl) (NU (sd (sd (sd (sd (sd (sd (sd (sd (sd (sd (sd MU)))))))))))))
 (qm (SI.of (mT 6 nc (mL (oI rfl (Af (ix:=[none]) (N':=["_law_phone"])) (nR V2) (nw 0) oz (mX v0 mE)) (oI rfl (Af (ix:=[none]) (N':=["_law_group"])) (nR V3) (nw 0) oz (mX v0 mE)))))
 (qm (SI.of (mT 7 nc (mP (oR G) r G.h (qF (mP (AS G) r G.n (qd v0 mE)) mE mE))))
 (qm (SI.of (mT 8 nc Jx))
 (qm (SI.of (qM dI rfl (wK rfl G.a0 (nP v6)) (pT (n:=2) rfl (mQ (om 9 nc) (mQ (om 10 nc) oY)))
 (mG (Kx u v8 QB (mX v5 (mL (mL v7 v9) mE))))))
 (qm (SI.of (qh (i:=2) nc.nd rfl (Or.inl rfl) rfl (Af (ix:=[none,none,none,some 8]) (N':=["_law_name","_law_lines","_law_rank","_law_new"])) (nR V2) (pT (n:=3) rfl (mQ (nw 0) (mQ (nw 1) (mQ (nw 2) oY)))) oz (og (qF (yo u V3 v0) V1 V2))))
 (qm (SI.of (qh (i:=3) nc.nd rfl (Or.inl rfl) rfl (Af (ix:=[none,none,none,some 8]) (N':=["_law_name","_law_manner","_law_members","_law_new"])) (nR V3) (pT (n:=3) rfl (mQ (nw 0) (mQ (nw 1) (mQ (nw 2) oY)))) oz (og (qF (yo u V3 v0) V1 (nK tz rfl G.r qN (nP (oI rfl (Af (ix:=[none,some 3]) (N':=["_law_one","_law_new"])) (nR V2) (nw 0) oz (yo u V1 v0))))))))
 (qm (SI.of (mT 11 nc (qv rV)))
 (qm (SI.of (qM dI rfl (nR v4) (pT (n:=2) rfl (mQ (om 12 nc) (mQ (om 13 nc) oY)))
 (mF (mT 14 nc (qv (nP (mX Rm mE))))
 (mF (qM dI rfl (nR (nE Rm (nj mE) nA)) (om 15 nc)
 (mG (nB (qU (mJ xj rfl G.F pE (qd P6 (ES rfl G.r qN))))
 (mG (mV (oA QW (nP (nK tz rfl G.r qN (nP (oI rfl (Af (ix:=[none,some 8]) (N':=["_law_one","_law_new"])) (nR P6) (nw 0) oz (yo u V1 v0))))))))
 (mG (mV (oA QW (nP (Hx u v8 P6 P6 ⟨rfl,rfl,rfl,rfl⟩))))))))
 (mG (mV (oA Ry (nP (og (qd RH (nK tz rfl G.r qN (nP QW))))))))))))
 (J4 (SI.of (mM (og (qF V2 V3 Ry))))))))))))))))),?_⟩)
 .rintro ds M Q ⟨ns,r1,r2,r3,l,rfl,e1,e2,e3,ok,q⟩
  have hz:=cP;have h8:=ok.p8;have hg3:=ok.g3;have h16:=ok.mw;refine⟨rfl,?_⟩;dsimp only[ze,pk,Ce];refine⟨ns,1,rfl,_,_,_,rfl,by decide,oo (λh=>?_) (λh=>?_)⟩
  .exact⟨M,.refl,q l r1 r2 r3 M .refl ok e1 e2 e3⟩
  clear h;refine⟨lP rfl,λrw_ hrw=>?_⟩;have ew:[D.str "off",.str "phone",.str "group",.str "all",.str "turns",.str "bar",.str "wait",.str "night",.str "hour",.str "a",.str "busy"]=rL.map D.str:=rfl;rw[ew];obtain⟨M1,e0,s1,cw⟩:=tR (ds:=rL.map D.str) hrw;rw[<-e0];have f1:=s1.lst e1;refine i' f1 (n8 (f:=BQ) f1 _ [] _ (by rw[bP];simp only[cA];lia) (λd hd k hk=>?_) λo1 U0=>?_)
  .obtain⟨x,_,rfl⟩:=cj.mp hd;exact hk
  rw[cG,vN];have t1:=nJ.new (c:=.lst ((l.kW.map (·.1)).map D.str)) U0;have f2:=t1.lst (s1.lst e2);refine i' f2 (n8 (f:=BQ) f2 _ [] _ (by rw[bP];simp only[cA];lia) (λd hd k hk=>?_) λo2 UT=>?_)
  .obtain⟨x,_,rfl⟩:=cj.mp hd;exact hk
  rw[cG,vP];have t2:=nJ.new (c:=.lst ((l.groups.map (·.1)).map D.str)) UT;refine i' (t2.lst mI) (i' mI ⟨?_,λo ho=>?_⟩)
  .rw[bP,bP,bP,bP];lia
  have en:(l.kW.map (·.1)).map D.str++(l.groups.map (·.1)).map D.str=l.nm.map D.str:=by show _=(l.kW.map (·.1)++l.groups.map (·.1)).map D.str;rw[cy]
  rw[en];have t3:=t1.trans (t2.trans (nJ.new (c:=.lst (l.nm.map D.str)) ho));have s2:=s1.trans t3;have cw2:=t3.lst cw;have co:=@mI (mS (mS M1 o1 (.lst ((l.kW.map (·.1)).map D.str))) o2 (.lst ((l.groups.map (·.1)).map D.str))) o (l.nm.map D.str);generalize mS (mS (mS M1 o1 (.lst ((l.kW.map (·.1)).map D.str))) o2 (.lst ((l.groups.map (·.1)).map D.str))) o (.lst (l.nm.map D.str))=M2 at s2 cw2 co ⊢;clear t1 t2 t3 f1 f2 cw s1 U0 UT ho en;have hnl:l.nm.length<=11:=by show(l.kW.map _++l.groups.map _).length<=11;rw[bS,bP,bP];lia
  refine⟨ns,2,rfl,_,_,_,rfl,by decide,?_⟩;have c0:=oi (c:=cell ns 2) (f:=39373) (m:=11) (by decide);generalize nQ (cell ns 2) 39373 11=c at c0 ⊢;refine λdn hdn=>?_;have sdn:=nJ.new (c:=.dk (AR ((rk c l.nm).take 0))) hdn;dsimp only[pk];refine yJ (t:=JD _ _ _) (λU M'=>M'=mS M2 dn (.dk (AR (rk c l.nm)))/\∃x y,U=[some (.rl (ns.map D.int)),some (.tup [.ref r1,.ref r2,.ref r3]),some (.ref r1),some (.ref r2),some (.ref r3),some (.ref rw_),some (.ref o),some (.int c),some (.ref dn),x,y,none,none,none,none,none]) (λnx2 UC=>?_) ?_
  .refine i' (sdn.lst co) ?_;refine si (sQ 0 (l.nm.map D.str)) (λpre U M'=>M'=mS M2 dn (.dk (AR ((rk c l.nm).take pre.length)))/\∃x y,U=[some (.rl (ns.map D.int)),some (.tup [.ref r1,.ref r2,.ref r3]),some (.ref r1),some (.ref r2),some (.ref r3),some (.ref rw_),some (.ref o),some (.int c),some (.ref dn),x,y,none,none,none,none,none]) (λp U M' j=>by rw[j.1];exact(nJ.new hdn).lst co) _ [] _ _ rfl ⟨rfl,none,none,rfl⟩ ?_ ?_
   .rintro pre d post e U M' ⟨rfl,x,y,rfl⟩ nx Sm
    obtain⟨z,Vg,rfl⟩:=Fp e;rw[cD]at Vg;cases hn:l.nm[pre.length]? with
    | none=>rw[hn]at Vg;cases Vg
    | some nme=>
     rw[hn]at Vg;cases Vg;rw[bS,cC]at Sm;have hi:=(bW.mp hn).1;refine⟨rfl,?_⟩;dsimp only[ze,pk,Ce];refine⟨by decide,?_⟩;have m0:0<=(c+(pre.length:Nat)) % 11:=cT _ (by decide);have m1:(c+(pre.length:Nat)) % 11<(rL.length:Nat):=cO _ (by decide);refine i' ((nJ.new hdn).lst cw2) (i' (Bs m0 m1) (i' rfl (i' rfl (i' L3.zE ⟨?_,?_⟩))))
     .unfold AR;rw[bP,cQ];lia
     have ep:xF (AR ((rk c l.nm).take pre.length)) (.inr nme) (.str (wF rL ((c+(pre.length:Nat)) % 11)))=AR ((rk c l.nm).take (pre.length+1)):=by rw[F7 hn];exact JN (JC ok.nd hn)
     rw[ep,oF];exact Sm _ _ ⟨rfl,_,_,rfl⟩
   .rintro U M' ⟨rfl,x,y,rfl⟩
    refine UC _ _ ⟨?_,_,_,rfl⟩;have el:(rk c l.nm).take (sQ 0 (l.nm.map D.str)).length=rk c l.nm:=by rw[uL,bP];refine dh ?_;unfold rk;rw[bP,du];exact cq _
    rw[el]
  rintro U M3 ⟨rfl,x9,Bg,rfl⟩
  have s3:=s2.trans (nJ.new (c:=.dk (AR (rk c l.nm))) hdn);have cd:wW (mS M2 dn (.dk (AR (rk c l.nm)))) dn=some (AR (rk c l.nm)):=L3.zE;have rok:=G4 (c:=c) ok;have look:=λ{x:Str} (h:x∈l.nm)=>Hn (c:=c) ok.nd h;generalize mS M2 dn (.dk (AR (rk c l.nm)))=M3 at s3 cd ⊢;generalize rk c l.nm=t at cd rok look ⊢;clear sdn hdn cw2 co s2;have p3:=s3.lst e1;refine i' p3 (su (f:=LW t) (λU=>∃x y z,U=[x,y,z,some (.ref dn)]) p3 _ [] _ ⟨_,_,_,rfl⟩ (by rw[bP];simp only[cA];lia) (λd hd U hδ k hk=>?_) λq1 TM=>?_)
  .obtain⟨x,y,z,rfl⟩:=hδ;obtain⟨v,hv,rfl⟩:=cj.mp hd;have hm:v.1∈l.nm:=sE (cj.mpr ⟨v,hv,rfl⟩);exact⟨rfl,i' cd (i' (look hm) ⟨lP rfl,hk _ ⟨_,_,_,rfl⟩⟩)⟩
  rw[cG,Mq];obtain⟨M4,e0,u1,k1⟩:=tR (ds:=(l.kW.map λp=>(qr t p.1,p.2)).map nV) TM;rw[<-e0];have s4:=s3.trans u1;have cd4:=u1.dk cd;clear u1 s3 cd p3;have g4:=s4.lst e2;refine i' g4 ?_;refine va (l.groups.map nN) (λpre acc U M'=>nJ M4 M'/\acc=pre.map (LG t)/\∃x y z,U=[x,y,z,some (.ref dn)]) (λ_ _ _ _ j=>j.1.lst g4) _ [] [] _ _ rfl (by rw[bP];simp only[cA];lia) ⟨.refl,rfl,_,_,_,rfl⟩ ?_ ?_
  .rintro pre d post e acc U M' ⟨sx,rfl,x,y,z,rfl⟩ k hk
   have hd:d∈l.groups.map nN:=by rw[<-e];simp
   obtain⟨v,hv,rfl⟩:=cj.mp hd;have go:=ok.go v hv;obtain⟨d1,d2⟩:=oH go.mem;have hm:v.1∈l.nm:=cV _ (cj.mpr ⟨v,hv,rfl⟩);refine⟨rfl,i' (sx.dk cd4) (i' (look hm) ?_)⟩;refine n8 (f:=CI t) trivial _ [] _ (by rw[bP];simp only[cA];lia) (λd hd k' Um=>?_) λp1 Tq=>?_
   .obtain⟨x,hx,rfl⟩:=cj.mp hd;exact i' (sx.dk cd4) (i' (look (sE (d2 x hx))) Um)
   rw[cG];refine i' mI ⟨lP rfl,?_⟩;exact hk _ _ _ ⟨sx.trans (.new Tq),by rw[cy];rfl,_,_,_,rfl⟩
  rintro acc U M5 ⟨s5,rfl,_⟩ q2 Uw
  rw[L8];have u2:=s5.trans (nJ.new (c:=.lst ((l.groups.map λg=>(qr t g.1,g.2.1,g.2.2.map (qr t))).map nN)) Uw);have k2:=@mI M5 q2 ((l.groups.map λg=>(qr t g.1,g.2.1,g.2.2.map (qr t))).map nN);have s6:=s4.trans u2;have cd6:=u2.dk cd4;have k16:=u2.lst k1;generalize mS M5 q2 (.lst ((l.groups.map λg=>(qr t g.1,g.2.1,g.2.2.map (qr t))).map nN))=M6 at s6 cd6 k16 k2 ⊢;clear u2 s5 s4 cd4 k1 g4;refine⟨lP rfl,λrt hrt=>?_⟩;obtain⟨M7,e0,sr,cr⟩:=tR (ds:=[]) hrt;rw[<-e0];dsimp only[pk];have w7:=sr.lst (s6.lst e3);have ren1w:∀v:qu,D.tup [.bl v.1,.tup ((v.2.lH (qr t)).told)]=pS (v.1,v.2.lH (qr t)):=λv=>rfl;refine i' w7 ?_;refine si (l.kY.map pS) (λpre U M'=>nJ M6 M'/\lO M' rt=some (((l.kY.take pre.length).map λv=>(v.1,v.2.lH (qr t))).map pS)/\∃x1 x2 x3 x4,U=[some (.rl (ns.map D.int)),some (.tup [.ref r1,.ref r2,.ref r3]),some (.ref q1),some (.ref q2),some (.ref r3),some (.ref rw_),some (.ref o),some (.int c),some (.ref dn),x9,Bg,some (.ref rt),x1,x2,x3,x4]) (λp U M' j=>j.1.lst (s6.lst e3)) _ [] _ _ rfl ⟨sr,cr,none,none,none,none,rfl⟩ ?_ ?_
  .rintro pre d post e U M' ⟨sx,cx,x1,x2,x3,x4,rfl⟩ nx Sm
   obtain⟨v,hv,rfl,et⟩:=BH e;rw[bS,cC]at Sm;have wok:=ok.wo v (dt hv);obtain⟨tn,t5,tc,tp⟩:=DV wok;obtain⟨d0,td0,tr⟩:=HG t v.2;refine⟨rfl,?_⟩;dsimp only[ze,pk,Ce];refine i' (show tY v.2.told 0=some d0 from qI td0) ⟨lP rfl,λrp hrp=>?_⟩;have nrp:rp≠rt:=cH (HB (oP cx) hrp);have m6rp:M6 rp=none:=sx.none hrp;have sp0:=sx.trans (nJ.new (c:=.lst [d0]) hrp);have cp0:=@mI M' rp [d0];have cx0:=(nJ.new (c:=.lst [d0]) hrp).lst cx;generalize mS M' rp (.lst [d0])=Mp0 at sp0 cp0 cx0 ⊢;dsimp only[pk];refine yJ (t:=JD _ _ _) (λδ' N=>nJ M6 N/\lO N rt=some (((l.kY.take pre.length).map λv=>(v.1,v.2.lH (qr t))).map pS)/\lO N rp=some ((v.2.lH (qr t)).told)/\∃x,δ'=[some (.rl (ns.map D.int)),some (.tup [.ref r1,.ref r2,.ref r3]),some (.ref q1),some (.ref q2),some (.ref r3),some (.ref rw_),some (.ref o),some (.int c),some (.ref dn),x9,Bg,some (.ref rt),some (.bl v.1),some (.tup v.2.told),some (.ref rp),x]) (λnx2 UC=>?_) ?_
   .show zQ _ _ _ _ (L3.qx v.2.told (some 1) none) _ _;rw[tc];refine si v.2.told.tail (λT9 δ' N=>nJ M6 N/\lO N rt=some (((l.kY.take pre.length).map λv=>(v.1,v.2.lH (qr t))).map pS)/\lO N rp=some (d0::T9.map (G0 t))/\∃x,δ'=[some (.rl (ns.map D.int)),some (.tup [.ref r1,.ref r2,.ref r3]),some (.ref q1),some (.ref q2),some (.ref r3),some (.ref rw_),some (.ref o),some (.int c),some (.ref dn),x9,Bg,some (.ref rt),some (.bl v.1),some (.tup v.2.told),some (.ref rp),x]) (λ_ _ _ _=>trivial) _ [] _ _ rfl ⟨sp0,cx0,cp0,_,rfl⟩ ?_ ?_
    .rintro T9 d post2 S7 δ' N ⟨sN,cN,UP,x,rfl⟩ OM hnx3
     have hd:d∈v.2.told.tail:=by rw[<-S7];simp
     have l2':T9.length<=5:=by have:=dJ List.length S7;simp only[bS,b8,fH]at this;lia
     have Vh:(d0::T9.map (G0 t)).length<sizeLine:=by rw[b8,bP];lia
     have put:∀N':Mp,nJ N N'->OM [some (.rl (ns.map D.int)),some (.tup [.ref r1,.ref r2,.ref r3]),some (.ref q1),some (.ref q2),some (.ref r3),some (.ref rw_),some (.ref o),some (.int c),some (.ref dn),x9,Bg,some (.ref rt),some (.bl v.1),some (.tup v.2.told),some (.ref rp),some d] (mS N' rp (.lst ((d0::T9.map (G0 t))++[G0 t d]))):=λN' sN'=>hnx3 _ _ ⟨λz cc hh=>by rw[pL (HB hh m6rp)];exact sN' z cc (sN z cc hh),uq.lst .put (cH nrp) (sN'.lst cN),by rw[cy];exact mI,_,rfl⟩;have il:CD N (.ref rp):=by show(lO N rp).isSome=true;rw[UP];rfl
     rcases tp d hd with⟨x,rfl,hx⟩|⟨i,rfl⟩|⟨nn,rfl,hn6,hnn⟩
     .refine⟨λC z=>(by cases z),i' G.aR (wg ⟨il,?_⟩)⟩;refine⟨by show(wW N dn).isSome=true;rw[sN.dk cd6];rfl,i' rfl (i' rfl (i' rfl (i' (sN.dk cd6) ?_)))⟩;rw[look hx];exact i' UP ⟨Vh,put N .refl⟩
     .refine⟨λC z=>(by cases z),i' G.aS (wg ⟨il,?_⟩)⟩;refine⟨by show(wW N dn).isSome=true;rw[sN.dk cd6];rfl,i' rfl (i' rfl (i' rfl (i' (sN.dk cd6) ?_)))⟩;rw[C9];exact i' UP ⟨Vh,put N .refl⟩
     .refine⟨λC z=>(by cases z),i' G.aT (yD ⟨il,?_⟩)⟩;refine n8 (f:=CI t) trivial _ [] _ (by rw[bP];simp only[cA];lia) (λd' UQ k' Um=>?_) λp1 Tq=>?_
      .obtain⟨y,hy,rfl⟩:=cj.mp UQ;exact i' (sN.dk cd6) (i' (look (hnn y hy)) Um)
      rw[cG];refine i' mI (i' ((nJ.new Tq).lst UP) ⟨Vh,?_⟩);exact put _ (.new Tq)
    .rintro δ' N ⟨sN,cN,UP,x,rfl⟩
     exact UC _ _ ⟨sN,cN,by rw[tr];exact UP,_,rfl⟩
   rintro δ' N ⟨sN,cN,UP,x,rfl⟩
   refine⟨by show(lO N rt).isSome=true;rw[cN];rfl,i' UP ⟨lP rfl,i' cN ⟨?_,?_⟩⟩⟩
   .rw[bP,bP,cQ];lia
   refine Sm _ _ ⟨λz cc hh=>by rw[pL (HB hh hrt)];exact sN z cc hh,?_,_,_,_,_,rfl⟩;rw[et,cy,cy];exact mI
  .rintro U M' ⟨sx,cx,x1,x2,x3,x4,rfl⟩
   rw[bP,dC]at cx;refine⟨lP rfl,M',.refl,q (l.lH (qr t)) q1 q2 rt M' (s6.trans sx) rok (sx.lst k16) (sx.lst k2) cx⟩
def Iw:rf:=λds M Q=>∃ns:V0 Int,ds=[.rl (ns.map D.int)]/\ns.length<=63/\Q (.bl true) M
noncomputable def bd:Nat->Nat
 | 0=>100
 | i+1=>2*bd i+2
def LH{i:Nat}(h:i<=3):bd i<=814:=by
 have:i=0\/i=1\/i=2\/i=3:=by lia
 rcases this with rfl|rfl|rfl|rfl<;>decide
def OG:Le 10 7:=by unfold Le;decide+kernel
def MK:Fq P w K mg base 13 a.aa Iw:=by
 refine fq G.aa.toDG rC (λr u=>⟨_,(mF (Bk (mP (MI G) r G.ax (qd v0 (mP (GX G) r G.aw (qd v0 mE)))) (pT (n:=3) rfl (mQ (om 1 rC) (mQ (om 2 rC) (mQ (om 3 rC) oY)))))
 (mF (mT 4 rC (mP (IG G) r G.az (qF V1 V2 V3)))
 (mF (qM dI rfl (vn rfl G.aI (nP (mL mE (mP (oR G) r G.h (qF (mP (AS G) r G.n (qd v0 mE)) mE mE))))) (om 5 rC)
 (mF (mT 6 rC (mP (oR G) r G.h (qF (mP (AS G) r G.n (qd v0 (mL mE v5))) mE (NB mE mE))))
 (mF (mT 7 rC (mP (oR G) r G.h (qF (mP (AS G) r G.n (qd v0 (mL mE v5))) mE mE)))
 (mG (nB (mW u v7 mE)
 (mG (mT 4 rC (mP (CA G) r G.aE (qF v4 v6 v7))))
 (mG (mT 4 rC (mP (DE G) r G.aF (qF v4 v6 v7)))))))))
 (mF (Bk (mP (Ik G) r G.aA (nP v4)) (pT (n:=2) rfl (mQ (om 8 rC) (mQ (om 9 rC) oY))))
 (mF (nB (rZ (qU (mP (FE G) r G.aC (nP v4))))
 (mG (mM (qa (nY u v8 AU) (qD (Mz v9 sH)))))
 mR)
 (mG (mM (qa (nY u v9 AU) (qD (nY u (mP (EK G) r G.X (nP v8)) v4)))))))))),?_⟩)
 rintro ds M Q ⟨ns,rfl,hl,q⟩
 have hz:=cP;have po:=Kd (ns:=ns) (m:=5) (by decide) (by decide);refine⟨ns,5,rfl,by decide,by decide,λr1 r2 r3 M1 s1 e1 e2 e3=>?_⟩;generalize AF ns 5=l0 at po e1 e2 e3;refine⟨ns,r1,r2,r3,l0,rfl,e1,e2,e3,po,λl q1 q2 q3 M2 s2 ok f1 f2 f3=>⟨rfl,?_⟩⟩;dsimp only[ze,pk,Ce];have s12:=s1.trans s2;clear e1 e2 e3 s1 s2 po;refine⟨q1,q2,q3,l,rfl,f1,f2,f3,ok,?_⟩;have tx:=Kp ok;generalize qL l=x0 at tx ⊢;dsimp only[pk];refine yJ (t:=JD _ _ _) (λU M'=>M2=M'/\∃x x5 x6 x7,AK 814 30 x/\U=[some (.rl (ns.map D.int)),some (.ref q1),some (.ref q2),some (.ref q3),some (.str x),x5,x6,x7,none,none]) (λnx h=>?_) ?_
 .have d0:=oi (c:=cell ns 3) (f:=48271) (m:=3) (by decide);have d1:=oj (c:=cell ns 3) (f:=48271) (m:=3) (by decide);refine⟨ns,3,rfl,_,_,_,rfl,by decide,rfl,⟨?_,?_⟩,?_⟩
  .show -(2 ^ 62)<=1+nQ (cell ns 3) 48271 3;lia
  .show 1+nQ (cell ns 3) 48271 3<2 ^ 62;lia
  generalize nQ (cell ns 3) 48271 3=dn at d0 d1 ⊢;refine si ((List.range (1+dn).toNat).map λi=>D.int (0+(i:Nat))) (λpre U M'=>M2=M'/\∃x x5 x6 x7,AK (bd pre.length) (27+pre.length) x/\U=[some (.rl (ns.map D.int)),some (.ref q1),some (.ref q2),some (.ref q3),some (.str x),x5,x6,x7,none,none]) (λ_ _ _ _=>trivial) _ [] _ _ rfl ⟨rfl,x0,none,none,none,tx,rfl⟩ ?_ ?_
  .rintro pre d post e U _ ⟨rfl,x,x5,x6,x7,tx,rfl⟩ nx Sm
   obtain⟨rfl,Sf⟩:=zh e;have bb:=LH (i:=pre.length) (by lia);have go:∀y u v w,AK (2*bd pre.length+2) (27+pre.length+1) y->nx [some (.rl (ns.map D.int)),some (.ref q1),some (.ref q2),some (.ref q3),some (.str y),u,v,w,none,none] M2:=λy u v w ty=>Sm _ _ ⟨rfl,y,u,v,w,by rw[bS];exact ty,rfl⟩;refine⟨ns,_,rfl,OG,_,_,_,rfl,by decide,?_⟩;refine⟨ns,_,rfl,_,_,_,rfl,by decide,?_⟩;refine oo (λ_=>?_) (λ_=>?_)
   .refine⟨x,_,_,_,_,rfl,tx,?_,λy ty _=>go y _ _ _ ty⟩;have:=tx.len;have:=gC (show 27+pre.length+1<=31 by lia) (show bd pre.length+1<=815 by lia);lia
   .exact⟨x,_,_,_,_,rfl,tx,by lia,by lia,λy ty=>go y _ _ _ ty⟩
  .rintro U _ ⟨rfl,x,x5,x6,x7,tx,rfl⟩
   rw[bP,du]at tx;have h3:(1+dn).toNat<=3:=by lia
   have:=LH h3;exact h _ _ ⟨rfl,x,x5,x6,x7,⟨tx.run.mono this,by have:=tx.lP;lia⟩,rfl⟩
 rintro U _ ⟨rfl,x,x5,x6,x7,tx,rfl⟩
 obtain⟨R',okR,eR⟩:=tx.readable;rw[eR];refine yJ (t:=rm _ _) (λU M'=>nJ M2 M'/\((nL R'=true/\∃l p,wZ a M' p l/\oM l/\qL l=oO R'/\U=[some (.rl (ns.map D.int)),some (.ref q1),some (.ref q2),some (.ref q3),some (.str (oO R')),x5,x6,x7,some (.ref p),some .k9])\/(nL R'=false/\U=[some (.rl (ns.map D.int)),some (.ref q1),some (.ref q2),some (.ref q3),some (.str (oO R')),x5,x6,x7,some .k9,some (.bl true)]))) (λnx h=>⟨R',rfl,okR,λhB l p M' s pa po et=>⟨rfl,h _ _ ⟨s,.inl ⟨hB,l,p,pa,po,et,rfl⟩⟩⟩,λhB M' s=>⟨rfl,h _ _ ⟨s,.inr ⟨hB,rfl⟩⟩⟩⟩) ?_
 rintro U M5 ⟨s5,⟨hB,l,p,pa,po,et,rfl⟩|⟨hB,rfl⟩⟩
 .refine⟨R',rfl,okR,xT (c:=!nL R') (by rw[hB];rfl) ⟨p,l,rfl,pa,po,?_⟩⟩;have eq:(qL l==oO R')=true:=by rw[et];exact beq_self_eq_true _
  show ∃RW,nJ RW M5/\Q (.bl (qL l==oO R')) RW;rw[eq];exact⟨M,s12.trans s5,q⟩
 .refine⟨R',rfl,okR,zN (c:=!nL R') (by rw[hB];rfl) ?_⟩;exact⟨M,s12.trans s5,q⟩
end Z
end
structure PySem.W.Fast:Prop where(tw9839935081618496382 tw8959449846712095113 tw8342731944050742514 tw8304793764648468892 tw8105590705031945105 tw7730418692330539802 tw7394796851250679157 tw6552329388815959248 tw5878326532081635141 tw5454654133717460392 tw4125529420415539702 tw18198419208357689589 tw17608627190696404122 tw17606958142458615500 tw17133270740318527077 tw1675530958925967303 tw16193102036691966982 tw15427173494807724249 tw15395876942668210305 tw15090564734242453068 tw13415332359024498064 tw12398207042294225805 tw10623271043118734733 tw10366241389356742020 tw10196986596415528249 tw10154308858875774874 tw6064739469363338853 tw7532109649716607744 tw3177103317536863903 tw3519386772239523723 tw1468060848909254225 tw3367241244915820648 tw3794308564975726044 tw3240685688970281767 tw12032797119275987680 tw7072842983953571938 tw1337383806812194589 tw4154861100741936529 tw9800053267439624840 tw6260132814339031415 tw9384860599545246288 tw12604390485665126760 tw10944594285708670880 tw17296656086583258727 tw1373389544623353304 tw8829055966297799973 tw10860246489540741986 tw12540353931804129164 tw9810594695163524418 tw9477018095244653123 tw13974233518941869410 tw4303484884952302030 tw1103243461326019392 tw9596724755563712454 tw5463171803569402353 tw944671372758593169 tw11720139647305762266 tw9069097053127250701 tw10872473155745428880 tw2323824263041636836 tw14503203655274409287 tw7635059695584755324 tw5812254476949740902 tw4724910362589147122 tw12032760691084883755 tw9494089532413936611 tw7918954797098205649 tw6892256001076688239 tw7826790021684208971 tw15708844069252016463 tw5472257236886444290 tw13732257825802336867 tw5352115445880641367 tw15917954901605584637 tw11779840888347482741 tw13494158830472954047 tw801876706844616541 tw4884097718133395167 tw14190543660286947361 tw13911962273200061285 tw17120380459039836966 tw17362300964510882745 tw16778180260973880641 tw17411452817929842669 tw16911721481585668309 tw15704133545623577878 tw13203031386153555378 tw1529171929550598335 tw18351145961329477370 tw10190197777898636795 tw2154254736069582063 tw15419110766270609449 tw4975003649913504527 tw2102894709908124550 tw16861083758283180400 tw4661631862013305167 tw2398614396544733134 tw14997370985420831651 tw15463683844655885481 tw8797544177317954938 tw7947751108528465474 tw13063837104020096628 tw12397879619039375812 tw13903818313472781615 tw13953281544343235442 tw11855809627031770739 tw11881012955975165703 tw15859082023231117408 tw992695669566151980 tw3606177502135453611 tw3012474767347982784 tw7506536688609453518 tw6198833867608663371 tw15192672099721764904 tw14535517397468644827 tw1948346163833637222 tw886117235959219845 tw4284510068819571269 tw18175714295410872427 tw4395617667399111507 tw5666731636031657549 tw1574314856509748458 tw362672947603094490 tw15801616103702315193 tw13304926101208143731 tw13739797461391503185 tw5740618496150446884 tw18141938534736105764 tw10880037124245339938 tw16665933954069647292 tw12766742383151202869 tw1373050202830552613 tw3883311805733073958 tw5611127310106225824 tw17457649255667804919 tw1476074105216820178 tw2466222612127856348 tw4529566154550263327 tw11237413225797540884 tw6968266654585519812 tw17130457195238417589 tw4006095062987253154 tw2979821042985755406 tw475541288042171861 tw1434623615695076627 tw7280547363284921175 tw377130584676566775 tw13366716981324120498 tw5473985081242392498 tw387626171627338456 tw10448119929615245522 tw16301702565326042128 tw1830087952525186437 tw18243220563053072378 tw6564867693905711785 tw7231167835476680385 tw5241292737136691108 tw9109988151256729616 tw11998850361523011071 tw14388038368517480951 tw9665594029509700213 tw5026749424539232231 tw16983708354714678850 tw12977144313580733861 tw13518887371241151599 tw12619885870518089561 tw5545545355202127781 tw1954572067627907486 tw6233854676329327206 tw18169867488384618055 tw3106508867791248217 tw10277698141812902705 tw17599280966251716094 tw13573181045816439117 tw4001191304347627636 tw11486585373879464123 tw2936840841575698753 tw13051616493720431448 tw1480338576528683074 tw7100011331690930939 tw12117426875607816187 tw2021969229690224109 tw1609196444061063686 tw13349749336594343544 tw11421752285573106091 tw1886981777227999844 tw12898634690568739641 tw14512756939585812736 tw1905398061523779818 tw7203499471515789835 tw6254364433926262444 tw8727007767148894424 tw12501361373796521307 tw13190763945018460766 tw14749533774154600738 tw17629742604575436411 tw6771659141551541330 tw3937851353294498174 tw15176162840472259837 tw9882278873252782878 tw9953143036570612133 tw17428289251745639 tw13168968297900161331 tw8975181898514824233 tw6275368800448601491 tw10611071236821868601 tw4670382999455220520 tw16908032178654914676 tw13091450915470012896 tw8057464605930106963 tw7898230903222742104 tw1339485733823112690 tw2352223471710769895 tw989421401419648642 tw15810316854300671245 tw7632261003947336308 tw10290219195119696019 tw541848262085603107 tw6591858489592745853 tw3254609311680988588 tw8577719257185120947 tw13710258976678510052 tw1398970109002305157 tw11071745599703636940 tw15256058386927569110 tw15096043019337709295 tw14711169975214663277 tw5497466053136956633 tw17149832083150617721 tw10164032194637787886 tw5564551545693043698 tw11358673364174970228 tw18090568734258812373 tw14800125341847637040 tw15234862061340291421 tw12556979570221738083 tw2579505443124537948 tw17598777153142402886 tw9696920510680389139 tw2205611034030196357 tw1657835329932551090 tw13280456131722047785 tw5001984632200693516 tw10179332290883009216 tw7167772851023153222 tw4095666827618494837 tw15435406707571066250 tw10475424124066797139 tw3053202426179881755 tw12746842471050669720 tw15086177639716049987 tw7957828328824481205 tw17348658140084051754 tw15068353215824527961 tw14994845723757261149 tw11548793113499938556 tw8515172872204913381 tw9220708494582533517 tw3617764620892861218 tw4149027695395045022 tw1204562118875825875 tw2917615759406288580 tw13197105908266441768 tw8977242483837592865 tw4287493215972265320 tw10770659169335061783 tw15915010200915989244 tw7852660623322493716 tw5164243110161319421 tw16562563665198496298 tw1161716741054409588 tw15269977878292340669 tw13995159706504856932 tw8657405603826741540 tw18136043894322046124 tw10985861158962930435 tw15594067076191812726 tw7705855957743506992 tw3326377848426145988 tw1313587437149484985 tw14125132357635055381 tw2196859358278408993 tw15297327859219749552 tw140294582095219956 tw7763899261265030876 tw17445834889572061768 tw15385168355881680665 tw625822181092338037 tw13078398971894674565 tw12196932152628848904 tw7887123815085713260 tw10412763887102944943 tw10182735449758477013 tw2133778212089591183 tw12563312886237022569 tw18028813371913315629 tw15164684571702486230 tw11636911416953699704 tw10606968324106206022 tw256474550386242570 tw8412317918632645818 tw1814530236277293374 tw13958164315963989861 tw17864708191025016398 tw13172609180967382846 tw18002613230263030454 tw4582122615314563915 tw17640149998924181179 tw16903136587740759586 tw9412643611338008502 tw13752752321139080663 tw17533204500281707678 tw4531875353779826467 tw3764489522850841887 tw139824430512146979 tw6959016146940002972 tw712373963628592482 tw14891803356158622942 tw4950400409107508781 tw3109298151923736379 tw149443175993942890 tw6831647318869335452 tw16345806752652784305 tw13319301228039555168 tw11158894614605401479 tw3180391174855223811 tw9105498918608927073 tw2583139275071355314 tw2239032845995541118 tw10561200409683109057 tw917923101890109926 tw18425300075017749565 tw15740840695143402021 tw10136547901982586517 tw10130023086417344864 tw15880432015642993854 tw15563247552841276163 tw1210018833993645007 tw1543100605393086591 tw13680372597892723138 tw8865490615043958181 tw7626601441033603772 tw17994502560004563124 tw13254807890415190740 tw4987851083785534485 tw5219869894439423162 tw16854452928358330396 tw15172717242186978090 tw16316417811827798478 tw14311092416284361199 tw9053637813163186182 tw5904891226811652647 tw3635854914454316657 tw2694243238307802019 tw2171830536072897424 tw18065019069646294566 tw17086996205540905567 tw14811875300210761731 tw12705239390495769128 tw3152336852650091986 tw11206987390659438322 tw16025993985997073164 tw12851620138172257150 tw9690660697192738772 tw16841079094675859936 tw18316335773845399806 tw911752989703073825 tw2300087247751217863 tw8167230242333033595 tw4794850106708383281 tw1289798590399808027 tw15180112828339072711 tw873541918636420226 tw17973369222408831505 tw17092258501626695565 tw9584521480585320198 tw6619149548625603207 tw16681446499139203050 tw1459960143422000810 tw6295111623534669133 tw16741916624473780195 tw13560237359370707539 tw5695102090120431095 tw14868017467615389715 tw2572769304447772400 tw4482453642370335198 tw5260624290553151986 tw4880226082241204359 tw9529500910683995299 tw7828393134830610652 tw17284129341886704838 tw11884384993049866503 tw10925241598554100134 tw10649576894482851348 tw8790896143476755937 tw14977728607420202307 tw12306322210076551449 tw12129690187159432909 tw735239298073480505 tw4274882367555678165 tw2938396504660556994 tw9057972475391517066 tw2154039152182557263 tw8302896572429279433 tw10063211374698276525 tw7968103095129825272 tw12500991272193361216 tw75608216200415680 tw11543995139798438984 tw10712610919296427120 tw9740166526593816785 tw3657831310280969381 tw8764555593733131769 tw15286288024204297801 tw8442615202386725638 tw16162473649255808166 tw7400495141855456772 tw616012704835915368 tw5961862264451891068 tw379655681499001226 tw3138796826824916003 tw17729561418853166101 tw15112826707395680125 tw15061593271176847221 tw1371372188856948090 tw10226867300830373183 tw8805034217874316640 tw17276374690278047922 tw1378625028799702981 tw15472417244355438095 tw9978298265528063424 tw9166569457778822995 tw7142010342946287308 tw2774932879135618963 tw13078292572837072112 tw12806955897306789526 tw7988491153173839305 tw629429485428631678 tw11966964381547025562 tw4317805631073870336 tw279418500406707284 tw2731092742336990788 tw960438128086565430 tw6717925661021188060 tw5768481474610353618 tw9148985821628176655 tw6821781397792157891 tw5923736740286299725 tw4506307443660233998 tw3868928502152474548 tw3840555237608761994 tw18319031929429333626 tw17015907590906750268 tw16356486750344130479 tw1579491724816057207 tw12264540493679054937 tw12147629576163624445 tw662793129808992362 tw13473597886654635143 tw8571017282938457017 tw7626504928081190889 tw15799386199821640140 tw5956923285610177994 tw17323652126080882067 tw5425195237600049040 tw12298871539994301963:True)
open PySem PySem.W PyProof.Rows L2 L3
set_option maxRecDepth 100000 in
set_option maxHeartbeats 0 in
theorem PySem.Challenge.cw_callboard_k06_plan_texts_spoiled_holds : PySem.Challenge.rw_callboard_k06_plan_texts_spoiled.Holds := by
 w_on;o_law;k_head;(case hw=>w_witness2)
 k_fill
 refine L3.IA (l:=PySem.Challenge.rw_callboard_k06_plan_texts_spoiled) (sp:=Z.Iw) (k:=13) (x:="_law_script") rfl rfl ⟨rfl,by decide,by decide⟩ (λw h Y=>PySem.W.kIn_of Y) (λns hl=>⟨ns,rfl,hl,rfl⟩) ?F;case F=>
  intro w mg fa h KX G hmg;suffices h:∃a:Z.Ad,Z.Gl _ mg a/\∀(s:Shared) (u:Value),BindsTo s a.aa.d ⟨[u],[]⟩ [("_law_script",u)]by obtain⟨a,g,hb⟩:=h;have e:=hmg.symm.trans g.aa.mg;cases e;exact⟨a.aa.d,hb,λbase _ _=>g.aa.pe ▸ Z.MK g⟩
  refine'⟨⟨_,_,_,_,_,_,_,_,_,_,_,_,_,_,_,_,_,_,_,_,_,_,_,_,_,_,_,_,_,_,_,_,_,_,_,_,_,_,_,_,_,_,_,_,_,_,_,_,_,_,_,_,_,_,_,_,_,_,_,_,_,_,_,_,_,_⟩,⟨uo KX G ..,uo KX G ..,uo KX G ..,uo KX G ..,uo KX G ..,uo KX G ..,uo KX G ..,uo KX G ..,uo KX G ..,uo KX G ..,uo KX G ..,PySem.W.mg_of KX G ?_,PySem.W.mg_of KX G ?_,PySem.W.mg_of KX G ?_,PySem.W.mg_of KX G ?_,ou KX G ..,ou KX G ..,ou KX G ..,ou KX G ..,ou KX G ..,ou KX G ..,ou KX G ..,ou KX G ..,ou KX G ..,ou KX G ..,ou KX G ..,ou KX G ..,ou KX G ..,ou KX G ..,ou KX G ..,ou KX G ..,ou KX G ..,ou KX G ..,ou KX G ..,ou KX G ..,ou KX G ..,ou KX G ..,ou KX G ..,ou KX G ..,ou KX G ..,ou KX G ..,ou KX G ..,ou KX G ..,ou KX G ..,ou KX G ..,ou KX G ..,ou KX G ..,ou KX G ..,ou KX G ..,ou KX G ..,ou KX G ..,ou KX G ..,ou KX G ..,ou KX G ..,ou KX G ..,ou KX G ..,sS ..,sS ..,sS ..,sS ..,sS ..,sS ..,sS ..,sS ..,sS ..,sS ..,Kg ?_ ?_ ?_ ?_ ?_ ?_ ?_ ?_,Pe ?_ ?_ ?_ ?_ ?_ ?_ ?_ ?_,Km ?_ ?_ ?_ ?_,⟨?_,?_,?_,?_⟩,⟨?_,?_,?_,?_⟩,⟨?_,?_,?_,?_⟩,⟨?_,?_,?_,?_⟩,⟨?_,?_,?_,?_⟩,⟨?_,?_,?_,?_⟩,⟨?_,?_,?_,?_⟩,⟨?_,?_,?_,?_⟩,⟨?_,?_,?_,?_⟩,⟨?_,?_,?_⟩,⟨?_,?_,?_⟩,⟨?_,?_,?_⟩,⟨?_,?_,?_⟩,⟨?_,?_,?_⟩,⟨?_,?_,?_⟩,⟨?_,?_,?_⟩,⟨?_,?_,?_⟩,⟨?_,?_,?_⟩,⟨?_,?_,?_⟩,(m8 ?_ (m8 ?_ (m8 ?_ (m8 ?_ (m8 ?_ (m8 ?_ qP)))))),(m8 ?_ (m8 ?_ (m8 ?_ qP))),(m8 ?_ (m8 ?_ (m8 ?_ qP))),(m8 ?_ (m8 ?_ (m8 ?_ qP))),(m8 ?_ (m8 ?_ (m8 ?_ (m8 ?_ (m8 ?_ qP))))),(m8 ?_ (m8 ?_ (m8 ?_ qP))),(m8 ?_ (m8 ?_ (m8 ?_ (m8 ?_ qP)))),(m8 ?_ (m8 ?_ qP)),(m8 ?_ (m8 ?_ qP)),D8 C4 ?_ (λ_=>rfl),D8 C4 ?_ (λ_=>rfl),BW,BW,D8 Ag ?_ (λz=>nomatch z),EL ?_ ?_ ?_ (λ_=>?_),EL ?_ ?_ ?_ (λ_=>?_),PySem.W.mg_none_of KX G ?_,PySem.W.mg_none_of KX G ?_,PySem.W.mg_none_of KX G ?_,PySem.W.mg_none_of KX G ?_,PySem.W.mg_none_of KX G ?_,PySem.W.mg_none_of KX G ?_,PySem.W.mg_none_of KX G ?_,PySem.W.mg_none_of KX G ?_,PySem.W.mg_none_of KX G ?_,PySem.W.mg_none_of KX G ?_,PySem.W.mg_none_of KX G ?_,PySem.W.mg_none_of KX G ?_,PySem.W.mg_none_of KX G ?_,PySem.W.mg_none_of KX G ?_,PySem.W.mg_none_of KX G ?_,wR (PySem.W.mg_of KX G ?_) (pO (ss:=["name","lines","rank"]) ?_ (.cons ⟨_,rfl⟩ (.cons ⟨_,rfl⟩ (.cons ⟨_,rfl⟩ .nil))) (Nat.le_of_ble_eq_true rfl)),wR (PySem.W.mg_of KX G ?_) (pO (ss:=["name","manner","phones"]) ?_ (.cons ⟨_,rfl⟩ (.cons ⟨_,rfl⟩ (.cons ⟨_,rfl⟩ .nil))) (Nat.le_of_ble_eq_true rfl)),wR (PySem.W.mg_of KX G ?_) (pO (ss:=["names","phones"]) ?_ (.cons ⟨_,rfl⟩ (.cons ⟨_,rfl⟩ .nil)) (Nat.le_of_ble_eq_true rfl)),wR (PySem.W.mg_of KX G ?_) (pO (ss:=["lines","rank","hour","turns"]) ?_ (.cons ⟨_,rfl⟩ (.cons ⟨_,rfl⟩ (.cons ⟨_,rfl⟩ (.cons ⟨_,rfl⟩ .nil)))) (Nat.le_of_ble_eq_true rfl)),J5 (es:=[⟨_,.str "bar" _,.ref _⟩,⟨_,.str "shut" _,.ref _⟩,⟨_,.str "always" _,.ref _⟩,⟨_,.str "night" _,.ref _⟩,⟨_,.str "busy" _,.ref _⟩,⟨_,.str "silent" _,.ref _⟩,⟨_,.str "wait" _,.ref _⟩,⟨_,.str "breaks" _,.ref _⟩]) (PySem.W.mg_of KX G ?_) ?_ ?_ (.cons rfl ⟨_,rfl,(pO (ss:=["phone","names"]) ?_ (.cons ⟨_,rfl⟩ (.cons ⟨_,rfl⟩ .nil)) (Nat.le_of_ble_eq_true rfl))⟩ (.cons rfl ⟨_,rfl,(pO (ss:=["name","phones"]) ?_ (.cons ⟨_,rfl⟩ (.cons ⟨_,rfl⟩ .nil)) (Nat.le_of_ble_eq_true rfl))⟩ (.cons rfl ⟨_,rfl,(pO (ss:=["name","name"]) ?_ (.cons ⟨_,rfl⟩ (.cons ⟨_,rfl⟩ .nil)) (Nat.le_of_ble_eq_true rfl))⟩ (.cons rfl ⟨_,rfl,(pO (ss:=["name","name","hour","hour"]) ?_ (.cons ⟨_,rfl⟩ (.cons ⟨_,rfl⟩ (.cons ⟨_,rfl⟩ (.cons ⟨_,rfl⟩ .nil)))) (Nat.le_of_ble_eq_true rfl))⟩ (.cons rfl ⟨_,rfl,(pO (ss:=["name","name"]) ?_ (.cons ⟨_,rfl⟩ (.cons ⟨_,rfl⟩ .nil)) (Nat.le_of_ble_eq_true rfl))⟩ (.cons rfl ⟨_,rfl,(pO (ss:=["name","name","turns"]) ?_ (.cons ⟨_,rfl⟩ (.cons ⟨_,rfl⟩ (.cons ⟨_,rfl⟩ .nil))) (Nat.le_of_ble_eq_true rfl))⟩ (.cons rfl ⟨_,rfl,(pO (ss:=["phone"]) ?_ (.cons ⟨_,rfl⟩ .nil) (Nat.le_of_ble_eq_true rfl))⟩ (.cons rfl ⟨_,rfl,(pO (ss:=["phone"]) ?_ (.cons ⟨_,rfl⟩ .nil) (Nat.le_of_ble_eq_true rfl))⟩ .nil)))))))),sh (PySem.W.mg_of KX G ?_),GV (PySem.W.mg_of KX G ?_),sh (PySem.W.mg_of KX G ?_),sh (PySem.W.mg_of KX G ?_),sh (PySem.W.mg_of KX G ?_),sh (PySem.W.mg_of KX G ?_),wR (PySem.W.mg_of KX G ?_) (pO (ss:=["all","turns"]) ?_ (.cons ⟨_,rfl⟩ (.cons ⟨_,rfl⟩ .nil)) (Nat.le_of_ble_eq_true rfl)),sh (PySem.W.mg_of KX G ?_),sh (PySem.W.mg_of KX G ?_),sh (PySem.W.mg_of KX G ?_),GV (PySem.W.mg_of KX G ?_),sh (PySem.W.mg_of KX G ?_),sh (PySem.W.mg_of KX G ?_),sh (PySem.W.mg_of KX G ?_)⟩,λs u=>.of_eq rfl⟩
  all_goals try first|k_is|(intro _ _ _ _ _ _ us hl;rcases us with _|⟨_,_|⟨_,_|⟨_,_|⟨_,_|⟨_,_|⟨_,_|⟨_,us⟩⟩⟩⟩⟩⟩⟩<;>first|rfl|(exfalso;revert hl;simp;done))|rfl
