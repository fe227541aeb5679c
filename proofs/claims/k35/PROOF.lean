import PyProof.Rows.All
import Wide.All
import OpenK.AllK
import Wide.FinOn
import PyProof.EqAt
import PyProof.EqKinds
import PyProof.TupleCall
import PyProof.AttrMiss
import PyProof.IsiH_list
import PyProof.Rows.SetFrom
import KE.KDictOf
import KE.KTab
import PyProof.AutoListH
import KE.KSortTup
import KE.KItemsList
import KE.KEqDict
import KE.KIntText
import Lean
import PyProof.RulesRaise
import PyProof.RulesTry
import KE.KTryDeep
import KE.KTryMore
import KE.KTryOn
import KE.TryInHelper
import KE.TryLedger
import PyProof.ExcArgsOwn
import PyProof.ExcAttrAll.ValueError
import KE.KIsAll
import PyProof.ExcBaseAll.ValueError
import PyProof.InstStoreFacts
import PyProof.ExcInit
import PyProof.SeqI3
import PyProof.ConsumeWalk
import PyProof.IsRules
import PyProof.FactsAll.set_1
import PyProof.FactsAll.set_2
import PyProof.FactsTree
import PyProof.CollectWalk
import PyProof.Rows.SortStr
import PyProof.FactsAll.list_2
import PyProof.Rows.SortRuns
import PyProof.DictWalks
import PySem.Challenge.RW_callboard_k35_rings_of_many_names
set_option genInjectivity false
set_option genSizeOfSpec false
set_option genSizeOf false
set_option Elab.async false
set_option linter.all false
set_option maxRecDepth 100000
set_option maxHeartbeats 4000000
noncomputable section
open PySem renaming wpAny_bind->bh,wpAny_pure->bj,sizeLine_eq->b7,wpAny_call_entry->cq,wpAny_mono->cz,wpAny_holding->cE,wpAny_callSpecial?_slot->cH,codeAny_builtin->cM,wpAny_newObj_type->cQ,wpAny_truthy_bool->cW,wpAny_field->cZ,wpAny_Call_Name_kw->du,wpAny_seqItems->dA,plainId_quiet->dH,wpAny_rule->dI,codeAny_mono->dR,isSubtype_type->d6,wpAny_setField_rec->eh,builtinLookup_eq_fast->eC,wpAny_pyIter_list->eG,wpAny_setState_of->eI,codeAny_call_builtin->eK,wpAny_askSetting->eO,mem_of_lookup->eT,typeIs_str->eZ,wpAny_pyIter_tuple->fh,wpAny_typeOf->fB,wpAny_setField->fE,wpAny_isInstance->fN,wpAny_passesOwn->fS,typeLookup_type->fU,wpAny_call->gi,wpAny_richCompare_same->gq,wpAny_attempt->gu,wpAny_pyIter_zip->gz,weight_type_call_type->gE,codeAny_of_tree->gJ,wpAny_specialOf->gK,wpAny_updateSeq_pair->gO,wpAny_setEntries_of->gW,wpAny_runValue->gY,slot_dict_contains->hW,wpAny_onRaise->ig,wpAny_sequenceKey->ik,fits_of_scanBound->ip,wpAny_letOwnedTupleGo_zip->iy,wpAny_comprehension_free->iF,entryFor_of_tree->iG,check_set_init_1->iJ,wpAny_execs_nil->iU,getitemInPython_of_ne->i9,wpAny_newTuple->ja,call_meets->jg,wpAny_letTemporaryGo->jh,wpAny_newList->jq,concat_meets->jD,wpAny_assign_Name->jL,slot_list_getitem->jM,slot_dict_getitem->jN,wpAny_pyIter_enum->jO,wpAny_pyIter_slot->jQ,wpAny_of_eq->j6,wpAny_letGo->j7,wpAny_pyHash_str->ka,wpAny_execs_cons->kb,noFill_tuple_add->kg,wpAny_Name->kx,strKind_is->kG
open List renaming length_map->bi,mem_cons->bq,size_toArray->bz,getElem?_eq_getElem->bC,not_mem_nil->bE,length_append->bF,getElem?_eq_some_iff->bI,getElem?_map->bJ,mem_singleton->bK,mem_cons_of_mem->bL,mem_cons_self->bM,mem_map->bP,length_cons->bR,mem_append->bT,mem_append_right->bW,append_nil->b5,map_append->b6,length_nil->b9,map_cons->cb,append_assoc->cc,lookup_cons->cf,map_map->cj,nodup_cons->cp,nodup_append->cw,length_range->cx,nil_append->cC,all_eq_true->cD,mem_of_getElem?->cJ,extract_eq_take_drop->cV,mem_range->cY,length_take->df,length_pos_iff->dg,drop_eq_getElem_cons->dh,pairwise_iff_getElem->di,length_singleton->dj,getElem?_eq_none->dn,take_append_drop->dt,nodup_nil->dB,foldl_cons->dD,getD_eq_getElem?_getD->dJ,take_length->dN,mem_reverse->dP,getElem?_append_left->dQ,length_eq_zero_iff->dW,replicate_succ->dY,reverse_append->dZ,flatMap_append->d3,map_inj_right->eA,find?_cons->eB,getElem?_append_right->eD,any_eq_true->eP,length_filterMap_le->eQ,mem_flatMap->eR,filterMap_cons->eS,all_cons->eU,mem_filterMap->eW,getElem?_set_self->fi,take_of_length_le->fm,take_add_one->fu,pairwise_map->fz,flatMap_cons->fA,getElem?_toArray->fD,mem_append_left->fJ,length_drop->fL,getElem_mem->fM,reverse_reverse->fQ,getElem_of_mem->fR,getLast_eq_getLastD->gh,drop_eq_nil_of_le->gp,filter_cons->gA,length_replicate->gC,pairwise_reverse->gF,mem_filter->gH,getElem?_set_ne->gI,pairwise_append->gQ,any_map->gS,getElem?_range->gU,map_congr_left->gX,drop_drop->hG,getLastD_cons->ic,length_eraseIdx_of_lt->ii,ext_getElem?->iq,reverse_perm->iu,getElem?_eq_none_iff->iA,getElem?_take_of_lt->iB,all_map->iK,zipIdx_cons->iL,contains_eq_any_beq->iO,eq_of_mem_replicate->iP,getElem?_replicate->iQ,pairwise_singleton->iS,append_cancel_left->iT,of_mem_zip->iV,forIn_cons->iW,map_eq_append_iff->i7,forIn_nil->i8,perm_append_comm->jc,filterMap_append->je,pairwise_flatMap->jf,perm_cons_erase->jj,mem_erase_of_ne->jk,getElem?_append->jl,map_eq_cons_iff->jm,mem_map_of_mem->jt,map_nil->jG,pairwise_cons->jH,map_id'->jI,getElem_range->jK,getElem_take->jS,getElem_drop->jT,mapM_toArray->jW,flatten_cons->jX,not_lt->j8,drop_length->kj,getElem_map->kq,getLast_mem->kr,flatMap_nil->ku,zipIdx_nil->kB,drop_zero->kL,any_cons->kO,map_drop->kS
open PySem.Heap renaming get?_push_of_some->bp,lt_size->bB,get?_push_size->bD,size_push->bY,get?_update_self->dq,get?_update_other->gm,size_update->iM,get?_update_ne->jw,get?_push_ne->jU
open PyProof.Rows renaming wpS_bind->br,wpS_pure->bu,wpS_forRange->cI,callWith_type1->cP,slot_tuple_getitem->cS,wpS_modify->dC,wpS_mono->d9,listItems_at->em,wpS_get->eV,callWith_builtin1->eY,SetOf_congr->fY,wpS_lift->g9,setObjOf_fresh->hV,slot_str_gt->iN,subscriptTail_builtinR->iZ,listUpdate_at->jr,entry_tuple_getitem->js,getElem?_mirror_all->ju,args_tuple_getitem->jE,seqEpoch_at->j9,size_push'->kF
def bv:=@if_neg
def bA:=@if_pos
def bV:=@or_false
def bZ:=@decide_eq_true
def cA:=@not_or
def cB:=@decide_eq_false
def de:=@congrArg
def dG:=@getElem?_pos
def dX:=@beq_eq_false_iff_ne
def eH:=@of_decide_eq_true
def fv:=@decide_eq_true_eq
def fK:=@beq_iff_eq
def gj:=@decide_eq_false_iff_not
def gD:=@if_true
def iD:=@if_false
def jV:=@bne_self_eq_false
def ko:=@map_eq_pure_bind
open Nat renaming le_refl->bw,ne_of_lt->bG,lt_of_lt_of_le->bO,le_trans->bS,lt_of_succ_lt->ce,zero_le->cF,lt_irrefl->cL,ne_of_gt->cN,lt_succ_of_lt->cR,le_succ->dF,lt_succ_self->dM,le_add_right->dO,lt_of_succ_lt_succ->fk,lt_of_succ_le->fw,le_of_lt->fV,succ_pos->fZ,lt_or_ge->gc,lt_of_le_of_ne->gg,succ_lt_succ->gB,not_lt_zero->gL,zero_add->gN,min_eq_left->gR,lt_trans->iE,le_add_left->iX,mul_le_mul_right->jn,pow_le_pow_right->jo,add_le_add_left->jx,le_of_eq->jB,succ_le_of_lt->jY,min_le_right->kh,not_lt->kI,mul_le_mul->kK,add_assoc->kP,succ_mul->kT,min_self->kU,sub_zero->kW,sub_self->kX
open Option.some renaming inj->bH,injEq->io
open Bool renaming false_ne_true->bN,and_eq_true->cO,eq_false_iff->eJ,and_eq_true_iff->eN,and_false->fC,true_and->gy,false_eq_true->hZ,eq_iff_iff->kA,or_eq_true->kC,or_false->kN,and_true->kQ,beq_comm->kR
open Ne renaming symm->bQ
open Array renaming toList_append->bU,length_toList->bX,getElem?_toList->ci,toList_push->cX,perm_iff_toList_perm->eF,getElem?_eq_getElem->eM,size_eq_one_iff->fG,toList_reverse->fO,toList_extract->fP,toList_eraseIdxIfInBounds->gG,size_extract->h9,toList_setIfInBounds->ij,getElem?_eq_none->i6,toList_modify->jv,append_assoc->jA
open PySem.F renaming called_set->b8,slot_tuple_iterator_next->eE,slot_list_lt->fH,slot_list_getattribute->fX,slot_zip_next->gP,args_tuple_iterator_next_1->gZ,entry_tuple_iterator_next->hX,entry_type_call->il,slot_dict_getitem->iw,args_tuple_add_2->iC,typeCall_set_1->iH,entry_set_init->iI,entry_tuple_add->iR,slot_tuple_add->iY,args_zip_next_1->jP,plain_list_iadd->jR,entry_zip_next->km,args_list_lt_2->kn,plain_set_new->kD,slot_set_iter->kE,entry_list_lt->kH
open Int renaming emod_lt_of_pos->ck,emod_nonneg->cu,eq_ofNat_of_zero_le->cT,toNat_natCast->dS,mul_le_mul_of_nonneg_left->gT,emod_add_mul_ediv->jd,add_zero->kY
open PyProof.Rows.F renaming plain_set_update_loop->cG,entry_set_update_loop->dv
open PySem.Around renaming under_plainId->cK,under_plain->hU
open PySem.PassesOwn renaming never->cU
open PySem.Obj renaming data_mapFields->dw,isFreed_of_fields->fF,cls_mapFields->im
open List.cons renaming inj->dz
open PySem.Heap.SameBut renaming update->dE,refl->gk
open PySem.W renaming kia_one->dU,plainGet_of->jp,callWith_K->jC,kitx_list->j4,cellsFrom_some->kc,methodCall_KW->kz
open PySem.Calls renaming spliced_cons->eX,spliced_nil->ft,Name_function_global->ie,call_function_entry->iz
open Option renaming map_eq_some_iff->fj,map_some->fT,isSome_iff_exists->fW,getD_none->ki
open PySem.Code renaming quiet_builtin->hJ
open PySem.Walks renaming list->iv,tuple->kZ
open List.Perm renaming append_left->jb,of_eq->kJ
open PySem.Draws renaming list->ji
open PySem.SeqAt.EqAt renaming int_str->jy,str_int->jz
open PySem.SeqAt renaming notIn_listAt->jF,in_listAt->ky
open List.Nodup renaming sublist->jJ
open Sum.inr renaming inj->jZ
open PySem.Moved renaming trans->j5
open PySem.Paired renaming length->kM
open PySem.Heap.IsSliceOf renaming new->k7
abbrev mZ:=PySem.W.Frag
local macro_rules | `(tactic| walk_at "l") => `(tactic| (intro _ _ _ h; repeat (first | (obtain ⟨e, _⟩ := h; subst e; rfl; done) | (cases h; rename_i h))))
local macro_rules | `(tactic| walk_at "m") => `(tactic| (intro _ _ _ _ h; repeat (first | (obtain ⟨e, _⟩ := h; subst e; rfl; done) | (cases h; rename_i h))))
abbrev Vl:=PySem.Value
abbrev Sd:=PySem.Shared
abbrev Pg:=PySem.Program
abbrev Ar:=PySem.Around
abbrev Wo:=PySem.World
abbrev T0(α:Type _):=List α
abbrev QQQ:=List PySem.Str
abbrev QQX:=PySem.Value->PySem.Shared->Prop
abbrev QQY:=List (PySem.Addr×PySem.Obj)
abbrev QQZ:=PySem.Str->Option PySem.Value
abbrev QXQ:=List PySem.Addr
section
open PySem PySem.Spec PyProof.Rows
namespace L2
def x5{α:Sort u}{β:Sort v}{p q r:α->β->Prop}{C:Prop}(h:∃a b,p a b/\q a b/\r a b)(f:∀a b,p a b->q a b->r a b->C):C:=by obtain⟨a,b,h1,h2,h3⟩:=h;exact f a b h1 h2 h3
abbrev nS:=Sum Int Str
noncomputable def wg:nS->Vl->Bool
 | .inl k,v=>Value.isInt k v
 | .inr x,v=>Value.isStrOf x v
noncomputable def LR(w:Wo):nS->Int
 | .inl k=>hashInt k
 | .inr x=>hashStr w x
def nL:∀{k:nS} {v:Vl},wg k v=true->(∃i t,k=Sum.inl i/\v=Value.int i t)\/(∃x t,k=Sum.inr x/\v=Value.str x t)
 | .inl i,v,h=>by obtain⟨t,e⟩:=Value.isInt_shape (k:=i) (v:=v) h;exact .inl ⟨i,t,rfl,e⟩
 | .inr x,v,h=>by obtain⟨t,e⟩:=Value.isStrOf_shape (x:=x) (v:=v) h;exact .inr ⟨x,t,rfl,e⟩
def Dh(i:Int)(t:Tok):wg (.inl i) (.int i t)=true:=by simp[wg,Value.isInt]
def C6(x:Str)(t:Tok):wg (.inr x) (.str x t)=true:=by simp[wg,Value.isStrOf]
def Ie(a b:Int):decide ((Sum.inl a:nS)=Sum.inl b)=(a==b):=by
 by_cases e:a=b
 .subst e;simp
 .have h:¬(Sum.inl a:nS)=Sum.inl b:=λq=>e (Sum.inl.inj q);rw[cB h];exact(dX.mpr e).symm
def ID(a b:Str):decide ((Sum.inr a:nS)=Sum.inr b)=decide (a=b):=by
 by_cases e:a=b
 .subst e;simp
 .have h:¬(Sum.inr a:nS)=Sum.inr b:=λq=>e (jZ q);rw[cB h,cB e]
def IF(a:Int)(b:Str):decide ((Sum.inl a:nS)=Sum.inr b)=false:=cB (λq=>nomatch q)
def IK(a:Str)(b:Int):decide ((Sum.inr a:nS)=Sum.inl b)=false:=cB (λq=>nomatch q)
noncomputable def nK(prog:Pg)(w:Wo):PySem.KeyKind prog w nS where
 is:=wg
 hash:=LR w
 inj:=λv a b ha hb=>by
  rcases nL ha with⟨i,t,rfl,rfl⟩|⟨x,t,rfl,rfl⟩
  .rcases nL hb with⟨j,u,rfl,e⟩|⟨y,u,rfl,e⟩
   .injection e with e1 _;rw[e1]
   .exact nomatch e
  .rcases nL hb with⟨j,u,rfl,e⟩|⟨y,u,rfl,e⟩
   .exact nomatch e
   .injection e with e1 _;rw[e1]
 byValue:=λk v h=>by rcases nL h with⟨i,t,rfl,rfl⟩|⟨x,t,rfl,rfl⟩<;>rfl
 pyHash:=λhv h=>by
  rcases nL hv with⟨i,t,rfl,rfl⟩|⟨x,t,rfl,rfl⟩
  .exact wpAny_pyHash_int h
  .exact ka h
 eqBool:=λhu hv h=>by
  rcases nL hu with⟨i,t,rfl,rfl⟩|⟨x,t,rfl,rfl⟩
  .rcases nL hv with⟨j,u,rfl,rfl⟩|⟨y,u,rfl,rfl⟩
   .rw[Ie]at h;exact wpAny_eqBool_int h
   .rw[IF]at h;exact jy i t y u _ _ _ _ h
  .rcases nL hv with⟨j,u,rfl,rfl⟩|⟨y,u,rfl,rfl⟩
   .rw[IK]at h;exact jz x t j u _ _ _ _ h
   .rw[ID]at h;exact wpAny_eqBool_str h
 «strs»:=λk x t v h=>by
  rcases nL h with⟨i,u,rfl,e⟩|⟨y,u,rfl,e⟩
  .exact nomatch e
  .injection e with e1 _
   subst e1;cases v<;>rfl
def zJ(prog:Pg)(w:Wo)(i:Int)(t:Tok):(nK prog w).is (.inl i) (.int i t)=true:=Dh i t
def uF(prog:Pg)(w:Wo)(x:Str)(t:Tok):(nK prog w).is (.inr x) (.str x t)=true:=C6 x t
inductive V where
 | lw|bl (b:Bool)|int (i:Int)|str (x:Str)|byt (b:Array UInt8)|flt (b:UInt64)|ref (a:Addr)|ty (n:String)
 deriving DecidableEq
def nE:V->Vl->Prop
 | .lw,u=>u=Value.none
 | .bl b,u=>u=Value.bool b
 | .int i,u=>∃t,u=Value.int i t
 | .str x,u=>∃t,u=Value.str x t
 | .byt b,u=>∃t,u=Value.bytes b t
 | .flt b,u=>∃t,u=Value.float b t
 | .ref a,u=>u=Value.ref a
 | .ty n,u=>u=Value.type n
abbrev nj:T0 V->T0 Vl->Prop:=Paired nE
def nj.length{xs:T0 V}{us:T0 Vl}(r:nj xs us):xs.length=us.length:=kM r
theorem nj.get:∀{xs:T0 V} {us:T0 Vl} {i:Nat} {x:V},nj xs us->xs[i]?=some x->∃u,us[i]?=some u/\nE x u
 | _,_,_,_,.nil,e=>by simp at e
 | _,_,0,_,.cons r _,e=>by simp at e;subst e;exact⟨_,rfl,r⟩
 | _,_,i+1,x,.cons _ t,e=>by obtain⟨u,h1,h2⟩:=nj.get (i:=i) (x:=x) t (by simpa using e);exact⟨u,by simpa using h1,h2⟩
theorem nj.append:∀{xs ys:T0 V} {us ws:T0 Vl},nj xs us->nj ys ws->nj (xs++ys) (us++ws)
 | _,_,_,_,.nil,s=>s
 | _,_,_,_,.cons r t,s=>.cons r (nj.append t s)
theorem nj.take:∀{xs:T0 V} {us:T0 Vl} (n:Nat),nj xs us->nj (xs.take n) (us.take n)
 | _,_,0,_=>.nil
 | _,_,_+1,.nil=>.nil
 | _,_,n+1,.cons r t=>.cons r (nj.take n t)
theorem nj.drop:∀{xs:T0 V} {us:T0 Vl} (n:Nat),nj xs us->nj (xs.drop n) (us.drop n)
 | _,_,0,r=>r
 | _,_,_+1,.nil=>.nil
 | _,_,n+1,.cons _ t=>nj.drop n t
def tS:Option V->Option Vl->Prop
 | some v,some u=>nE v u
 | none,none=>True
 | _,_=>False
def KV{κ:Type}:T0 (κ×V)->T0 (κ×Vl)->Prop:=Paired λ(p:κ×V) (q:κ×Vl)=>p.1=q.1/\nE p.2 q.2
noncomputable def kV:nS->V
 | .inl i=>.int i
 | .inr x=>.str x
inductive HO where
 | lst (xs:List V)
 | tup (xs:List V)
 | dK (kvs:List (nS×V))|dT (kvs:List (List nS×V))
 | set (S:Int->Bool) (n:Nat)
 | ins (C dx:Addr) (fs:List (Str×V))
 | own (x:Addr)
 | xd (fs:List (Str×V))
 | met (f x:Addr)
 | rng (lo hi:Int)
 | frz (o:Obj) (u:HO)
 | tbl (ps:Array Vl)
 | ext (φ:Heap->Prop)
abbrev Hp:=Addr->Option HO
noncomputable def upd(H:Hp)(a:Addr)(o:HO):Hp:=λb=>if b=a then some o else H b
def mY{H:Hp}{a:Addr}{o:HO}:upd H a o a=some o:=by unfold upd;rw[bA rfl]
def m7{H:Hp}{a b:Addr}{o:HO}(h:b≠a):upd H a o b=H b:=by unfold upd;rw[bv h]
def nu{H:Hp}{a b:Addr}{o:HO}(h:H a=some o)(h':H b=none):a≠b:=by intro e;subst e;rw[h]at h';cases h'
section
variable (P:Pg)(w:Wo)
def yX(h:Heap)(a:Addr)(its:Array Vl):Prop:=∃o,h.get? a=some o/\o.cls=.type "tuple"/\(∃n,o.data=.seq its n)/\o.dict=none
def og(H:Hp)(h:Heap)(a:Addr):HO->Prop
 | .lst xs=>xs.length<=sizeLine/\∃(its:T0 Vl) (n:Nat),nj xs its/\h.get? a=some {cls:=.type "list",data:=.seq its.toArray n}
 | .tup xs=>xs.length<=sizeLine/\∃its:T0 Vl,nj xs its/\yX h a its.toArray
 | .dK kvs=>kvs.length<=sizeLine/\(a==sysModules)=false/\∃vs,KV kvs vs/\h.DictOf (nK P w) a vs
 | .dT kvs=>kvs.length<=sizeLine/\(a==sysModules)=false/\∃xs:T0 (List nS×Addr×Vl),Paired (λ(p:List nS×V) (q:List nS×Addr×Vl)=>p.1=q.1/\H q.2.1=some (.tup (p.1.map kV))/\nE p.2 q.2.2) kvs xs/\
   ∃o es ep,h.get? a=some o/\o.ExactDict/\o.data=.dict es ep/\es.toList=xs.map (entryOfKey (tupleKind (nK P w)))/\(xs.map (·.1)).Nodup
 | .set S n=>h.SetOf (intKind P w) a S n
 | .ins C dx fs=>H dx=some (.own a)/\fs.length<=1000/\dx≠a/\h.get? a=some (W.instObj C dx)/\
   ∃mA,h.Ns1 dx mA/\(∀f,tS (fs.lookup f) (mA f))/\PySem.Within mA (fs.map (·.1))
 | .own _=>∃o,h.get? a=some o
 | .xd fs=>∃mA,h.Ns1 a mA/\∀f,tS (fs.lookup f) (mA f)
 | .rng lo hi=>∃t u v,h.get? a=some {cls:=.type "range",data:=.fields #[.int lo t,.int hi u,.int 1 v]}
 | .frz o u=>h.get? a=some o/\og H h a u
 | .tbl ps=>h.get? a=some {cls:=.none,data:=.fields ps}
 | .met f x=>h.get? a=some (W.methodObj (.ref f) (.ref x))
 | .ext φ=>φ h/\(∃o,h.get? a=some o)/\∀h1 h2:Heap,φ h1->(∀o,h1.get? a=some o->h2.get? a=some o)->φ h2
def tL(H:Hp)(h:Heap):Prop:=∀a o,H a=some o->og P w H h a o
end
variable {H H':Hp}{h h':Heap}
section
variable {P:Pg}{w:Wo}{a:Addr}{o:HO}
def yX.is{its:Array Vl}(x:yX h a its):IsTup h a its:=let⟨o,e,c,d,_⟩:=x;⟨o,e,c,d⟩
def yX.new(h:Heap)(MW:Array Vl):yX (h.push {cls:=.type "tuple",data:=.seq MW}) h.objs.size MW:=⟨_,bD _ rfl,rfl,⟨_,rfl⟩,rfl⟩
def og.lt(x:og P w H h a o):a<h.objs.size:=by
 cases o with
 | lst xs=>obtain⟨_,_,_,_,e⟩:=x;exact bB e
 | tup xs=>obtain⟨_,_,_,_,e,_⟩:=x;exact bB e
 | dK kvs=>obtain⟨_,_,_,_,o,_,_,e,_⟩:=x;exact bB e
 | dT kvs=>obtain⟨_,_,_,_,o,_,_,e,_⟩:=x;exact bB e
 | set S n=>obtain⟨o,_,_,_,e,_⟩:=x;exact bB e
 | ins C dx fs=>obtain⟨_,_,_,e,_⟩:=x;exact bB e
 | own y=>obtain⟨_,e⟩:=x;exact bB e
 | xd fs=>obtain⟨_,⟨_,_,_,e,_⟩,_⟩:=x;exact bB e
 | rng lo hi=>obtain⟨_,_,_,e⟩:=x;exact bB e
 | frz ob u=>obtain⟨e,_⟩:=x;exact bB e
 | tbl ps=>exact bB (show h.get? a=some _ from x)
 | met f y=>exact bB (show h.get? a=some _ from x)
 | ext φ=>obtain⟨_,⟨_,e⟩,_⟩:=x;exact bB e
theorem Paired.my{α β:Type}{F G:α->β->Prop}:∀{l₁:List α} {l₂:List β},Paired F l₁ l₂->(∀a b,F a b->G a b)->Paired G l₁ l₂
 | _,_,.nil,_=>.nil
 | _,_,.cons r t,f=>.cons (f _ _ r) (Paired.my t f)
def og.lN(x:og P w H h a o)(k:∀b u,(b=a\/H b=some (.own a))->h.get? b=some u->h'.get? b=some u) (ho:∀b,H b=some (.own a)->H' b=some (.own a)) (ht:∀b xs,H b=some (.tup xs)->H' b=some (.tup xs)):og P w H' h' a o:=by
 induction o with
 | lst xs=>obtain⟨z,its,n,r,e⟩:=x;exact⟨z,its,n,r,k _ _ (.inl rfl) e⟩
 | tup xs=>obtain⟨z,its,r,ob,e,c⟩:=x;exact⟨z,its,r,ob,k _ _ (.inl rfl) e,c⟩
 | dK kvs=>obtain⟨z,y,vs,r,ob,es,ep,e,c⟩:=x;exact⟨z,y,vs,r,ob,es,ep,k _ _ (.inl rfl) e,c⟩
 | dT kvs=>obtain⟨z,y,xs,r,ob,es,ep,e,c⟩:=x;exact⟨z,y,xs,Paired.my r λp q z=>⟨z.1,ht _ _ z.2.1,z.2.2⟩,ob,es,ep,k _ _ (.inl rfl) e,c⟩
 | set S n=>obtain⟨ob,es,ep,t,e,c⟩:=x;exact⟨ob,es,ep,t,k _ _ (.inl rfl) e,c⟩
 | ins C dx fs=>obtain⟨d,z,ne,e,mA,⟨od,es,ep,e2,c⟩,r⟩:=x;exact⟨ho _ d,z,ne,k _ _ (.inl rfl) e,mA,⟨od,es,ep,k _ _ (.inr d) e2,c⟩,r⟩
 | own y=>obtain⟨ob,e⟩:=x;exact⟨ob,k _ _ (.inl rfl) e⟩
 | xd fs=>obtain⟨mA,⟨od,es,ep,e,c⟩,r⟩:=x;exact⟨mA,⟨od,es,ep,k _ _ (.inl rfl) e,c⟩,r⟩
 | rng lo hi=>obtain⟨t,u,v,e⟩:=x;exact⟨t,u,v,k _ _ (.inl rfl) e⟩
 | frz ob u ih=>obtain⟨e,q⟩:=x;exact⟨k _ _ (.inl rfl) e,ih q⟩
 | tbl ps=>have e:h.get? a=some {cls:=.none,data:=.fields ps}:=x;show h'.get? a=some {cls:=.none,data:=.fields ps};exact k a _ (.inl rfl) e
 | met f y=>have e:h.get? a=some (W.methodObj (.ref f) (.ref y)):=x;show h'.get? a=some (W.methodObj (.ref f) (.ref y));exact k a _ (.inl rfl) e
 | ext φ=>obtain⟨p,⟨o,e⟩,st⟩:=x;exact⟨st _ _ p λo q=>k _ _ (.inl rfl) q,⟨o,k _ _ (.inl rfl) e⟩,st⟩
def tL.lt(x:tL P w H h)(e:H a=some o):a<h.objs.size:=(x a o e).lt
def tL.fresh(x:tL P w H h)(e:h.objs.size<=a):H a=none:=by
 cases q:H a with
 | none=>rfl
 | some u=>exact absurd (bO (x.lt q) e) (cL _)
def tL.kept(x:tL P w H h)(k:∀b u,h.get? b=some u->h'.get? b=some u):tL P w H h':=λa o e=>(x a o e).lN (λb u _ q=>k b u q) (λ_ q=>q) λ_ _ q=>q
def tL.laid(x:tL P w H h)(k:∀b u,h.get? b=some u->h'.get? b=some u)(hp:h.objs.size<=a)(new:og P w (upd H a o) h' a o):tL P w (upd H a o) h':=λb u e=>by
 have hn:=x.fresh hp;by_cases hb:b=a
 .subst hb;rw[mY]at e;cases e;exact new
 .rw[m7 hb]at e;exact(x b u e).lN (λc v _ q=>k c v q) (λc q=>by rw[m7 (nu q hn)];exact q) λc xs q=>by rw[m7 (nu q hn)];exact q
end
def Rd(H:Hp)(a:Addr)(u:HO):Prop:=H a=some u\/∃o,H a=some (.frz o u)
def Rd.ok{P:Pg}{w:Wo}{H:Hp}{h:Heap}{a:Addr}{u:HO}(r:Rd H a u)(x:tL P w H h):og P w H h a u:=by
 rcases r with r|⟨o,r⟩
 .exact x a u r
 .obtain⟨_,q⟩:=x a _ r;exact q
def KZ:Option HO->Prop
 | some (.lst _)=>True
 | some (.dK _)=>True
 | some (.dT _)=>True
 | some (.set _ _)=>True
 | some (.ins _ _ _)=>True
 | some (.ext _)=>True
 | _=>False
variable {o':HO}
section
variable {P:Pg}{w:Wo}{x e:Addr}
def tL.write(ok:tL P w H h)(mu:KZ (H x))(he:e=x\/H e=some (.own x))(k:∀b u,b≠e->h.get? b=some u->h'.get? b=some u)(heo:∃u,h'.get? e=some u) (new:og P w (upd H x o') h' x o'):tL P w (upd H x o') h':=λb u q=>by
 have nown:∀c y,H c=some (.own y)->c≠x:=λc y r z=>by subst z;rw[r]at mu;exact mu
 have ntup:∀c xs,H c=some (.tup xs)->c≠x:=λc xs r z=>by subst z;rw[r]at mu;exact mu
 by_cases hb:b=x
 .subst hb;rw[mY]at q;cases q;exact new
 .rw[m7 hb]at q;by_cases hbe:b=e
  .have q':H b=some (.own x):=by
    rcases he with z|z
    .exact absurd (hbe.trans z) hb
    .rw[hbe];exact z
   rw[q]at q';cases q';obtain⟨v,hv⟩:=heo;exact⟨v,by rw[hbe];exact hv⟩
  .refine(ok b u q).lN (λc v hc r=>k c v ?_ r) (λc r=>by rw[m7 (nown c b r)];exact r) λc xs r=>by rw[m7 (ntup c xs r)];exact r
   rcases hc with rfl|hc
   .exact hbe
   .rintro rfl
    rcases he with z|z
    .exact nown c b hc z
    .rw[hc]at z;cases z;exact hb rfl
end
structure Un(fs ex:QXQ)(H H':Hp)(h h':Heap):Prop where
 keep:∀b o,h.get? b=some o->H b=none->b∉fs->b∉ex->h'.get? b=some o
 slot:∀b o,h.get? b=some o->H b=none->b∈fs->b∉ex->∃sl,h'.get? b=some {o with slots:=sl}
 free:∀b o,h.get? b=some o->H b=none->b∉ex->H' b=none
 there:∀b o,h.get? b=some o->b∉ex->∃o',h'.get? b=some o'
 lT:∀b xs,H b=some (.tup xs)->H' b=some (.tup xs)
 lR:∀b o u,H b=some (.frz o u)->H' b=some (.frz o u)
 lV:∀b ps,H b=some (.tbl ps)->∃more,H' b=some (.tbl (ps++more))
variable {ex ex':QXQ}{H1 H2:Hp}{h1 h2:Heap}
section
variable {fs fs':QXQ}{a x e:Addr}{o:HO}
def Un.any(u:Un fs ex H H1 h h1){b:Addr}{ob:Obj}(q:h.get? b=some ob)(n:H b=none)(hx:b∉ex):∃sl,h1.get? b=some {ob with slots:=sl}:=by
 by_cases hb:b∈fs
 .exact u.slot b ob q n hb hx
 .exact⟨ob.slots,u.keep b ob q n hb hx⟩
def Un.trans(a:Un fs ex H H1 h h1)(b:Un fs ex H1 H2 h1 h2):Un fs ex H H2 h h2 where
 keep:=λc ob q n hc hx=>b.keep c ob (a.keep c ob q n hc hx) (a.free c ob q n hx) hc hx
 slot:=λc ob q n hc hx=>by obtain⟨sl,e1⟩:=a.slot c ob q n hc hx;obtain⟨sl',e2⟩:=b.slot c _ e1 (a.free c ob q n hx) hc hx;exact⟨sl',e2⟩
 free:=λc ob q n hx=>by obtain⟨o',e1⟩:=a.there c ob q hx;exact b.free c o' e1 (a.free c ob q n hx) hx
 there:=λc ob q hx=>by obtain⟨o',e1⟩:=a.there c ob q hx;exact b.there c o' e1 hx
 lT:=λc xs q=>b.lT c xs (a.lT c xs q)
 lR:=λc ob xs q=>b.lR c ob xs (a.lR c ob xs q)
 lV:=λc ps q=>by obtain⟨m1,e1⟩:=a.lV c ps q;obtain⟨m2,e2⟩:=b.lV c _ e1;exact⟨m1++m2,by rw[e2,jA]⟩
def Un.kept(k:∀b u,h.get? b=some u->h'.get? b=some u):Un fs ex H H h h':=
 ⟨λb ob q _ _ _=>k b ob q,λb ob q _ _ _=>⟨ob.slots,k b ob q⟩,λ_ _ _ n _=>n,λb ob q _=>⟨ob,k b ob q⟩,λ_ _ q=>q,λ_ _ _ q=>q,λ_ ps q=>⟨#[],by rw[q];simp⟩⟩
def Un.refl:Un fs ex H H h h:=Un.kept λ_ _ q=>q
def Un.laid(k:∀b u,h.get? b=some u->h'.get? b=some u)(hp:h.objs.size<=a)(hn:H a=none):Un fs ex H (upd H a o) h h' where
 keep:=λb u q _ _ _=>k b u q
 slot:=λb u q _ _ _=>⟨u.slots,k b u q⟩
 free:=λb u q n _=>by rw[m7 (bG (bO (bB q) hp))];exact n
 there:=λb u q _=>⟨u,k b u q⟩
 lT:=λb xs q=>by rw[m7 (nu q hn)];exact q
 lR:=λb u xs q=>by rw[m7 (nu q hn)];exact q
 lV:=λb ps q=>⟨#[],by rw[m7 (nu q hn),q];simp⟩
def Un.write(mu:KZ (H x))(he:e=x\/H e=some (.own x))(k:∀b u,b≠e->h.get? b=some u->h'.get? b=some u)(heo:∃u,h'.get? e=some u):Un fs ex H (upd H x o) h h':=by
 have hx:∀b,H b=none->b≠x:=λb n z=>by subst z;rw[n]at mu;exact mu
 have hb:∀b,H b=none->b≠e:=λb n z=>by
  subst z;rcases he with r|r
  .exact hx b n r
  .rw[n]at r;cases r
 have hm:∀b u,H b=some u->¬KZ (some u)->b≠x:=λb u q nm z=>by subst z;rw[q]at mu;exact nm mu
 refine⟨λb u q n _ _=>k b u (hb b n) q,λb u q n _ _=>⟨u.slots,k b u (hb b n) q⟩,λb u q n _=>by rw[m7 (hx b n)];exact n,λb u q _=>?_,λb xs q=>by rw[m7 (hm b _ q λz=>z)];exact q,λb u xs q=>by rw[m7 (hm b _ q λz=>z)];exact q,λb ps q=>⟨#[],by rw[m7 (hm b _ q λz=>z),q];simp⟩⟩
 by_cases hbe:b=e
 .subst hbe;exact heo
 .exact⟨u,k b u hbe q⟩
end
noncomputable def K3(h:Heap)(H:Hp):QXQ:=(List.range h.objs.size).filter λa=>(H a).isSome
noncomputable def xQ(h:Heap)(H:Hp):Heap:=W.hideAll h (K3 h H)
def CB(h:Heap)(H:Hp):(xQ h H).objs.size=h.objs.size:=W.hideAll_size _ _
def Ex{h:Heap}{H:Hp}{b:Addr}{o:Obj}(e:h.get? b=some o)(n:H b=none):(xQ h H).get? b=some o:=
 W.hideAll_get _ e λhm=>by have q:(H b).isSome=true:=(gH.mp hm).2;rw[n]at q;simp at q
def Gc{h:Heap}{H:Hp}{b:Addr}{o:Obj}(e:(xQ h H).get? b=some o):h.get? b=some o/\H b=none:=by
 have e':h.get? b=some o:=W.of_hideAll (K3 h H) e;refine⟨e',?_⟩;cases q:H b with
 | none=>rfl
 | some x=>have hm:b∈K3 h H:=gH.mpr ⟨cY.mpr (bB e'),by simp[q]⟩;have z:(xQ h H).get? b=none:=W.hideAll_none (K3 h H) hm;rw[z]at e;cases e
structure Mod(K:mZ)(mg:QQZ)(base:Heap):Prop where
 ml:K.In base
 glob:base.Ns mainGlobals mg
 blt:∃mb,base.Ns builtinsNs mb/\∀x:Str,x≠"__name__"->mb x=bootBuiltins x
 nolimit:base.NoLimit
structure Cx where
 prog:Pg
 w:Wo
 K:mZ
 mg:QQZ
 base:Heap
 A:Ar
 N:QQQ
 s₀:Sd
 H₀:Hp
 env:Env
 outer:List Env
 stack:List Env
 ex:QXQ
 fn:Str->Bool
 calm:Bool
 pn:QQY
 xe:QQX
abbrev xw(X:Cx)(e:Expr)(es:T0 Expr):Prop:=starEach (e::es) X.env=(false,eval e X.env)::starEach es X.env
abbrev y6(X:Cx)(p:Pos)(es:T0 Expr):Prop:=(backTo p (starEach es X.env)).any (·.1)=false
abbrev ve(x:Str):Prop:=(x==("__debug__":Str))=false
abbrev DW(X:Cx)(x:Str):Prop:=X.fn x=true\/X.env.scope.names.lookup x=some .local
noncomputable def DQ(l:T0 Env):QXQ:=l.filterMap (·.frame)
abbrev Cx.fs(X:Cx):QXQ:=DQ X.outer
def Km(sc:Scope)(x:Str):Prop:=sc.names.lookup x=some .local\/sc.names.lookup x=some .cell\/sc.names.lookup x=some .free
def Dk(sc:Scope)(x:Str):Prop:=sc.names.lookup x=some .local\/sc.names.lookup x=some .cell
def L5(env:Env)(h:Heap)(m:QQZ)(x:Str)(u:Vl):Prop:=
 (env.kindOf x=some .local/\m x=some u)\/((env.kindOf x=some .cell\/env.kindOf x=some .free)/\∃c,env.cells.lookup x=some c/\h.IsCell c (some u))
structure Cx.Ok(X:Cx):Prop where
 mod:Mod X.K X.mg X.base
 kind:X.env.scope.kind=.function
 glob:X.env.globals=mainGlobals
 blt:X.env.builtins=builtinsNs
 above:X.s₀.heap.objs.size<=X.env.locals
 inj:∀x y c,X.env.cells.lookup x=some c->X.env.cells.lookup y=some c->x=y
 has:∀x,(X.env.kindOf x=some .cell\/X.env.kindOf x=some .free)->∃c,X.env.cells.lookup x=some c
 mC:∀x c,X.fn x=true->X.env.cells.lookup x=some c->X.s₀.heap.objs.size<=c
 hd:X.calm=true->X.A.handled=none
 frames:X.A.frames=some X.stack
 stk:X.stack=X.outer\/(X.stack=X.env::X.outer/\X.env.frame=some X.env.locals)
 exf:∀b∈X.ex,b≠X.env.locals/\∀x c,X.env.cells.lookup x=some c->c≠b
 bs:∀b o,X.base.get? b=some o->X.s₀.heap.get? b=some o/\X.H₀ b=none
 ma:X.base.objs.size<=X.s₀.heap.objs.size
 lY:∀b o,X.base.get? b=some o->b∉X.ex
 mh:∀b∈X.ex,b∉X.fs
 lM:X.s₀.heap.FunFrames X.base X.outer
 mq:∀b∈X.fs,X.H₀ b=none
structure Inv(X:Cx)(MV:QQY)(Y:List (Option V))(H:Hp)(s:Sd):Prop where
 ok:X.Ok
 os:s.os=X.s₀.os
 bare:AllBare s.gens
 base:Un X.fs X.ex X.H₀ H X.s₀.heap s.heap
 loc:∃m,s.heap.Ns X.env.locals m/\∀(i:Nat) (x:Str) (v:V),X.N[i]?=some x->Y[i]?=some (some v)->Km X.env.scope x->∃u,nE v u/\L5 X.env s.heap m x u
 cell:∀x c,X.env.cells.lookup x=some c->∃v,s.heap.IsCell c v
 free:H X.env.locals=none
 lF:∀x c,X.env.cells.lookup x=some c->H c=none
 pin:∀p∈X.pn++MV,s.heap.get? p.1=some p.2/\H p.1=none/\p.1≠X.env.locals/\p.1∉X.fs/\∀v,p.2.data≠.cell v
 lA:tL X.prog X.w H s.heap
 len:Y.length=X.N.length
variable {X:Cx}{MV:T0 (Addr × Obj)}{s:Sd}
section
variable {Y:T0 (Option V)}
def Cx.Ok.nofr(ok:X.Ok){b:Addr}{o:Obj}(e:X.base.get? b=some o):b∉X.fs:=λhb=>by have:=(ok.lM.mem hb).1;rw[e]at this;cases this
def Inv.bs(I:Inv X MV Y H s):∀b o,X.base.get? b=some o->s.heap.get? b=some o/\H b=none:=λb o e=>⟨I.base.keep b o (I.ok.bs b o e).1 (I.ok.bs b o e).2 (I.ok.nofr e) (I.ok.lY b o e),I.base.free b o (I.ok.bs b o e).1 (I.ok.bs b o e).2 (I.ok.lY b o e)⟩
def Inv.bk(I:Inv X MV Y H s):∀b o,X.base.get? b=some o->s.heap.get? b=some o:=λb o e=>(I.bs b o e).1
def Inv.mod(I:Inv X MV Y H s):Mod X.K X.mg X.base:=I.ok.mod
def Inv.lG(I:Inv X MV Y H s):X.K.In s.heap:=I.ok.mod.ml.keeps I.bk
def Inv.lt(I:Inv X MV Y H s):X.env.locals<s.heap.objs.size:=let⟨_,hn,_⟩:=I.loc;hn.lt
def Inv.sz(I:Inv X MV Y H s):X.s₀.heap.objs.size<=s.heap.objs.size:=bS I.ok.above (fV I.lt)
def Inv.mz(I:Inv X MV Y H s){a:Addr}(h:s.heap.objs.size<=a):a∉X.fs:=λhb=>by obtain⟨_,o,ho,_⟩:=I.ok.lM.mem hb;exact absurd (bO (bB ho) (bS I.sz h)) (cL _)
def Inv.mE(I:Inv X MV Y H s):∀x c,X.env.cells.lookup x=some c->c≠X.env.locals:=λx c e z=>by obtain⟨v,o,ho,hd⟩:=I.cell x c e;obtain⟨m,⟨o',es,ep,Oa,hd',_⟩,_⟩:=I.loc;rw[z,Oa]at ho;cases ho;rw[hd']at hd;cases hd
def Inv.lM(I:Inv X MV Y H s):s.heap.FunFrames X.base X.outer:=by
 have all:∀(l:T0 Env),(∀b∈DQ l,b∈X.fs)->X.s₀.heap.FunFrames X.base l->s.heap.FunFrames X.base l:=by
  intro l;induction l with
  | nil=>intro _ _;trivial
  | cons env r ih=>intro hs hl;obtain⟨hk,⟨L,o,hf,hn,ho,hd⟩,hr⟩:=hl;have hL:L∈X.fs:=hs L (by unfold DQ;rw[eS,hf];exact bM);obtain⟨sl,e⟩:=I.base.slot L o ho (I.ok.mq L hL) hL λz=>I.ok.mh L z hL;exact⟨hk,⟨L,_,hf,hn,e,hd⟩,ih (λb hb=>hs b (by unfold DQ;rw[eS,hf];exact bL _ hb)) hr⟩
 exact all X.outer (λ_ hb=>hb) I.ok.lM
def Inv.stack(I:Inv X MV Y H s):s.heap.FunFrames X.base X.stack:=by
 rcases I.ok.stk with e|⟨e,hf⟩
 .rw[e];exact I.lM
 .rw[e];obtain⟨m,hn,_⟩:=I.loc;refine .cons (by rw[I.ok.kind];decide) hf hn ?_ I.lM;exact Heap.get?_none_of_le (bS I.ok.ma I.ok.above)
def Inv.lJ(I:Inv X MV Y H s):∀b∈DQ X.stack,b∈X.env.locals::X.fs:=λb hb=>by
 rcases I.ok.stk with e|⟨e,hf⟩
 .rw[e]at hb;exact bL _ hb
 .rw[e]at hb;unfold DQ at hb;rw[eS,hf]at hb;exact hb
def Inv.lW(I:Inv X MV Y H s):∀b∈DQ X.stack,H b=none:=λb hb=>by
 rcases bq.mp (I.lJ b hb)with e|hb
 .rw[e];exact I.free
 .obtain⟨_,o,ho,_⟩:=I.ok.lM.mem hb;exact I.base.free b o ho (I.ok.mq b hb) λz=>I.ok.mh b z hb
def Inv.step{g':Array GenState}{t':Nat}{d':Drawn}{ch:QXQ}(I:Inv X MV Y H s) (NW:∀b∈ch,(b∈X.ex\/X.s₀.heap.objs.size<=b)/\b≠X.env.locals/\(∀x c,X.env.cells.lookup x=some c->c≠b)/\∀p∈X.pn++MV,p.1≠b) (keep:∀b o,b≠X.env.locals->b∉X.fs->b∉ch->s.heap.get? b=some o->H b=none->h'.get? b=some o) (slot:∀b o,b≠X.env.locals->b∈X.fs->b∉ch->s.heap.get? b=some o->H b=none->∃sl,h'.get? b=some {o with slots:=sl}) (free:∀b o,b∉ch->s.heap.get? b=some o->H b=none->H' b=none)
  (there:∀b o,b∉ch->s.heap.get? b=some o->∃o',h'.get? b=some o')
  (lT:∀b xs,H b=some (.tup xs)->H' b=some (.tup xs)) (lR:∀b o u,H b=some (.frz o u)->H' b=some (.frz o u)) (lV:∀b ps,H b=some (.tbl ps)->∃more,H' b=some (.tbl (ps++more)))
  (ns:∀m,s.heap.Ns X.env.locals m->h'.Ns X.env.locals m) (lA:tL X.prog X.w H' h') (hg:AllBare g'):
  Inv X MV Y H' {s with heap:=h',gens:=g',drawn:=d',toks:=t'}:=by
 have neL:∀b o,X.s₀.heap.get? b=some o->b≠X.env.locals:=λb o e=>bG (bO (bB e) I.ok.above);have neC:∀b o,X.s₀.heap.get? b=some o->b∉X.ex->b∉ch:=λb o e hx hb=>by
  rcases(NW b hb).1 with z|z
  .exact hx z
  .exact absurd (bO (bB e) z) (cL _)
 have Pm:∀x c,X.env.cells.lookup x=some c->∀v,s.heap.IsCell c v->h'.IsCell c v:=λx c e v ⟨o,ho,hd⟩=>by
  have nch:c∉ch:=λz=>(NW c z).2.2.1 x c e rfl;by_cases hc:c∈X.fs
  .obtain⟨sl,q⟩:=slot c o (I.mE x c e) hc nch ho (I.lF x c e);exact⟨_,q,hd⟩
  .exact⟨o,keep c o (I.mE x c e) hc nch ho (I.lF x c e),hd⟩
 refine⟨I.ok,I.os,hg,⟨λb o e n hb hx=>?_,λb o e n hb hx=>?_,λb o e n hx=>?_,λb o e hx=>?_,λb xs e=>lT b xs (I.base.lT b xs e),λb o xs e=>lR b o xs (I.base.lR b o xs e),λb ps e=>?_⟩,?_,λx c e=>?_,?_,λx c e=>?_,λp hp=>?_,lA,I.len⟩
 .exact keep b o (neL b o e) hb (neC b o e hx) (I.base.keep b o e n hb hx) (I.base.free b o e n hx)
 .obtain⟨sl,e1⟩:=I.base.slot b o e n hb hx;obtain⟨sl',e2⟩:=slot b _ (neL b o e) hb (neC b o e hx) e1 (I.base.free b o e n hx);exact⟨sl',e2⟩
 .obtain⟨o',e1⟩:=I.base.there b o e hx;exact free b o' (neC b o e hx) e1 (I.base.free b o e n hx)
 .obtain⟨o',e1⟩:=I.base.there b o e hx;exact there b o' (neC b o e hx) e1
 .obtain⟨m1,e1⟩:=I.base.lV b ps e;obtain⟨m2,e2⟩:=lV b _ e1;exact⟨m1++m2,by rw[e2,jA]⟩
 .obtain⟨m,hn,hl⟩:=I.loc;refine⟨m,ns m hn,λi x v e1 e2 e3=>?_⟩;obtain⟨u,r,l⟩:=hl i x v e1 e2 e3;refine⟨u,r,?_⟩;rcases l with l|⟨k,c,e,z⟩
  .exact .inl l
  .exact .inr ⟨k,c,e,Pm x c e _ z⟩
 .obtain⟨v,z⟩:=I.cell x c e;exact⟨v,Pm x c e v z⟩
 .obtain⟨m,⟨o,_,_,ho,_⟩,_⟩:=I.loc;exact free _ o (λz=>(NW _ z).2.1 rfl) ho I.free
 .obtain⟨v,o,ho,hd⟩:=I.cell x c e;exact free c o (λz=>(NW c z).2.2.1 x c e rfl) ho (I.lF x c e)
 .obtain⟨e,n,ne,nf,d⟩:=I.pin p hp;have nch:p.1∉ch:=λz=>(NW p.1 z).2.2.2 p hp rfl;exact⟨keep p.1 p.2 ne nf nch e n,free p.1 p.2 nch e n,ne,nf,d⟩
def Inv.un{t':Nat}(I:Inv X MV Y H s)(u:Un X.fs [] H H' s.heap h')(lA:tL X.prog X.w H' h'):Inv X MV Y H' {s with heap:=h',toks:=t'}:=by
 obtain⟨m,⟨o,es,ep,ho,r⟩,_⟩:=id I.loc;obtain⟨sl,hL⟩:=u.any ho I.free (by simp);exact I.step (g':=s.gens) (d':=s.drawn) (ch:=[]) (λ_ z=>nomatch z) (λb o _ hb _ e n=>u.keep b o e n hb (by simp)) (λb o _ hb _ e n=>u.slot b o e n hb (by simp)) (λb o _ e n=>u.free b o e n (by simp)) (λb o _ e=>u.there b o e (by simp)) u.lT u.lR u.lV (λm' hm=>by
  obtain⟨o',NK,Po,Oa,r'⟩:=hm;rw[ho]at Oa;cases Oa;exact⟨_,NK,Po,hL,r'⟩) lA I.bare
def Inv.call{g':Array GenState}{t':Nat}{d':Drawn}{ch:QXQ}(I:Inv X MV Y H s)(u:Un (DQ X.stack) ch H H' s.heap h')(lA:tL X.prog X.w H' h')(hg:AllBare g') (NW:∀b∈ch,(b∈X.ex\/X.s₀.heap.objs.size<=b)/\b≠X.env.locals/\(∀x c,X.env.cells.lookup x=some c->c≠b)/\∀p∈X.pn++MV,p.1≠b):
  Inv X MV Y H' {s with heap:=h',gens:=g',drawn:=d',toks:=t'}:=by
 obtain⟨m,⟨o,es,ep,ho,r⟩,_⟩:=id I.loc;obtain⟨sl,hL⟩:=u.any ho I.free λz=>(NW _ z).2.1 rfl;exact I.step (ch:=ch) NW (λb o hL hb hc e n=>u.keep b o e n (λz=>(bq.mp (I.lJ b z)).elim hL hb) hc) (λb o _ _ hc e n=>u.any e n hc) (λb o hc e n=>u.free b o e n hc) (λb o hc e=>u.there b o e hc) u.lT u.lR u.lV (λm' hm=>by
  obtain⟨o',NK,Po,Oa,r'⟩:=hm;rw[ho]at Oa;cases Oa;exact⟨_,NK,Po,hL,r'⟩) lA hg
def Inv.turned{t':Nat}{it:Addr}(I:Inv X MV Y H s)(k:∀b o,b≠it->s.heap.get? b=some o->h'.get? b=some o)(hn:H it=none)(hL:it≠X.env.locals) (h1:it∈X.ex\/X.s₀.heap.objs.size<=it) (h2:∀x c,X.env.cells.lookup x=some c->c≠it) (h3:∀p∈X.pn++MV,p.1≠it):Inv X MV Y H {s with heap:=h',toks:=t'}:=by
 have nit:∀b u,H b=some u->b≠it:=λb u e z=>by rw[z,hn]at e;cases e
 refine I.step (g':=s.gens) (d':=s.drawn) (ch:=[it]) (λb hb=>?_) (λb o _ _ hc e _=>k b o (λz=>hc (by simp[z])) e) (λb o _ _ hc e _=>⟨o.slots,k b o (λz=>hc (by simp[z])) e⟩) (λ_ _ _ _ n=>n)
  (λb o hc e=>⟨o,k b o (λz=>hc (by simp[z])) e⟩) (λ_ _ e=>e) (λ_ _ _ e=>e) (λb ps e=>⟨#[],by rw[e];simp⟩) (λm hm=>?_) (λb u e=>?_) I.bare
 .have e:b=it:=by simpa using hb
  subst e;exact⟨h1,hL,h2,h3⟩
 .obtain⟨o,es,ep,ho,r⟩:=hm;exact⟨o,es,ep,k _ o (bQ hL) ho,r⟩
 .refine(I.lA b u e).lN (λc v hc q=>k c v ?_ q) (λ_ q=>q) λ_ _ q=>q;rcases hc with z|z
  .rw[z];exact nit b u e
  .exact nit c _ z
def Inv.tok(I:Inv X MV Y H s)(t:Nat):Inv X MV Y H {s with toks:=t}:=I.un (h':=s.heap) (t':=t) Un.refl I.lA
def Inv.kept{t':Nat}(I:Inv X MV Y H s)(k:∀b u,s.heap.get? b=some u->h'.get? b=some u):Inv X MV Y H {s with heap:=h',toks:=t'}:=I.un (Un.kept k) (I.lA.kept k)
def Inv.laid{a:Addr}{o:HO}{t':Nat}(I:Inv X MV Y H s)(k:∀b u,s.heap.get? b=some u->h'.get? b=some u)(hp:s.heap.objs.size<=a)(new:og X.prog X.w (upd H a o) h' a o):
  Inv X MV Y (upd H a o) {s with heap:=h',toks:=t'}:=I.un (Un.laid k hp (I.lA.fresh hp)) (I.lA.laid k hp new)
def Inv.write{x e:Addr}{o:HO}{t':Nat}(I:Inv X MV Y H s)(mu:KZ (H x))(he:e=x\/H e=some (.own x))(k:∀b u,b≠e->s.heap.get? b=some u->h'.get? b=some u)(heo:∃u,h'.get? e=some u) (new:og X.prog X.w (upd H x o) h' x o):Inv X MV Y (upd H x o) {s with heap:=h',toks:=t'}:=I.un (Un.write mu he k heo) (I.lA.write mu he k heo new)
def Inv.lP{NX:QQY}(I:Inv X MV Y H s)(h:∀p∈NX,s.heap.get? p.1=some p.2/\H p.1=none/\p.1≠X.env.locals/\p.1∉X.fs/\∀v,p.2.data≠.cell v):Inv X NX Y H s:=
 ⟨I.ok,I.os,I.bare,I.base,I.loc,I.cell,I.free,I.lF,λp hp=>(bT.mp hp).elim (λz=>I.pin p (fJ _ z)) (h p),I.lA,I.len⟩
def zd{N:QQQ}(hN:N.Nodup){i j:Nat}{x:Str}(a:N[i]?=some x)(b:N[j]?=some x):i=j:=by obtain⟨h1,e1⟩:=bI.mp a;obtain⟨h2,e2⟩:=bI.mp b;exact(List.getElem_inj hN).mp (e1.trans e2.symm)
def xq{M:Model}{A:Ar}{E:QQX}{i:Nat}{x:Str}{v:V}{u:Vl}{Q:Unit->Sd->Prop}(I:Inv X MV Y H s)(hN:X.N.Nodup)(hi:X.N[i]?=some x)(hx:Dk X.env.scope x)(r:nE v u) (h:∀s',Inv X MV (Y.set i (some v)) H s'->(∃a,Heap.SameBut a s.heap s'.heap/\(a=X.env.locals\/X.env.cells.lookup x=some a))->Q () s') (hf:DW X x:=by first|exact .inl rfl|exact .inr rfl|assumption):wpAny M A (storeName X.env x u) Q E s:=by
 obtain⟨m,hn,hl⟩:=id I.loc;have hcls:(X.env.scope.kind==.class||(X.env.scope.kind==.module&&X.env.locals != X.env.globals))=false:=by rw[I.ok.kind];rfl
 have hiσ:i<Y.length:=by rw[I.len];exact(bI.mp hi).1
 have mE:=I.mE;have On:∀{a:Addr} {h':Heap},(∃o,s.heap.get? a=some o/\H a=none)->Heap.SameBut a s.heap h'->tL X.prog X.w H h':=λ{a h'} ha hs b ob e=>by
  obtain⟨_,_,Pp⟩:=ha;refine(I.lA b ob e).lN (λc w' hc q=>(hs.2 c ?_).trans q) (λ_ q=>q) λ_ _ q=>q
  rintro rfl
  rcases hc with rfl|hc
  .rw[Pp]at e;cases e
  .rw[Pp]at hc;cases hc
 rcases hx with hk|hk
 .refine wpAny_storeName_local hk hn (λh' OV hs=>?_) hcls;obtain⟨oL,_,_,Pq,_⟩:=id hn;refine h _ ⟨I.ok,I.os,I.bare,⟨λb o e n hb hx=>?_,λb o e n hb hx=>?_,I.base.free,λb o e hx=>?_,I.base.lT,I.base.lR,I.base.lV⟩,⟨_,OV,λj y v' e1 e2 e3=>?_⟩,λy c e=>?_,I.free,I.lF,λp hp=>?_,On ⟨oL,Pq,I.free⟩ hs,by simpa using I.len⟩ ⟨_,hs,.inl rfl⟩
  .exact(hs.2 b (bG (bO (bB e) I.ok.above))).trans (I.base.keep b o e n hb hx)
  .obtain⟨sl,e1⟩:=I.base.slot b o e n hb hx;exact⟨sl,(hs.2 b (bG (bO (bB e) I.ok.above))).trans e1⟩
  .obtain⟨o',e1⟩:=I.base.there b o e hx;exact⟨o',(hs.2 b (bG (bO (bB e) I.ok.above))).trans e1⟩
  .by_cases hj:j=i
   .subst hj;rw[hi]at e1;cases e1;rw[fi hiσ]at e2;cases e2;exact⟨u,r,.inl ⟨hk,by simp⟩⟩
   .rw[gI (bQ hj)]at e2;obtain⟨u',r',q⟩:=hl j y v' e1 e2 e3;refine⟨u',r',?_⟩;rcases q with⟨k,e⟩|⟨k,c,e,z⟩
    .refine .inl ⟨k,?_⟩;have:y≠x:=λe=>hj (zd hN e1 (e ▸ hi));simp[this,e]
    .exact .inr ⟨k,c,e,z.sameBut hs (mE y c e)⟩
  .obtain⟨w',z⟩:=I.cell y c e;exact⟨w',z.sameBut hs (mE y c e)⟩
  .obtain⟨e,n,ne,nf,d⟩:=I.pin p hp;exact⟨(hs.2 p.1 ne).trans e,n,ne,nf,d⟩
 .have hfn:X.fn x=true:=by
   rcases hf with z|z
   .exact z
   .rw[z]at hk;cases hk
  obtain⟨c,hc⟩:=I.ok.has x (.inl hk);obtain⟨w',z⟩:=I.cell x c hc;refine wpAny_storeName_cell I.ok.kind hk hc z (λh' hc' hs=>?_);obtain⟨oc,hoc,hocd⟩:=id z;refine h {s with heap:=h'} ⟨I.ok,I.os,I.bare,⟨λb o e n hb hx=>?_,λb o e n hb hx=>?_,I.base.free,λb o e hx=>?_,I.base.lT,I.base.lR,I.base.lV⟩,⟨m,hn.sameBut hs (bQ (mE x c hc)),λj y v' e1 e2 e3=>?_⟩,λy c' e=>?_,I.free,I.lF,λp hp=>?_,On ⟨oc,hoc,I.lF x c hc⟩ hs,by simpa using I.len⟩ ⟨c,hs,.inr hc⟩
  .exact(hs.2 b (bG (bO (bB e) (I.ok.mC x c hfn hc)))).trans (I.base.keep b o e n hb hx)
  .obtain⟨sl,e1⟩:=I.base.slot b o e n hb hx;exact⟨sl,(hs.2 b (bG (bO (bB e) (I.ok.mC x c hfn hc)))).trans e1⟩
  .obtain⟨o',e1⟩:=I.base.there b o e hx;exact⟨o',(hs.2 b (bG (bO (bB e) (I.ok.mC x c hfn hc)))).trans e1⟩
  .by_cases hj:j=i
   .subst hj;rw[hi]at e1;cases e1;rw[fi hiσ]at e2;cases e2;exact⟨u,r,.inr ⟨.inl hk,c,hc,hc'⟩⟩
   .rw[gI (bQ hj)]at e2;obtain⟨u',r',q⟩:=hl j y v' e1 e2 e3;refine⟨u',r',?_⟩;rcases q with q|⟨k,c',e,z'⟩
    .exact .inl q
    .refine .inr ⟨k,c',e,z'.sameBut hs ?_⟩
     rintro rfl
     exact hj (zd hN e1 (I.ok.inj _ _ _ e hc ▸ hi))
  .by_cases hcc:c'=c
   .subst hcc;exact⟨_,hc'⟩
   .obtain⟨w2,z2⟩:=I.cell y c' e;exact⟨w2,z2.sameBut hs hcc⟩
  .obtain⟨e,n,ne,nf,d⟩:=I.pin p hp;refine⟨(hs.2 p.1 ?_).trans e,n,ne,nf,d⟩;intro q;rw[q,hoc]at e;have q':oc=p.2:=bH e;exact d w' (by rw[<-q'];exact hocd)
def Ae{M:Model}{A:Ar}{E:QQX}{i:Nat}{x:Str}{v:V}{u:Vl}{Q:Unit->Sd->Prop}(I:Inv X MV Y H s)(hN:X.N.Nodup)(hi:X.N[i]?=some x)(hx:Dk X.env.scope x)(r:nE v u) (h:∀s',Inv X MV (Y.set i (some v)) H s'->Q () s') (hf:DW X x:=by first|exact .inl rfl|exact .inr rfl|assumption):wpAny M A (storeName X.env x u) Q E s:=
 xq I hN hi hx r (λs' I' _=>h s' I') hf
def Inv.mv{s':Sd}{ch:QXQ}(I:Inv X MV Y H s)(ho:s'.os=s.os)(u:Un (DQ X.stack) ch H H' s.heap s'.heap)(lA:tL X.prog X.w H' s'.heap)(hg:AllBare s'.gens) (NW:∀b∈ch,(b∈X.ex\/X.s₀.heap.objs.size<=b)/\b≠X.env.locals/\(∀x c,X.env.cells.lookup x=some c->c≠b)/\∀p∈X.pn++MV,p.1≠b):Inv X MV Y H' s':=by
 obtain⟨h',g',d',t',o'⟩:=s';have e:o'=s.os:=ho;subst e;exact I.call (g':=g') (t':=t') (d':=d') u lA hg NW
end
abbrev XK:=Vl->Option Addr->Hp->Prop
abbrev St:=T0 (Option V)
abbrev VK:=V->Hp->Prop
abbrev TE:=St->Hp->VK->Prop
abbrev TT:=St->Hp->(Bool->Hp->Prop)->Prop
abbrev TA:=St->Hp->(T0 V->Hp->Prop)->Prop
structure DC where
 nx:St->Hp->Prop
 rt:VK
 bk:St->Hp->Prop:=λ_ _=>False
 ct:St->Hp->Prop:=λ_ _=>False
abbrev TS:=DC->St->Hp->Prop
def EP(X:Cx)(MV:QQY)(Y:St)(Q:VK)(u:Vl)(s':Sd):Prop:=∃v H',Inv X MV Y H' s'/\nE v u/\Q v H'
def TP(X:Cx)(MV:QQY)(Y:St)(Q:Bool->Hp->Prop)(b:Bool)(s':Sd):Prop:=∃H',Inv X MV Y H' s'/\Q b H'
def AP(X:Cx)(MV:QQY)(Y:St)(Q:T0 V->Hp->Prop)(us:T0 Vl)(s':Sd):Prop:=∃vs H',Inv X MV Y H' s'/\nj vs us/\Q vs H'
def SP(X:Cx)(MV:QQY)(D:DC)(f:Flow)(s':Sd):Prop:=
 match f with
 | .next=>∃σ' H',Inv X MV σ' H' s'/\D.nx σ' H'
 | .brk=>∃σ' H',Inv X MV σ' H' s'/\D.bk σ' H'
 | .cont=>∃σ' H',Inv X MV σ' H' s'/\D.ct σ' H'
 | .ret u=>∃v σ' H',Inv X MV σ' H' s'/\nE v u/\D.rt v H'
def PE(X:Cx)(e:Expr)(t:TE):Prop:=
 ∀(MV:QQY) (s:Sd) (Y:St) (H:Hp) (Q:VK),Inv X MV Y H s->t Y H Q->wpAny (model X.prog X.w) X.A (eval e X.env) (EP X MV Y Q) X.xe s
def PT(X:Cx)(e:Expr)(t:TT):Prop:=
 ∀(MV:QQY) (s:Sd) (Y:St) (H:Hp) (Q:Bool->Hp->Prop),Inv X MV Y H s->t Y H Q->wpAny (model X.prog X.w) X.A (isTrue e X.env (eval e X.env)) (TP X MV Y Q) X.xe s
def PW(X:Cx)(e:Expr)(t:TT):Prop:=
 ∀(Ny:Sem Vl) (MV:QQY) (s:Sd) (Y:St) (H:Hp) (Q:Bool->Hp->Prop),Inv X MV Y H s->t Y H Q->wpAny (model X.prog X.w) X.A (isTrue e X.env Ny) (TP X MV Y Q) X.xe s
def PW.pt{X:Cx}{e:Expr}{t:TT}(h:PW X e t):PT X e t:=h _
def PA(X:Cx)(es:T0 Expr)(t:TA):Prop:=
 ∀(pos:Pos) (MV:QQY) (s:Sd) (Y:St) (H:Hp) (Q:T0 V->Hp->Prop),Inv X MV Y H s->t Y H Q->wpAny (model X.prog X.w) X.A (spliced (backTo pos (starEach es X.env))) (AP X MV Y Q) X.xe s
def PS(X:Cx)(st:Stmt)(t:TS):Prop:=
 ∀(MV:QQY) (s:Sd) (Y:St) (H:Hp) (D:DC),Inv X MV Y H s->t D Y H->wpAny (model X.prog X.w) X.A (exec st X.env) (SP X MV D) X.xe s
def xU(X:Cx)(st:T0 Stmt)(t:TS):Prop:=
 ∀(MV:QQY) (s:Sd) (Y:St) (H:Hp) (D:DC),Inv X MV Y H s->t D Y H->wpAny (model X.prog X.w) X.A (execs st X.env) (SP X MV D) X.xe s
def o6{α:Type}{t:Sem α}{Q Q':α->Sd->Prop}{M:Model}{A:Ar}{E:QQX}{s:Sd}(h:wpAny M A t Q E s)(hQ:∀a s,Q a s->Q' a s):wpAny M A t Q' E s:=cz h hQ λ_ _ x=>x
variable {tA tB':TT}{ta tb:TE}{pos:Pos}
section
def Jz(i:Nat):TE:=λY H Q=>∃v,Y[i]?=some (some v)/\Q v H
def tC(v:V):TE:=λ_ H Q=>Q v H
def Jd{i:Nat}{x:Str}{pos:Pos}(hN:X.N[i]?=some x)(hv:Km X.env.scope x)(hd:ve x:=by decide)(OA:(x==("__classdict__":Str))=false:=by decide):PE X (.Name x pos) (Jz i):=by
 intro MV s Y H Q I h;obtain⟨v,e,h⟩:=h;obtain⟨m,hn,hl⟩:=I.loc;obtain⟨u,r,l⟩:=hl i x v hN e hv;have fin:EP X MV Y Q u s:=⟨v,H,I,r,h⟩;rcases l with⟨hk,hm⟩|⟨hk,c,hc,hcell⟩
 .exact kx (wpAny_loadName_local I.ok.kind hk hn hm fin) hd
 .rcases hk with hk|hk
  .exact kx (wpAny_loadName_cell I.ok.kind hk hc hcell fin) hd
  .exact kx (wpAny_loadName_free I.ok.kind hk hc hcell fin OA) hd
def Iy{i j pos}:PE X (.Constant (.int i) j pos) (tC (.int i)):=λ_ _ _ H _ I h=>wpAny_Constant_int ⟨.int i,H,I.tok _,⟨_,rfl⟩,h⟩
def Ky{b j pos}:PE X (.Constant (.bool b) j pos) (tC (.bl b)):=λ_ _ _ H _ I h=>Constant_bool ⟨.bl b,H,I,rfl,h⟩
def Io{j pos}:PE X (.Constant .none j pos) (tC .lw):=λ_ _ _ H _ I h=>Constant_none ⟨.lw,H,I,rfl,h⟩
def Jy{x j pos}:PE X (.Constant (.str x) j pos) (tC (.str x)):=λ_ _ _ H _ I h=>Calls.Constant_str ⟨.str x,H,I.tok _,⟨_,rfl⟩,h⟩
def Gl(X:Cx)(x:Str):Prop:=X.env.kindOf x=some .globalImplicit
def vg{E:QQX}{MV:QQY}{s:Sd}{Y:St}{H:Hp}{x:Str}{u:Vl}{pos:Pos}{Q:QQX}(I:Inv X MV Y H s)(hg:Gl X x)(hm:X.mg x=some u)(h:Q u s) (hd:ve x:=by decide):wpAny (model X.prog X.w) X.A (eval (.Name x pos) X.env) Q E s:=
 ie I.ok.kind hg (Calls.loadGlobal_global (by rw[I.ok.glob];exact I.mod.glob.keeps I.bk) hm h) hd
def qu{E:QQX}{MV:QQY}{s:Sd}{Y:St}{H:Hp}{x:Str}{u:Vl}{pos:Pos}{Q:QQX}(I:Inv X MV Y H s)(hg:Gl X x)(hm:X.mg x=none)(hv:bootBuiltins x=some u)(h:Q u s) (hn:x≠"__name__":=by decide) (hd:ve x:=by decide):wpAny (model X.prog X.w) X.A (eval (.Name x pos) X.env) Q E s:=by
 obtain⟨mb,h1,h2⟩:=I.mod.blt;exact ie I.ok.kind hg (Calls.loadGlobal_builtin (by rw[I.ok.glob];exact I.mod.glob.keeps I.bk) hm (by rw[I.ok.blt];exact h1.keeps I.bk) ((h2 x hn).trans hv) h) hd
def yH{x:Str}{v:V}{u:Vl}{pos:Pos}(hg:Gl X x)(hm:X.mg x=some u)(r:nE v u)(hd:ve x:=by decide):PE X (.Name x pos) (tC v):=
 λ_ _ _ H _ I h=>vg I hg hm ⟨v,H,I,r,h⟩ hd
def FX{x:Str}{v:V}{u:Vl}{pos:Pos}(hg:Gl X x)(hm:X.mg x=none)(hv:bootBuiltins x=some u)(r:nE v u)(hn:x≠"__name__":=by decide)(hd:ve x:=by decide):PE X (.Name x pos) (tC v):=
 λ_ _ _ H _ I h=>qu I hg hm hv ⟨v,H,I,r,h⟩ hn hd
variable {a b:Expr}
def tB(t:TE):TT:=λY H Q=>t Y H λx H1=>∃c,x=.bl c/\Q c H1
def HS{e:Expr}{t:TE}(h:PE X e t)(he:∀Ny,isTrue e X.env Ny=(do let v<-Ny;standAt e.pos;holding [v] (truthy v)):=by intro _;rfl):PT X e (tB t):=by intro MV s Y H Q I hw;refine isTrue_plain (o6 (h MV s Y H _ I hw) λv s1 zz=>x5 zz λx H1 I1 r1 q1=>?_) (he _);obtain⟨d,rfl,q⟩:=q1;cases r1;exact cW ⟨H1,I1,q⟩
variable {Nb:T0 Expr}
def LM(t u:TT):TT:=λY H Q=>t Y H λc H1=>if c=true then u Y H1 Q else Q false H1
def MJ(t u:TT):TT:=λY H Q=>t Y H λc H1=>if c=true then Q true H1 else u Y H1 Q
def Lu(t:TT):TT:=λY H Q=>t Y H λc H1=>Q (!c) H1
def GV(ha:PT X a tA):PW X (.BoolOp .And [a] pos) tA:=by
 intro wh MV s Y H Q I h;refine isTrue_and (o6 (ha MV s Y H Q I h) λc s1 e=>?_);cases c with
 | true=>exact isTrue_and_nil e
 | false=>exact e
def HN(ha:PT X a tA):PW X (.BoolOp .Or [a] pos) tA:=by
 intro wh MV s Y H Q I h;refine isTrue_or (o6 (ha MV s Y H Q I h) λc s1 e=>?_);cases c with
 | false=>exact isTrue_or_nil e
 | true=>exact e
def HG(ha:PT X a tA)(hb:PW X (.BoolOp .And (b::Nb) pos) tB'):PW X (.BoolOp .And (a::b::Nb) pos) (LM tA tB'):=by
 intro wh MV s Y H Q I h;refine isTrue_and (o6 (ha MV s Y H _ I h) λc s1 ⟨H1,I1,q1⟩=>?_);cases c with
 | true=>exact hb wh MV s1 Y H1 Q I1 q1
 | false=>exact⟨H1,I1,q1⟩
def KS(ha:PT X a tA)(hb:PW X (.BoolOp .Or (b::Nb) pos) tB'):PW X (.BoolOp .Or (a::b::Nb) pos) (MJ tA tB'):=by
 intro wh MV s Y H Q I h;refine isTrue_or (o6 (ha MV s Y H _ I h) λc s1 ⟨H1,I1,q1⟩=>?_);cases c with
 | true=>exact⟨H1,I1,q1⟩
 | false=>exact hb wh MV s1 Y H1 Q I1 q1
def Jr(ha:PT X a tA):PT X (.UnaryOp .Not a pos) (Lu tA):=by intro MV s Y H Q I h;exact isTrue_not (ha MV s Y H (λc H1=>Q (!c) H1) I h)
def KP(ta tb:TE):TE:=λY H Q=>ta Y H λx H1=>∃c,x=.bl c/\if c=true then tb Y H1 Q else Q (.bl false) H1
def Jf{op}{t:TE}(h:PE X a t):PE X (.BoolOp op [a] pos) t:=λMV s Y H Q I hw=>BoolOp_one (h MV s Y H Q I hw)
def Iw(ha:PE X a ta)(hb:PE X (.BoolOp .And (b::Nb) pos) tb):PE X (.BoolOp .And (a::b::Nb) pos) (KP ta tb):=by
 intro MV s Y H Q I h;refine BoolOp_and (o6 (ha MV s Y H _ I h) λv s1 zz=>x5 zz λx H1 I1 r1 q1=>?_);obtain⟨c,rfl,q1⟩:=q1;cases r1;refine cW ?_;cases c with
 | true=>exact hb MV s1 Y H1 Q I1 q1
 | false=>exact⟨.bl false,H1,I1,rfl,q1⟩
end
def qM(K:mZ)(H:Hp)(a:Addr)(xs:T0 V):Prop:=
 Rd H a (.lst xs)\/
  ∃(o:Obj) (its:Array Vl) (n:Nat),K.lookup a=some o/\o.cls=.type "list"/\o.dict=none/\o.data=.seq its n/\its.size<=sizeLine/\nj xs its.toList
def p9(K:mZ)(H:Hp)(a:Addr)(xs:T0 V):Prop:=
 Rd H a (.tup xs)\/
  ∃(o:Obj) (its:Array Vl) (n:Nat),K.lookup a=some o/\o.cls=.type "tuple"/\o.dict=none/\o.data=.seq its n/\its.size<=sizeLine/\nj xs its.toList
noncomputable def Lz:Vl->Option V
 | .none=>some .lw
 | .bool b=>some (.bl b)
 | .int i _=>some (.int i)
 | .str x _=>some (.str x)
 | .bytes b _=>some (.byt b)
 | .float b _=>some (.flt b)
 | .ref a=>some (.ref a)
 | .type n=>some (.ty n)
 | _=>none
def nE.abs{x:V}{u:Vl}(r:nE x u):Lz u=some x:=by
 cases x with
 | lw=>cases r;rfl
 | bl _=>cases r;rfl
 | int _=>obtain⟨t,rfl⟩:=r;rfl
 | str _=>obtain⟨t,rfl⟩:=r;rfl
 | byt _=>obtain⟨t,rfl⟩:=r;rfl
 | flt _=>obtain⟨t,rfl⟩:=r;rfl
 | ref _=>cases r;rfl
 | ty _=>cases r;rfl
def nE.inj{x y:V}{u:Vl}(r:nE x u)(q:nE y u):x=y:=bH (r.abs.symm.trans q.abs)
theorem nj.inj:∀{xs ys:T0 V} {us:T0 Vl},nj xs us->nj ys us->xs=ys
 | _,_,_,.nil,.nil=>rfl
 | _,_,_,.cons r t,.cons r' t'=>by rw[r.inj r',nj.inj t t']
variable {xs ys:T0 V}
section
variable {Y:St}{a:Addr}
def p9.of{K:mZ}(h:H a=some (.tup xs)):p9 K H a xs:=.inl (.inl h)
def Inv.list(I:Inv X MV Y H s)(h:qM X.K H a xs):∃its:T0 Vl,nj xs its/\PlainL s.heap a its.toArray/\xs.length<=sizeLine:=by
 rcases h with h|⟨o,its,n,hk,hc,hd,hs,hz,r⟩
 .obtain⟨z,its,n,r,e⟩:=h.ok I.lA;exact⟨its,r,⟨_,n,e,rfl,rfl,rfl⟩,z⟩
 .refine⟨its.toList,r,⟨o,n,I.lG a o hk,hc,hd,by simpa using hs⟩,?_⟩;have e:=r.length;simp only[bX]at e;lia
def Inv.tuple(I:Inv X MV Y H s)(h:p9 X.K H a xs):∃its:T0 Vl,nj xs its/\IsTup s.heap a its.toArray/\xs.length<=sizeLine:=by
 rcases h with h|⟨o,its,n,hk,hc,hd,hs,hz,r⟩
 .obtain⟨z,its,r,p⟩:=h.ok I.lA;exact⟨its,r,p.is,z⟩
 .refine⟨its.toList,r,⟨o,I.lG a o hk,hc,n,by simpa using hs⟩,?_⟩;have e:=r.length;simp only[bX]at e;lia
def Inv.lH(I:Inv X MV Y H s)(h:qM X.K H a xs)(h':qM X.K H a ys):xs=ys:=by
 obtain⟨its,r,⟨o,n,e,_,_,d⟩,_⟩:=I.list h;obtain⟨its',r',⟨o',n',e',_,_,d'⟩,_⟩:=I.list h';rw[e]at e';cases e';rw[d]at d';injection d' with d1 _
 have:its=its':=by simpa using de Array.toList d1
 subst this;exact r.inj r'
def Inv.lE(I:Inv X MV Y H s)(h:p9 X.K H a xs)(h':p9 X.K H a ys):xs=ys:=by
 obtain⟨its,r,⟨o,e,_,n,d⟩,_⟩:=I.tuple h;obtain⟨its',r',⟨o',e',_,n',d'⟩,_⟩:=I.tuple h';rw[e]at e';cases e';rw[d]at d';injection d' with d1 _
 have:its=its':=by simpa using de Array.toList d1
 subst this;exact r.inj r'
end
abbrev Cx.lL(X:Cx)(E:QQX):Cx:={X with xe:=E}
abbrev Cx.mj(X:Cx):Cx:=X.lL λ_ _=>False
def Cx.Ok.lL{X:Cx}(ok:X.Ok)(E:QQX):(X.lL E).Ok:=
 ⟨ok.mod,ok.kind,ok.glob,ok.blt,ok.above,ok.inj,ok.has,ok.mC,ok.hd,ok.frames,ok.stk,ok.exf,ok.bs,ok.ma,ok.lY,ok.mh,ok.lM,ok.mq⟩
def Cx.Ok.lD{X:Cx}{E:QQX}(ok:(X.lL E).Ok):X.Ok:=
 ⟨ok.mod,ok.kind,ok.glob,ok.blt,ok.above,ok.inj,ok.has,ok.mC,ok.hd,ok.frames,ok.stk,ok.exf,ok.bs,ok.ma,ok.lY,ok.mh,ok.lM,ok.mq⟩
section
variable {Y:St}{E:QQX}
def Inv.lL(I:Inv X MV Y H s)(E:QQX):Inv (X.lL E) MV Y H s:=⟨I.ok.lL E,I.os,I.bare,I.base,I.loc,I.cell,I.free,I.lF,I.pin,I.lA,I.len⟩
def Inv.lD(I:Inv (X.lL E) MV Y H s):Inv X MV Y H s:=⟨I.ok.lD,I.os,I.bare,I.base,I.loc,I.cell,I.free,I.lF,I.pin,I.lA,I.len⟩
def SP.lD{D:DC}{f:Flow}{s':Sd}(h:SP (X.lL E) MV D f s'):SP X MV D f s':=by
 cases f with
 | next=>obtain⟨σ',H',I,q⟩:=h;exact⟨σ',H',I.lD,q⟩
 | brk=>obtain⟨σ',H',I,q⟩:=h;exact⟨σ',H',I.lD,q⟩
 | cont=>obtain⟨σ',H',I,q⟩:=h;exact⟨σ',H',I.lD,q⟩
 | ret u=>obtain⟨v,σ',H',I,r,q⟩:=h;exact⟨v,σ',H',I.lD,r,q⟩
def xU.mj{st:T0 Stmt}{t:TS}(h:xU X.mj st t):xU X st t:=λMV s Y H D I hw=>cz (h MV s Y H D (I.lL _) hw) (λ_ _ q=>q.lD) λ_ _ z=>False.elim z
end
variable {st:Stmt}{u:TS}{te:TE}
section
variable {Nb:T0 Stmt}{t:TS}{e:Expr}
def JM:TS:=λD Y H=>D.nx Y H
def Li(t u:TS):TS:=λD Y H=>t {D with nx:=u D} Y H
def GB:xU X [] JM:=λ_ _ Y H _ I h=>iU ⟨Y,H,I,h⟩
def Ds(h1:PS X st t)(h2:xU X Nb u):xU X (st::Nb) (Li t u):=by
 intro MV s Y H D I h;refine kb (o6 (h1 MV s Y H {D with nx:=u D} I h) λf s1 q=>?_);cases f with
 | next=>obtain⟨σ',H',I',q⟩:=q;exact h2 MV s1 σ' H' D I' q
 | ret v=>exact q
 | brk=>exact q
 | cont=>exact q
def Gw(h1:PS X st t):xU X [st] t:=by
 intro MV s Y H D I h;refine kb (o6 (h1 MV s Y H D I h) λf s1 q=>?_);cases f with
 | next=>exact iU q
 | ret v=>exact q
 | brk=>exact q
 | cont=>exact q
def Inv.quiet{MV:QQY}{Y:St}{H:Hp}{s:Sd}(I:Inv X MV Y H s):interactive X.env=false:=by simp[interactive,I.ok.kind]
def JS(te:TE):TS:=λD Y H=>te Y H λ_ H1=>D.nx Y H1
def GY(he:PE X e te)(hs:swapsWith e none pos.line X.env=pure false:=by rfl):PS X (.Expr e pos) (JS te):=by intro MV s Y H D I h;exact wpAny_Expr_any (o6 (he MV s Y H _ I h) λv s1 zz=>x5 zz λx H1 I1 r1 q1=>⟨Y,H1,I1,q1⟩) I.quiet hs
def LG(te:TE):TS:=λD Y H=>te Y H D.rt
def HI(he:PE X e te):PS X (.Return (some e) pos) (LG te):=by intro MV s Y H D I h;exact wpAny_Return_some (o6 (he MV s Y H _ I h) λv s1 zz=>x5 zz λx H1 I1 r1 q1=>⟨x,Y,H1,I1,r1,q1⟩)
def Mc(c:TT)(t u:TS):TS:=λD Y H=>c Y H λb H1=>if b=true then t D Y H1 else u D Y H1
def Kk{c:Expr}{a b:T0 Stmt}{tc:TT}(hc:PT X c tc)(ha:xU X a t)(hb:xU X b u):PS X (.If c a b pos) (Mc tc t u):=by
 intro MV s Y H D I h;refine wpAny_If (o6 (hc MV s Y H _ I h) λd s1 ⟨H1,I1,q1⟩=>?_);cases d with
 | true=>exact ha MV s1 Y H1 D I1 q1
 | false=>exact hb MV s1 Y H1 D I1 q1
def Iz:TS:=λ_ _ _=>False
def Ej:PS X st Iz:=λ_ _ _ _ _ _ h=>h.elim
end
abbrev TG:=V->St->Hp->(St->Hp->Prop)->Prop
abbrev G7:=T0 V->St->Hp->(St->Hp->Prop)->Prop
def PG(X:Cx)(Nw:Expr)(t:TG):Prop:=
 ∀(MV:QQY) (s:Sd) (Y:St) (H:Hp) (v:V) (u:Vl) (Q:St->Hp->Prop),Inv X MV Y H s->nE v u->t v Y H Q->
  wpAny (model X.prog X.w) X.A (assign Nw X.env u) (λ_ s'=>∃σ' H',Inv X MV σ' H' s'/\Q σ' H') X.xe s
def FB(X:Cx)(ts:T0 Expr)(t:G7):Prop:=
 ∀(MV:QQY) (s:Sd) (Y:St) (H:Hp) (vs:T0 V) (us:T0 Vl) (Q:St->Hp->Prop),Inv X MV Y H s->nj vs us->t vs Y H Q->
  wpAny (model X.prog X.w) X.A (assignInOrder ((assignEach ts X.env).map (·.2)) us) (λ_ s'=>∃σ' H',Inv X MV σ' H' s'/\Q σ' H') X.xe s
def DP(i:Nat):TG:=λv Y H Q=>Q (Y.set i (some v)) H
def F4{i:Nat}{x:Str}(hN:X.N.Nodup)(hi:X.N[i]?=some x)(hx:Dk X.env.scope x)(hf:DW X x:=by first|exact .inl rfl|exact .inr rfl|assumption):PG X (.Name x pos) (DP i):=by intro MV s Y H v u Q I r h;exact jL (Ae I hN hi hx r (λs' I'=>⟨_,H,I',h⟩) hf)
def Lo:G7:=λvs Y H Q=>vs=[]/\Q Y H
def Kn(t:TG)(u:G7):G7:=λvs Y H Q=>∃v r,vs=v::r/\t v Y H λσ' H'=>u r σ' H' Q
def Gd:FB X [] Lo:=by intro MV s Y H vs us Q I r h;obtain⟨e,h⟩:=h;subst e;cases r;exact assignInOrder_nil ⟨Y,H,I,h⟩
def EL{e:Expr}{es:T0 Expr}{t:TG}{u:G7}(h1:PG X e t)(h2:FB X es u) (hs:(assignEach (e::es) X.env).map (·.2)=assign e X.env::(assignEach es X.env).map (·.2):=by rfl):FB X (e::es) (Kn t u):=by
 intro MV s Y H vs us Q I r h;obtain⟨v,vr,e1,h⟩:=h;subst e1;cases r with
 | cons r rr=>rw[hs];refine assignInOrder_cons (o6 (h1 MV s Y H _ _ _ I r h) λ_ s1 ⟨σ1,H1,I1,q1⟩=>?_);exact h2 MV s1 σ1 H1 _ _ Q I1 rr q1
def L1(K:mZ)(n:Nat)(t:G7):TG:=λv Y H Q=>∃a xs,v=.ref a/\p9 K H a xs/\xs.length=n/\t xs Y H Q
def HJ{es:T0 Expr}{k:Nat}{t:G7}{n:Nat}(hc:X.calm=true)(h:FB X es t) (hn:(assignEach es X.env).length=n:=by rfl) (NG:(assignEach es X.env).findIdx? (·.1)=none:=by rfl):PG X (.Tuple es k pos) (L1 X.K n t):=by
 intro MV s Y H v u Q I r hw;obtain⟨a,xs,e1,hq,hl,hw⟩:=hw;subst e1;cases r;obtain⟨its,rv,ht,hz⟩:=I.tuple hq;refine assign_Tuple_tuple (I.ok.hd hc) ht (by simp[hn,<-hl,rv.length]) NG λh' hx=>?_;have I1:Inv X MV Y H {s with heap:=h'}:=I.kept (t':=s.toks) λb o e=>hx b o (bG (bB e)) e;exact h MV _ Y H xs _ Q I1 (by simpa using rv) hw
def Kc(te:TE)(g:TG):TS:=λD Y H=>te Y H λx H1=>g x Y H1 D.nx
def IJ{i:Nat}{x:Str}{e:Expr}{te:TE}{Nq:Pos}(hN:X.N.Nodup)(hi:X.N[i]?=some x)(hx:Dk X.env.scope x)(he:PE X e te)(hs:swapsWith e (some (.Name x Nq)) pos.line X.env=pure false:=by rfl)(hf:DW X x:=by first|exact .inl rfl|exact .inr rfl|assumption):
  PS X (.Assign [.Name x Nq] e pos) (Kc te (DP i)):=by
 intro MV s Y H D I h;refine wpAny_Assign_Name (o6 (he MV s Y H _ I h) λv s1 zz=>x5 zz λy H1 I1 r1 q1=>?_) hs;exact Ae I1 hN hi hx r1 (λs2 I2=>⟨_,H1,I2,q1⟩) hf
structure It where
 go:Nat->Hp->Prop
 mB:Nat->Hp->V->Hp->Prop
 stop:Nat->Hp->Prop
def ut(X:Cx)(MV:QQY)(H:Hp)(b:Addr):Prop:=
 H b=none/\b≠X.env.locals/\b∉X.fs/\(b∈X.ex\/X.s₀.heap.objs.size<=b)/\(∀x c,X.env.cells.lookup x=some c->c≠b)/\∀p∈X.pn++MV,p.1≠b
def Inv.lQ{X:Cx}{MV:QQY}{Y:St}{H H':Hp}{s:Sd}{b:Addr}(I:Inv X MV Y H s)(hb:s.heap.objs.size<=b)(hn:H' b=none):ut X MV H' b:=by
 refine⟨hn,cN (bO I.lt hb),I.mz hb,.inr (bS I.sz hb),λx c e z=>?_,λp hp z=>?_⟩
 .obtain⟨v,q⟩:=I.cell x c e;exact absurd (bO q.lt (by rw[z];exact hb)) (cL _)
 .exact absurd (bO (bB (I.pin p hp).1) (by rw[z];exact hb)) (cL _)
structure wG(P:Pg)(w:Wo)(K:mZ)(tg:Expr)(J:It)(fp:QXQ)(it:Addr)(tn:Nat->Heap->Prop):Prop where
 mem:it∈fp
 obj:∀i h,tn i h->∀b∈fp,∃o,h.get? b=some o/\∀v,o.data≠.cell v
 keep:∀i h h',tn i h->(∀b∈fp,∀o,h.get? b=some o->h'.get? b=some o)->tn i h'
 item:∀(X:Cx),X.prog=P->X.w=w->X.K=K->X.calm=true->∀(i:Nat) (MV:QQY) (s:Sd) (Y:St) (H:Hp) (E:QQX),Inv X MV Y H s->(∀b∈fp,ut X MV H b)->tn i s.heap->J.go i H->
  wpAny (model P w) X.A (pyNext (.ref it)) (λr s1=>∃u,r=some u/\
   wpAny (model P w) X.A (letOwnedTupleGo tg (.ref it) u) (λ_ s2=>∃x H',Inv X MV Y H' s2/\nE x u/\J.mB i H x H'/\tn (i+1) s2.heap/\∀b∈fp,H' b=none) E s1) E s
 done:∀(X:Cx),X.prog=P->X.w=w->X.K=K->X.calm=true->∀(i:Nat) (MV:QQY) (s:Sd) (Y:St) (H:Hp) (E:QQX),Inv X MV Y H s->(∀b∈fp,ut X MV H b)->tn i s.heap->J.stop i H->
  wpAny (model P w) X.A (pyNext (.ref it)) (λr s1=>r=none/\Inv X MV Y H s1) E s
 self:∀(A:Ar) (i:Nat) (s:Sd) (Q:QQX) (E:QQX),tn i s.heap->Q (.ref it) s->wpAny (model P w) A (pyIter (.ref it)) Q E s
abbrev TI:=St->Hp->(It->Hp->Prop)->Prop
def Mn(X:Cx)(MV:QQY)(Y:St)(tg:Expr)(R:It->Hp->Prop)(itv:Vl)(s2:Sd):Prop:=
 ∃(it:Addr) (fp:QXQ) (tn:Nat->Heap->Prop) (J:It) (H':Hp),itv=.ref it/\Inv X MV Y H' s2/\wG X.prog X.w X.K tg J fp it tn/\tn 0 s2.heap/\(∀b∈fp,ut X MV H' b)/\R J H'
def PI(X:Cx)(tg iter:Expr)(wi:TI):Prop:=
 ∀(MV:QQY) (s:Sd) (Y:St) (H:Hp) (R:It->Hp->Prop),Inv X MV Y H s->wi Y H R->
  wpAny (model X.prog X.w) X.A (eval iter X.env) (λv s1=>wpAny (model X.prog X.w) X.A (pyIter v) (Mn X MV Y tg R) X.xe s1) X.xe s
def Ab{M:Model}{A:Ar}{E:QQX}{s:Sd}{tg:Expr}{it:Addr}{u:Vl}{o:Obj}{n:String}{vs:Array Vl}{Q:Unit->Sd->Prop}(ho:s.heap.get? it=some o)(hc:o.cls=.type n)(hd:o.data=.fields vs) (hn:["enumerate","zip","dict_itemiterator","dict_reverseitemiterator","odict_iterator","itertools.zip_longest","itertools.pairwise"].contains n=false) (hQ:Q () s):wpAny M A (letOwnedTupleGo tg (.ref it) u) Q E s:=by
  unfold letOwnedTupleGo;cases tg<;>first
    | exact bj hQ
    | (cases u<;>first
        | exact bj hQ
        | (refine bh (wpAny_load ho ?_)
           rw[hc,hd];show wpAny M A (if (["enumerate","zip","dict_itemiterator","dict_reverseitemiterator","odict_iterator","itertools.zip_longest","itertools.pairwise"].contains n&&vs[0]?==some (rawInt _))=true then _ else _) Q E s;rw[bv (by intro h;rw[hn,Bool.false_and]at h;cases h)];exact bj hQ))
noncomputable def K5(K:mZ)(a:Addr):It:=
 ⟨λi H=>∃xs x,qM K H a xs/\xs[i]?=some x,λi H x H'=>H'=H/\∀xs,qM K H a xs->xs[i]?=some x,λi H=>∃xs,qM K H a xs/\xs.length<=i⟩
noncomputable def Lm(K:mZ)(a:Addr):It:=
 ⟨λi H=>∃xs x,p9 K H a xs/\xs[i]?=some x,λi H x H'=>H'=H/\∀xs,p9 K H a xs->xs[i]?=some x,λi H=>∃xs,p9 K H a xs/\xs.length<=i⟩
noncomputable def K6(lo:Int)(n:Nat):It:=⟨λi _=>i<n,λi H x H'=>H'=H/\x=.int (lo+i),λi _=>n<=i⟩
def Ck{P:Pg}{w:Wo}{K:mZ}{tg:Expr}(a it:Addr):wG P w K tg (K5 K a) [it] it (λi h=>h.IsListIter it a i) where
 mem:=by simp
 obj:=λi h st b hb=>by
  have e:b=it:=by simpa using hb
  subst e;obtain⟨o,e,c,d⟩:=st;exact⟨o,e,λv z=>by rw[d]at z;cases z⟩
 keep:=λi h h' st k=>st.at λo e=>k it (by simp) o e
 item:=by intro X hP hw hK hc i MV s Y H E I hf st hg;subst hP hw hK;obtain⟨xs,x,hq,hx⟩:=hg;obtain⟨its,rv,p,hz⟩:=I.list hq;obtain⟨u,hu,ru⟩:=rv.get hx;obtain⟨f0,f1,f2,f3,f4,f5⟩:=hf it (by simp);refine wpAny_pyNext_list_item st p.isList (x:=u) (by simpa using hu) λh' MY sb=>?_;have I1:Inv X MV Y H {s with heap:=h'}:=I.turned (t':=s.toks) (λb o hb e=>(sb.2 b hb).trans e) f0 f1 f3 f4 f5;obtain⟨o,e,c,d⟩:=id MY;exact⟨u,rfl,Ab (s:={s with heap:=h'}) e c d (by decide) ⟨x,H,I1,ru,⟨rfl,λys hy=>by rw[I.lH hy hq];exact hx⟩,MY,λb hb=>(hf b hb).1⟩⟩
 done:=by intro X hP hw hK hc i MV s Y H E I hf st hg;subst hP hw hK;obtain⟨xs,hq,hx⟩:=hg;obtain⟨its,rv,p,hz⟩:=I.list hq;obtain⟨f0,f1,f2,f3,f4,f5⟩:=hf it (by simp);have hl:=rv.length;exact wpAny_pyNext_list_end (I.ok.hd hc) st p.isList (by simp;lia) λh' eb=>⟨rfl,I.turned (t':=s.toks) (λb o hb e=>eb b o hb e) f0 f1 f3 f4 f5⟩
 self:=λ_ _ _ _ _ st h=>wpAny_pyIter_listiter st h
def As{P:Pg}{w:Wo}{K:mZ}{tg:Expr}(a it:Addr):wG P w K tg (Lm K a) [it] it (λi h=>h.IsTupleIter it a i) where
 mem:=by simp
 obj:=λi h st b hb=>by
  have e:b=it:=by simpa using hb
  subst e;obtain⟨o,e,c,d⟩:=st;exact⟨o,e,λv z=>by rw[d]at z;cases z⟩
 keep:=λi h h' st k=>st.at λo e=>k it (by simp) o e
 item:=by intro X hP hw hK hc i MV s Y H E I hf st hg;subst hP hw hK;obtain⟨xs,x,hq,hx⟩:=hg;obtain⟨its,rv,p,hz⟩:=I.tuple hq;obtain⟨u,hu,ru⟩:=rv.get hx;obtain⟨f0,f1,f2,f3,f4,f5⟩:=hf it (by simp);refine wpAny_pyNext_tuple_item st (show s.heap.IsTuple a its.toArray from p) (x:=u) (by simpa using hu) λh' MY sb=>?_;have I1:Inv X MV Y H {s with heap:=h'}:=I.turned (t':=s.toks) (λb o hb e=>(sb.2 b hb).trans e) f0 f1 f3 f4 f5;obtain⟨o,e,c,d⟩:=id MY;exact⟨u,rfl,Ab (s:={s with heap:=h'}) e c d (by decide) ⟨x,H,I1,ru,⟨rfl,λys hy=>by rw[I.lE hy hq];exact hx⟩,MY,λb hb=>(hf b hb).1⟩⟩
 done:=by intro X hP hw hK hc i MV s Y H E I hf st hg;subst hP hw hK;obtain⟨xs,hq,hx⟩:=hg;obtain⟨its,rv,p,hz⟩:=I.tuple hq;obtain⟨f0,f1,f2,f3,f4,f5⟩:=hf it (by simp);have hl:=rv.length;exact wpAny_pyNext_tuple_end (I.ok.hd hc) st (show s.heap.IsTuple a its.toArray from p) (by simp;lia) λh' eb=>⟨rfl,I.turned (t':=s.toks) (λb o hb e=>eb b o hb e) f0 f1 f3 f4 f5⟩
 self:=λ_ _ _ _ _ st h=>wpAny_pyIter_tupleiter st h
def A9{P:Pg}{w:Wo}{K:mZ}{tg:Expr}(it:Addr)(lo:Int)(n:Nat):wG P w K tg (K6 lo n) [it] it (λi h=>IsRangeIter h it (lo+(i:Nat)*1) ((n:Int) - (i:Nat)) 1) where
 mem:=by simp
 obj:=λi h st b hb=>by
  have e:b=it:=by simpa using hb
  subst e;exact⟨_,st,λv z=>by
   have z':Data.fields _=Data.cell v:=z;cases z'⟩
 keep:=λi h h' st k=>k it (by simp) _ st
 item:=by intro X hP hw hK hc i MV s Y H E I hf st hg;subst hP hw hK;obtain⟨f0,f1,f2,f3,f4,f5⟩:=hf it (by simp);have W:=Walks.range (prog:=X.prog) (w:=X.w) (I.ok.hd hc) it lo 1 n;refine W.item i s _ _ hg st λv h' tk hv MY kk=>?_;obtain⟨t,rfl⟩:=hv;have I1:Inv X MV Y H {s with heap:=h',toks:=tk}:=I.turned (λb o hb e=>kk b o (by simpa using hb) e) f0 f1 f3 f4 f5;refine⟨_,rfl,Ab (s:={s with heap:=h',toks:=tk}) (n:="range_iterator") MY rfl rfl (by decide) ⟨.int (lo+i),H,I1,⟨t,?_⟩,⟨rfl,rfl⟩,MY,λb hb=>(hf b hb).1⟩⟩;rw[Int.mul_one]
 done:=by intro X hP hw hK hc i MV s Y H E I hf st hg;subst hP hw hK;obtain⟨f0,f1,f2,f3,f4,f5⟩:=hf it (by simp);exact wpAny_pyNext_range_end (I.ok.hd hc) st (by have:n<=i:=hg;lia) λh' eb=>⟨rfl,I.turned (t':=s.toks) (λb o hb e=>eb b o hb e) f0 f1 f3 f4 f5⟩
 self:=λ_ _ _ _ _ st h=>wpAny_pyIter_rangeiter st h
variable {tg:Expr}
def Dt{MV:QQY}{Y:St}{H:Hp}{s:Sd}{R:It->Hp->Prop}{E:QQX}{lo hi:Int}{t u v:Tok}{tk:Nat}(I:Inv X MV Y H s)(h1:-(2 ^ 62)<=lo)(h2:lo<2 ^ 62)(h3:-(2 ^ 62)<=hi)(h4:hi<2 ^ 62) (q:R (K6 lo (hi - lo).toNat) H):wpAny (model X.prog X.w) X.A (pyIter (.ref s.heap.objs.size)) (Mn X MV Y tg R) E {s with heap:=s.heap.push {cls:=.type "range",data:=.fields #[.int lo t,.int hi u,.int 1 v]},toks:=tk}:=by
 refine wpAny_pyIter_range (IsRange.new ..) (small_one h1 h2 h3 h4) ?_;have I1:Inv X MV Y H {s with heap:=s.heap.push {cls:=.type "range",data:=.fields #[.int lo t,.int hi u,.int 1 v]},toks:=tk}:=I.kept λb o e=>bp _ e;refine⟨(s.heap.push {cls:=.type "range",data:=.fields #[.int lo t,.int hi u,.int 1 v]}).objs.size,[(s.heap.push {cls:=.type "range",data:=.fields #[.int lo t,.int hi u,.int 1 v]}).objs.size],_,_,H,rfl,I1.kept (t':=tk) λb o e=>bp _ e,A9 _ lo (hi - lo).toNat,?_,λb hb=>?_,q⟩
 .have e1:lo+((0:Nat):Int)*1=lo:=by simp
  have e2:(((hi - lo).toNat:Nat):Int) - ((0:Nat):Int)=Builtin.Range.rangeSize lo hi 1:=by rw[rangeSize_one];split<;>lia
  show IsRangeIter _ _ (lo+((0:Nat):Int)*1) ((((hi - lo).toNat:Nat):Int) - ((0:Nat):Int)) 1;rw[e1,e2];exact bD _ rfl
 .have e:b=(s.heap.push {cls:=.type "range",data:=.fields #[.int lo t,.int hi u,.int 1 v]}).objs.size:=by simpa using hb
  subst e;exact I1.lQ (bw _) (I1.lA.fresh (bw _))
def JP(ta:TA):TI:=λY H R=>ta Y H λvs H1=>∃j:Int,vs=[.int j]/\-(2 ^ 62)<=j/\j<2 ^ 62/\R (K6 0 j.toNat) H1
def CO{a:Expr}{ta:TA}{p pos:Pos}(hg:Gl X "range")(hm:X.mg "range"=none)(ha:PA X [a] ta)(hs:starEach [a] X.env=[(false,eval a X.env)]:=by rfl):PI X tg (.Call (.Name "range" p) [a] [] pos) (JP ta):=by
 intro MV s Y H R I h;refine Call_ (qu I hg hm boot_range (cP (o6 (ha pos MV s Y H _ I h) λus s1 zz=>x5 zz λvs H1 I1 r1 q1=>?_) hs rfl));obtain⟨j,e,q1,q2,q⟩:=q1;subst e;cases r1 with
 | cons r rr=>cases rr;obtain⟨t,rfl⟩:=r;exact call_range_1 (Dt I1 (by lia) (by lia) q1 q2 (by simpa using q))
def L0(wi:TI)(g:TG)(tb:TS):TS:=λD Y H=>wi Y H λJ H1=>∃W:Nat->Nat->St->Hp->Prop,(∃m,W 0 m Y H1)/\∀i m Y H,W i m Y H->
 (J.stop i H/\D.nx Y H)\/(J.go i H/\∃N:St->Hp->Prop,(∀σ' H',N σ' H'->∃m',m'<m/\W (i+1) m' σ' H')/\∀x H',J.mB i H x H'->g x Y H' λσ2 H2=>tb {D with nx:=N,ct:=N,bk:=D.nx} σ2 H2)
noncomputable def vI(fp:QXQ)(h:Heap):QQY:=fp.filterMap λb=>(h.get? b).map λo=>(b,o)
def qo{fp:QXQ}{h:Heap}{b:Addr}{o:Obj}(hb:b∈fp)(e:h.get? b=some o):(b,o)∈vI fp h:=eW.mpr ⟨b,hb,by rw[e];rfl⟩
def Dc{fp:QXQ}{h:Heap}{p:Addr×Obj}(hp:p∈vI fp h):p.1∈fp/\h.get? p.1=some p.2:=by
 obtain⟨b,hb,e⟩:=eW.mp hp;cases q:h.get? b with
 | none=>rw[q]at e;cases e
 | some o=>rw[q]at e;have e':(b,o)=p:=bH e;subst e';exact⟨hb,q⟩
def Inv.pinned{MV:QQY}{Y:St}{H:Hp}{s:Sd}{fp:QXQ}(I:Inv X MV Y H s)(hf:∀b∈fp,ut X MV H b)(ho:∀b∈fp,∃o,s.heap.get? b=some o/\∀v,o.data≠.cell v):Inv X (MV++vI fp s.heap) Y H s:=
 I.lP λp hp=>(bT.mp hp).elim (λz=>I.pin p (bW _ z)) λz=>by obtain⟨hb,e⟩:=Dc z;obtain⟨f0,f1,f2,_⟩:=hf p.1 hb;obtain⟨o,e',d⟩:=ho p.1 hb;rw[e]at e';cases e';exact⟨e,f0,f1,f2,d⟩
def Inv.lB{MV pl:QQY}{Y:St}{H:Hp}{s:Sd}(I:Inv X (MV++pl) Y H s):Inv X MV Y H s:=I.lP λp hp=>I.pin p (bW _ (fJ _ hp))
def HP{iter:Expr}{body:T0 Stmt}{wi:TI}{g:TG}{tb:TS}{pos:Pos}(hp:PassesOwn (model X.prog X.w) X.A X.env X.xe)(hc:X.calm=true)(hi:PI X tg iter wi)(hg:PG X tg g)(hb:xU X body tb) (hs:∀x,foldedSetIterable iter X.env x=pure x:=by intro _;rfl):PS X (.For tg iter body [] pos) (L0 wi g tb):=by
 intro MV s Y H D I h;refine wpAny_For (o6 (hi MV s Y H _ I h) λv s1 h1=>o6 h1 λitv s2 h2=>?_) hs;obtain⟨it,fp,tn,J,H2,e,I2,T,Nf,f2,W,⟨m0,w0⟩,OB⟩:=h2;subst e;have Ob:∀{H':Hp},(∀b∈fp,H' b=none)->∀b∈fp,ut X MV H' b:=λhn b hb=>⟨hn b hb,(f2 b hb).2⟩;refine codeAny_forLoop_any (λn s'=>∃i σ' H',Inv X MV σ' H' s'/\tn i s'.heap/\(∀b∈fp,H' b=none)/\W i n σ' H') ?_ m0 ⟨0,Y,H2,I2,Nf,λb hb=>(f2 b hb).1,w0⟩
 rintro n s3 ⟨i,σ3,H3,I3,st3,fr3,w3⟩
 rcases OB i n σ3 H3 w3 with⟨stop,qn⟩|⟨go,N,hN,step⟩
 .refine fS hp (o6 (T.done X rfl rfl rfl hc i MV s3 σ3 H3 X.xe I3 (Ob fr3) st3 stop) λr s4 ⟨hr,I4⟩=>?_);subst hr;exact iU ⟨σ3,H3,I4,qn⟩
 .refine fS hp (o6 (T.item X rfl rfl rfl hc i MV s3 σ3 H3 X.xe I3 (Ob fr3) st3 go) λr s4 ⟨u,hr,h4⟩=>?_);subst hr;refine fS hp (o6 h4 λ_ s5 zz=>?_);obtain⟨x,H5,I5,r5,y5,Pr,fr5⟩:=zz;have I5':=I5.pinned (Ob fr5) (T.obj _ _ Pr);refine fS hp (o6 (hg _ s5 σ3 H5 x u _ I5' r5 (step x H5 y5)) λ_ s6 ⟨σ6,H6,I6,q6⟩=>?_);refine fS hp (o6 (hb _ s6 σ6 H6 _ I6 q6) λf s7 q7=>?_);have again:∀{σ7:St} {H7:Hp},Inv X (MV++vI fp s5.heap) σ7 H7 s7->N σ7 H7->∃m,m<n/\∃i σ' H',Inv X MV σ' H' s7/\tn i s7.heap/\(∀b∈fp,H' b=none)/\W i m σ' H':=λ{σ7 H7} I7 n7=>by obtain⟨m',hm,w7⟩:=hN σ7 H7 n7;refine⟨m',hm,i+1,σ7,H7,I7.lB,T.keep _ _ _ Pr λb hb o e=>(I7.pin (b,o) (bW _ (bW _ (qo hb e)))).1,λb hb=>?_,w7⟩;obtain⟨o,e,d⟩:=T.obj _ _ Pr b hb;exact(I7.pin (b,o) (bW _ (bW _ (qo hb e)))).2.1
  cases f with
  | next=>obtain⟨σ7,H7,I7,n7⟩:=q7;exact again I7 n7
  | cont=>obtain⟨σ7,H7,I7,n7⟩:=q7;exact again I7 n7
  | brk=>obtain⟨σ7,H7,I7,q7⟩:=q7;exact⟨σ7,H7,I7.lB,q7⟩
  | ret v=>obtain⟨x7,σ7,H7,I7,r7,q7⟩:=q7;exact⟨x7,σ7,H7,I7.lB,r7,q7⟩
abbrev R2:=V->V->Hp->VK->Prop
def rH(X:Cx)(f:Vl->Vl->Sem Vl)(r:R2):Prop:=
 ∀(MV:QQY) (s:Sd) (Y:St) (H:Hp) (x y:V) (v u:Vl) (Q:VK),Inv X MV Y H s->nE x v->nE y u->r x y H Q->
  wpAny (model X.prog X.w) X.A (f v u) (EP X MV Y Q) X.xe s
def Lq(X:Cx)(f:Vl->Sem Vl)(r:V->Hp->VK->Prop):Prop:=
 ∀(MV:QQY) (s:Sd) (Y:St) (H:Hp) (x:V) (v:Vl) (Q:VK),Inv X MV Y H s->nE x v->r x H Q->
  wpAny (model X.prog X.w) X.A (f v) (EP X MV Y Q) X.xe s
def sQ(X:Cx)(f:Vl)(r:T0 V->Hp->VK->Prop):Prop:=
 ∀(MV:QQY) (s:Sd) (Y:St) (H:Hp) (xs:T0 V) (us:T0 Vl) (Q:VK),Inv X MV Y H s->nj xs us->r xs H Q->
  wpAny (model X.prog X.w) X.A (call f us) (EP X MV Y Q) X.xe s
def JT(r:R2)(ta tb:TE):TE:=λY H Q=>ta Y H λx H1=>tb Y H1 λy H2=>r x y H2 Q
def ML(r:V->Hp->VK->Prop)(ta:TE):TE:=λY H Q=>ta Y H λx H1=>r x H1 Q
def rI(C:Int->Int->Prop)(g:Int->Int->V):R2:=λx y H Q=>∃i j,x=.int i/\y=.int j/\C i j/\Q (g i j) H
def Hj(g:Int->Int->V):R2:=λx y H Q=>∃i j,x=.int i/\y=.int j/\Q (g i j) H
def rU(g:Int->V):V->Hp->VK->Prop:=λx H Q=>∃i,x=.int i/\Q (g i) H
variable {tc:TE}
section
variable {a b c:Expr}
def IZ(ha:PE X a ta)(hb:PE X b tb){MV:QQY}{s:Sd}{Y:St}{H:Hp}{R:V->V->Hp->Prop}(I:Inv X MV Y H s) (h:ta Y H λx H1=>tb Y H1 λy H2=>R x y H2) {Q:QQX} {f:Vl->Vl->Sem Vl} (hf:∀v u s2 x y H2,Inv X MV Y H2 s2->nE x v->nE y u->R x y H2->wpAny (model X.prog X.w) X.A (f v u) Q X.xe s2):
  wpAny (model X.prog X.w) X.A (eval a X.env) (λv s₁=>wpAny (model X.prog X.w) X.A (eval b X.env) (λu s₂=>wpAny (model X.prog X.w) X.A (f v u) Q X.xe s₂) X.xe s₁) X.xe s:=by
 refine o6 (ha MV s Y H _ I h) λv s1 zz=>x5 zz λx H1 I1 r1 q1=>?_;refine o6 (hb MV s1 Y H1 _ I1 q1) λu s2 zz=>x5 zz λy H2 I2 r2 q2=>?_;exact hf v u s2 x y H2 I2 r1 r2 q2
def Kd{op:Operator}{r:R2}(ho:rH X (binaryOp op) r)(ha:PE X a ta)(hb:PE X b tb):PE X (.BinOp a op b pos) (JT r ta tb):=by intro MV s Y H Q I h;exact wpAny_BinOp (IZ ha hb I h λv u s2 x y H2 I2 rx ry q=>ho MV s2 Y H2 x y v u Q I2 rx ry q)
def Kg{op:UnaryOp}{r:V->Hp->VK->Prop}(ho:Lq X (unaryOp op) r)(ha:PE X a ta):PE X (.UnaryOp op a pos) (ML r ta):=by intro MV s Y H Q I h;exact UnaryOp_ (o6 (ha MV s Y H _ I h) λv s1 zz=>x5 zz λx H1 I1 r1 q1=>ho MV s1 Y H1 x v Q I1 r1 q1)
def Lh{f:Vl->Vl->Sem Vl}{C:Int->Int->Prop}{g:Int->Int->Int} (rule:∀(i j:Int) (t u:Tok) (s:Sd) (Q:QQX) (E:QQX),C i j->Q (.int (g i j) s.toks) {s with toks:=s.toks+1}->wpAny (model X.prog X.w) X.A (f (.int i t) (.int j u)) Q E s):
  rH X f (rI C λi j=>.int (g i j)):=by
 intro MV s Y H x y v u Q I rx ry h;obtain⟨i,j,rfl,rfl,hc,q⟩:=h;obtain⟨t,rfl⟩:=rx;obtain⟨t',rfl⟩:=ry;exact rule i j t t' s _ _ hc ⟨.int (g i j),H,I.tok _,⟨_,rfl⟩,q⟩
def Kf{f:Vl->Vl->Sem Vl}{g:Int->Int->Int} (rule:∀(i j:Int) (t u:Tok) (s:Sd) (Q:QQX) (E:QQX),Q (.int (g i j) s.toks) {s with toks:=s.toks+1}->wpAny (model X.prog X.w) X.A (f (.int i t) (.int j u)) Q E s):
  rH X f (Hj λi j=>.int (g i j)):=by
 intro MV s Y H x y v u Q I rx ry h;obtain⟨i,j,rfl,rfl,q⟩:=h;obtain⟨t,rfl⟩:=rx;obtain⟨t',rfl⟩:=ry;exact rule i j t t' s _ _ ⟨.int (g i j),H,I.tok _,⟨_,rfl⟩,q⟩
def Gz{f:Vl->Vl->Sem Vl}{g:Int->Int->Bool} (rule:∀(i j:Int) (t u:Tok) (s:Sd) (Q:QQX) (E:QQX),Q (.bool (g i j)) s->wpAny (model X.prog X.w) X.A (f (.int i t) (.int j u)) Q E s):
  rH X f (Hj λi j=>.bl (g i j)):=by
 intro MV s Y H x y v u Q I rx ry h;obtain⟨i,j,rfl,rfl,q⟩:=h;obtain⟨t,rfl⟩:=rx;obtain⟨t',rfl⟩:=ry;exact rule i j t t' s _ _ ⟨.bl (g i j),H,I,rfl,q⟩
def J6(i j:Int):Prop:=0<j/\j<1073741824
def xZ(i j:Int):Prop:=(-(2 ^ 64)<i/\i<2 ^ 64)\/(-(2 ^ 64)<j/\j<2 ^ 64)
def xZ.ok{i j:Int}(h:xZ i j):IntMulOk i j:=by
 rcases h with⟨h1,h2⟩|⟨h1,h2⟩
 .exact .of_left (intBits_le_64 h1 h2)
 .exact .of_right (intBits_le_64 h1 h2)
def IP:rH X (binaryOp .Add) (Hj λi j=>.int (i+j)):=Kf λ_ _ _ _ _ _ _ q=>add_int q
def IC:rH X (binaryOp .Sub) (Hj λi j=>.int (i - j)):=Kf λ_ _ _ _ _ _ _ q=>sub_int q
def HR:rH X (binaryOp .Mult) (rI xZ λi j=>.int (i*j)):=Lh λ_ _ _ _ _ _ _ hc q=>mul_int q hc.ok
def Gn:rH X (binaryOp .FloorDiv) (rI J6 λi j=>.int (i / j)):=Lh λi j _ _ _ _ _ hc q=>by have h1:(0:Int)<j:=hc.1;have h2:j<1073741824:=hc.2;exact floordiv_int (by lia) (by rw[Int.fdiv_eq_ediv_of_nonneg i (by lia)];exact q) (.inl (PyProof.noPylong_small (by lia)))
def IX:rH X (binaryOp .Mod) (rI (λ_ j=>0<j) λi j=>.int (i % j)):=Lh λi j _ _ _ _ _ hc q=>by have h1:(0:Int)<j:=hc;exact mod_int' (by lia) (by rw[Int.fmod_eq_emod_of_nonneg i (by lia)];exact q)
def MO{f:Vl->Sem Vl}{g:Int->Int} (rule:∀(i:Int) (t:Tok) (s:Sd) (Q:QQX) (E:QQX),Q (.int (g i) s.toks) {s with toks:=s.toks+1}->wpAny (model X.prog X.w) X.A (f (.int i t)) Q E s):
  Lq X f (rU λi=>.int (g i)):=by
 intro MV s Y H x v Q I rx h;obtain⟨i,rfl,q⟩:=h;obtain⟨t,rfl⟩:=rx;exact rule i t s _ _ ⟨.int (g i),H,I.tok _,⟨_,rfl⟩,q⟩
def H9:Lq X (unaryOp .USub) (rU λi=>.int (-i)):=MO λ_ _ _ _ _ q=>neg_int q
end
section
variable {a b c:Expr}
def wz{MV:QQY}{Y:St}{H:Hp}{s:Sd}{Q:VK}{k k':Bool}(I:Inv X MV Y H s)(q:Q (.bl k) H)(e:k=k'):EP X MV Y Q (.bool k') s:=by subst e;exact⟨.bl k,H,I,rfl,q⟩
def JU:rH X (compareOp .Lt) (Hj λi j=>.bl (decide (i<j))):=Gz λ_ _ _ _ _ _ _ q=>lt_int q
def J3:rH X (compareOp .LtE) (Hj λi j=>.bl (decide (i<=j))):=Gz λ_ _ _ _ _ _ _ q=>le_int q
def Kv:rH X (compareOp .Gt) (Hj λi j=>.bl (decide (j<i))):=Gz λ_ _ _ _ _ _ _ q=>gt_int q
def Kr:rH X (compareOp .GtE) (Hj λi j=>.bl (decide (j<=i))):=Gz λ_ _ _ _ _ _ _ q=>ge_int q
def Cm:rH X (compareOp .In) (λx y H Q=>∃i j,x=.str i/\y=.str j/\Q (.bl (!(Builtin.Str.occurrences j i 0 j.length 1).isEmpty)) H):=by intro MV s Y H x y v u Q I rx ry h;obtain⟨i,j,rfl,rfl,q⟩:=h;obtain⟨t,rfl⟩:=rx;obtain⟨t',rfl⟩:=ry;exact in_str (wz I q rfl)
def Jp:rH X (compareOp .Is) (λx y H Q=>y=.lw/\Q (.bl (decide (x=.lw))) H):=by
 intro MV s Y H x y v u Q I rx ry h;obtain⟨rfl,q⟩:=h;cases ry;refine is_none_gen (wz I q ?_);cases x<;>first
  | (cases rx;rfl)
  | (obtain⟨t,rfl⟩:=rx;rfl)
def Gf:rH X (compareOp .IsNot) (λx y H Q=>y=.lw/\Q (.bl (!decide (x=.lw))) H):=by
 intro MV s Y H x y v u Q I rx ry h;obtain⟨rfl,q⟩:=h;cases ry;refine isnot_none_gen (wz I q ?_);cases x<;>first
  | (cases rx;rfl)
  | (obtain⟨t,rfl⟩:=rx;rfl)
def uj(b:Expr){op:CmpOp}(h:op≠.In:=by decide)(h2:op≠.NotIn:=by decide):behindInMarks op b=false:=by
 have e1:(op==CmpOp.In)=false:=by cases op<;>first|rfl|exact absurd rfl h
 have e2:(op==CmpOp.NotIn)=false:=by cases op<;>first|rfl|exact absurd rfl h2
 cases b<;>simp[behindInMarks,e1,e2]
def yw{op:CmpOp}{r:R2}(ho:rH X (compareOp op) r)(ha:PE X a ta)(hb:PE X b tb)(hm:behindInMarks op b=false):PE X (.Compare a [op] [b] pos) (JT r ta tb):=by intro MV s Y H Q I h;exact wpAny_Compare1 (IZ ha hb I h λv u s2 x y H2 I2 rx ry q=>ho MV s2 Y H2 x y v u Q I2 rx ry q) hm
def Hz(t:TE):TT:=λY H Q=>t Y H λx H'=>∃k,x=.bl k/\Q k H'
def vq{op:CmpOp}{r:R2}(ho:rH X (compareOp op) r)(ha:PE X a ta)(hb:PE X b tb)(hm:behindInMarks op b=false):PT X (.Compare a [op] [b] pos) (Hz (JT r ta tb)):=by
 intro MV s Y H Q I h;refine wpAny_isTrue_Compare1 (o6 (ha MV s Y H _ I h) λv s1 zz=>x5 zz λx H1 I1 r1 q1=>o6 (hb MV s1 Y H1 _ I1 q1) λu s2 zz=>x5 zz λy H2 I2 r2 q2=>
  o6 (ho MV s2 Y H2 x y v u _ I2 r1 r2 q2) λc s3 zz=>?_) hm
 obtain⟨z,H3,I3,r3,k,e,q3⟩:=zz;subst e;cases r3;exact cW ⟨H3,I3,q3⟩
def Ec(r r':R2)(ta tb tc:TE):TE:=λY H Q=>ta Y H λx H1=>tb Y H1 λy H2=>r x y H2 λz H3=>∃k,z=.bl k/\
 (if k=true then tc Y H3 λw' H4=>r' y w' H4 Q else Q (.bl false) H3)
def Fg{op NO:CmpOp}{r r':R2}(ho:rH X (compareOp op) r)(Oa:rH X (compareOp NO) r')(ha:PE X a ta)(hb:PE X b tb)(hc:PE X c tc) (hm:lastMarks [op,NO] [b,c]=false:=by with_unfolding_all rfl):PE X (.Compare a [op,NO] [b,c] pos) (Ec r r' ta tb tc):=by
 intro MV s Y H Q I h;refine Compare_chain (o6 (ha MV s Y H _ I h) λv s1 zz=>x5 zz λx H1 I1 r1 q1=>chain_link (o6 (hb MV s1 Y H1 _ I1 q1) λu s2 zz=>x5 zz λy H2 I2 r2 q2=>
  o6 (ho MV s2 Y H2 x y v u _ I2 r1 r2 q2) λd s3 zz=>?_)) hm
 obtain⟨z,H3,I3,r3,k,e,q3⟩:=zz;subst e;cases r3;refine cW ?_;cases k with
 | false=>exact ite_ff ⟨.bl false,H3,I3,rfl,q3⟩
 | true=>exact ite_tt (chain_last (o6 (hc MV s3 Y H3 _ I3 q3) λw' s4 zz=>x5 zz λz' H4 I4 r4 q4=>Oa MV s4 Y H4 y z' u w' Q I4 r2 r4 q4))
def EB{op NO:CmpOp}{r r':R2}(ho:rH X (compareOp op) r)(Oa:rH X (compareOp NO) r')(ha:PE X a ta)(hb:PE X b tb)(hc:PE X c tc) (hm:lastMarks [op,NO] [b,c]=false:=by with_unfolding_all rfl):PT X (.Compare a [op,NO] [b,c] pos) (Hz (Ec r r' ta tb tc)):=by
 intro MV s Y H Q I h;refine isTrue_chain (o6 (ha MV s Y H _ I h) λv s1 zz=>x5 zz λx H1 I1 r1 q1=>test_link (o6 (hb MV s1 Y H1 _ I1 q1) λu s2 zz=>x5 zz λy H2 I2 r2 q2=>
  o6 (ho MV s2 Y H2 x y v u _ I2 r1 r2 q2) λd s3 zz=>?_)) hm
 obtain⟨z,H3,I3,r3,k,e,q3⟩:=zz;subst e;cases r3;refine cW ?_;cases k with
 | false=>obtain⟨k',e',q'⟩:=q3;cases e';exact ite_ff ⟨H3,I3,q'⟩
 | true=>refine ite_tt (test_last (o6 (hc MV s3 Y H3 _ I3 q3) λw' s4 zz=>x5 zz λz' H4 I4 r4 q4=>o6 (Oa MV s4 Y H4 y z' u w' _ I4 r2 r4 q4) λd' s5 zz=>?_));obtain⟨z2,H5,I5,r5,k2,e2,q5⟩:=zz;subst e2;cases r5;exact cW ⟨H5,I5,q5⟩
def ul:(sizeLine:Nat)<2 ^ 63:=by rw[b7];decide
def AK:rH X (binaryOp .Add) (λx y H Q=>∃i j,x=.str i/\y=.str j/\i.length+j.length<=sizeLine/\Q (.str (i++j)) H):=by intro MV s Y H x y v u Q I rx ry h;obtain⟨i,j,rfl,rfl,hz,q⟩:=h;obtain⟨t,rfl⟩:=rx;obtain⟨t',rfl⟩:=ry;exact add_str (λt' tk=>⟨.str (i++j),H,I.tok _,⟨_,rfl⟩,q⟩) hz
def sJ{x:V}{us:T0 Vl}(r:nj [x] us):∃u,us=[u]/\nE x u:=by
 cases r with
 | cons r1 r2=>cases r2;exact⟨_,rfl,r1⟩
def BF{x y:V}{us:T0 Vl}(r:nj [x,y] us):∃u w',us=[u,w']/\nE x u/\nE y w':=by
 cases r with
 | cons r1 r2=>
  cases r2 with
  | cons r3 r4=>cases r4;exact⟨_,_,rfl,r1,r3⟩
def Cn(hc:X.calm=true):sQ X (.builtin "min") (λxs H Q=>∃i j,xs=[.int i,.int j]/\Q (.int (if j<i then j else i)) H):=by
 intro MV s Y H xs us Q I r h;obtain⟨i,j,rfl,q⟩:=h;obtain⟨u,w',rfl,⟨t,rfl⟩,⟨t',rfl⟩⟩:=BF r;refine min_two_ints (I.ok.hd hc) λh' tk k=>⟨_,H,I.kept k,?_,q⟩;by_cases hj:j<i
 .rw[bA hj,bA hj];exact⟨_,rfl⟩
 .rw[bv hj,bv hj];exact⟨_,rfl⟩
end
structure AA(h:Heap)(x dx C:Addr)(mA:QQZ):Prop where
 obj:h.get? x=some (W.instObj C dx)
 ns:h.Ns1 dx mA
 ne:dx≠x
def CZ{h:Heap}{dx:Addr}{mA:QQZ}(n:h.Ns1 dx mA):∃od,h.get? dx=some od/\∀name,W.lookIn name od=some (mA name):=by
 obtain⟨o,es,ep,ho,hd,hk,_,hm⟩:=n;refine⟨o,ho,λname=>?_⟩;have e:=hm name;unfold nsFind findBy at e;rw[<-Array.find?_toList]at e;unfold W.lookIn;rw[hd];dsimp only;split
 .rename_i y q;rw[q]at e;exact de some e
 .rename_i q;rw[q]at e;have a:es.toList.any (·.refKey)=false:=by rw[List.any_eq_false];intro y hy;obtain⟨z,t,Oc⟩:=hk y (Array.mem_toList_iff.mp hy);simp[DictEntry.refKey,Oc]
  have a':¬es.toList.any (·.refKey)=true:=by rw[a];exact bN
  rw[bv a'];exact de some e
def AA.look{h:Heap}{x dx C:Addr}{mA:QQZ}(I:AA h x dx C mA):∃od,W.InstAt h x (W.instObj C dx) C (some od)/\∀name,W.lookIn name od=some (mA name):=
 let⟨od,ho,hl⟩:=CZ I.ns
 ⟨od,⟨I.obj,rfl,rfl,ho⟩,hl⟩
variable {prog:Pg}{A:Ar}{K:mZ}{dx C:Addr}{mA:QQZ}{name:Str}
section
variable {w:Wo}{E:QQX}{x f:Addr}{v:Vl}
def GI{expr:Bool}{Q:QQX}(X:K.In s.heap)(I:AA s.heap x dx C mA)(hg:W.plainGet K C name=true)(hh:W.hasDictIn K C=true) (ha:W.findIn K (.ref C) name=some none) (hv:mA name=some v) (hv':W.handedIn v=true) (h:Q v {s with toks:=s.toks+1}):
  wpAny (model prog w) A (getAttr (.ref x) name expr) Q E s:=by
 obtain⟨od,J,hl⟩:=I.look;exact W.get_value X J (jp hg).1 (W.findObj_own hh ha rfl (by rw[hl,hv])) hv' h
def EY{pl:Sem Bool}{Q:Vl×T0 Vl->Sd->Prop}(X:K.In s.heap)(I:AA s.heap x dx C mA)(hg:W.plainGet K C name=true) (hf:W.findIn K (.ref C) name=some (some (.ref f))) (ht:W.isFn K (.ref f)=true) (hv:mA name=none) (h:Q (.ref f,[.ref x]) s):
  wpAny (model prog w) A (getMethod (.ref x) name pl) Q E s:=by
 obtain⟨od,J,hl⟩:=I.look;exact W.method_fn X J (jp hg).1 (jp hg).2 hf (fK.mp ht) (by show(W.lookIn name od).map (·.isSome)=some false;rw[hl,hv];rfl) h
def FN{ns:QQQ}{Q:Unit->Sd->Prop}(X:K.In s.heap)(I:AA s.heap x dx C mA) (hs:W.findIn K (.ref C) "__setattr__"=some (some (.builtin "object.__setattr__"))) (hp:W.plainOver K C=true) (ht:W.takerIn K C name=some none) (hh:W.hasDictIn K C=true) (hw:PySem.Within mA ns) (hsz:ns.length<=sizeLine) (h:∀h',AA h' x dx C (λy=>if y=name then some v else mA y)->Heap.SameBut dx s.heap h'->Q () {s with heap:=h',toks:=s.toks+2}):
  wpAny (model prog w) A (setAttr (.ref x) name v) Q E s:=by
 obtain⟨od,J,hl⟩:=I.look;refine W.set_plain X J hs (W.osa_open (s:={s with toks:=s.toks+1}) (r:=none) X J hp ht λb=>?_);obtain⟨cd,hc,hd'⟩:=W.any_some hh;have hx:s.heap.get? x=some ⟨.ref C,some dx,.plain,#[]⟩:=I.obj;refine bh (bj (bh (bh (wpAny_loadPart hx (bh (W.Looks.here (s:={s with toks:=s.toks+1}) (W.looks_clsIn X hc) ?_))))));rw[hd'];refine bj (a:=some dx) (bh (bj (bh ?_)));refine wpAny_nsSet1 (s:={s with toks:=s.toks+1}) I.ns λh' OC N7=>?_;obtain⟨oD,esD,epD,hoD,hdD,hcD⟩:=OC.count (PySem.Within.cons name v hw);refine bh (wpAny_lookBehind hoD (by rw[hdD];exact pastItsLine_dict (bS hcD (by rw[bR];lia))) ?_);exact bj (h _ ⟨(N7.2 _ (bQ I.ne)).trans I.obj,OC,I.ne⟩ N7)
def Ef{R:Result->Sd->Prop}{vs:T0 Vl}{kw:T0 (Str×Vl)}(X:K.In s.heap)(hm:W.makesIn K C=true) (hi:W.findIn K (.ref C) "__init__"=some (some (.ref f))) (hf:W.typeIn K (.ref f)=some (.type "function")) (h:codeAny (model prog w) (A.under (.builtin "type.__call__" ⟨.ref C::vs,kw⟩)) (.call (.ref f) ⟨.ref (s.heap.objs.size+1)::vs,kw⟩) (W.InitBack (s.heap.objs.size+1) R) {s with heap:=(s.heap.push W.emptyDict).push (W.instObj C s.heap.objs.size)}):
  codeAny (model prog w) A (.call (.ref C) ⟨vs,kw⟩) R s:=by
 obtain⟨hh,g,d,t,os⟩:=s;exact W.make_core (W.makes_of X hm) (W.looks_findIn X hi) (λself=>W.bind_fn X self hf) (.inl rfl) h
end
noncomputable def ra(f:Str)(v:V):T0 (Str×V)->T0 (Str×V)
 | []=>[(f,v)]
 | (g,x)::r=>if g=f then(g,v)::r else(g,x)::ra f v r
theorem uG(f g:Str)(v:V):∀fs:T0 (Str×V),(ra f v fs).lookup g=if g=f then some v else fs.lookup g
 | []=>by
  show List.lookup g [(f,v)]=_;by_cases h:g=f
  .have hb:(g==f)=true:=fK.mpr h;simp only[List.lookup,hb,bA h]
  .have hb:(g==f)=false:=dX.mpr h;simp only[List.lookup,hb,bv h]
 | (k,x)::r=>by
  have ih:=uG f g v r;rw[show ra f v ((k,x)::r)=(if k=f then(k,v)::r else(k,x)::ra f v r)from rfl];by_cases hk:k=f
  .rw[bA hk];by_cases h:g=k
   .have hb:(g==k)=true:=fK.mpr h;simp only[List.lookup,hb,bA (h.trans hk)]
   .have hb:(g==k)=false:=dX.mpr h;simp only[List.lookup,hb,bv (λe:g=f=>h (e.trans hk.symm))]
  .rw[bv hk];by_cases h:g=k
   .have hb:(g==k)=true:=fK.mpr h;simp only[List.lookup,hb,bv (λe:g=f=>hk (h.symm.trans e))]
   .have hb:(g==k)=false:=dX.mpr h;simp only[List.lookup,hb];exact ih
theorem uo(f:Str)(v:V):∀fs:T0 (Str×V),f∈(ra f v fs).map (·.1)/\∀g,g∈fs.map (·.1)->g∈(ra f v fs).map (·.1)
 | []=>⟨by simp[ra],λg h=>by simp at h⟩
 | (k,x)::r=>by
  obtain⟨i1,i2⟩:=uo f v r;rw[show ra f v ((k,x)::r)=(if k=f then(k,v)::r else(k,x)::ra f v r)from rfl];by_cases hk:k=f
  .rw[bA hk];subst hk;exact⟨by simp,λg h=>by simpa using h⟩
  .rw[bv hk];refine⟨?_,λg h=>?_⟩
   .rw[cb];exact bL _ i1
   .rw[cb]at h ⊢;rcases bq.mp h with e|e
    .exact bq.mpr (.inl e)
    .exact bL _ (i2 g e)
theorem uN(f:Str)(v:V):∀fs:T0 (Str×V),(ra f v fs).length<=fs.length+1
 | []=>by simp[ra]
 | (k,x)::r=>by
  have ih:=uN f v r;rw[show ra f v ((k,x)::r)=(if k=f then(k,v)::r else(k,x)::ra f v r)from rfl];by_cases hk:k=f
  .rw[bA hk,bR,bR];lia
  .rw[bv hk,bR,bR];lia
def tS.some_of{v:V}{o:Option Vl}(r:tS (some v) o):∃u,o=some u/\nE v u:=by
 cases o with
 | none=>exact(show False from r).elim
 | some u=>exact⟨u,rfl,r⟩
def tS.none_of{o:Option Vl}(r:tS none o):o=none:=by
 cases o with
 | none=>rfl
 | some u=>exact(show False from r).elim
def Cs{v:V}{u:Vl}(r:nE v u):W.handedIn u=true:=by
 cases v with
 | lw=>cases(show u=Value.none from r);rfl
 | bl b=>cases(show u=Value.bool b from r);rfl
 | int i=>obtain⟨t,e⟩:=(show ∃t,u=Value.int i t from r);cases e;rfl
 | str x=>obtain⟨t,e⟩:=(show ∃t,u=Value.str x t from r);cases e;rfl
 | byt b=>obtain⟨t,e⟩:=(show ∃t,u=Value.bytes b t from r);cases e;rfl
 | flt b=>obtain⟨t,e⟩:=(show ∃t,u=Value.float b t from r);cases e;rfl
 | ref a=>cases(show u=Value.ref a from r);rfl
 | ty n=>cases(show u=Value.type n from r);rfl
section
variable {P:Pg}{w:Wo}{a:Addr}{fs fs':T0 (Str × V)}
def vk(lA:tL P w H h)(e:H a=some (.ins C dx fs)):∃mA,AA h a dx C mA/\(∀f,tS (fs.lookup f) (mA f))/\PySem.Within mA (fs.map (·.1))/\fs.length<=1000/\H dx=some (.own a):=by obtain⟨d,z,ne,ob,mA,n,r,q⟩:=(show og P w H h a (.ins C dx fs)from lA a _ e);exact⟨mA,⟨ob,n,ne⟩,r,q,z,d⟩
end
structure Cls(K:mZ)(C:Addr):Prop where
 pg:W.plainGet K C Str.empty=true
 hd:W.hasDictIn K C=true
 po:W.plainOver K C=true
 sa:W.findIn K (.ref C) "__setattr__"=some (some (.builtin "object.__setattr__"))
def Cls.get{K:mZ}{C:Addr}(c:Cls K C)(f:Str):W.plainGet K C f=true:=c.pg
def pP(K:mZ)(C:Addr)(f:Str):Prop:=W.findIn K (.ref C) f=some none
def pP.mn{K:mZ}{C:Addr}{f:Str}(n:pP K C f):W.takerIn K C f=some none:=by unfold W.takerIn;rw[show W.findIn K (.ref C) f=some none from n];rfl
structure tF(K:mZ)(C:Addr)(m:Str)(f:Addr):Prop where
 at_:W.findIn K (.ref C) m=some (some (.ref f))
 fn:W.isFn K (.ref f)=true
 kp:W.keepIn K (.ref f)=true
section
variable {Y:St}{a:Addr}{fs:T0 (Str × V)}{f:Str}{v:V}{E:QQX}
def Ba{b:Bool}{Q:QQX}(I:Inv X MV Y H s)(e:H a=some (.ins C dx fs))(c:Cls X.K C)(n:pP X.K C f)(l:fs.lookup f=some v) (h:∀u s',Inv X MV Y H s'->nE v u->Q u s'):wpAny (model X.prog X.w) A (getAttr (.ref a) f b) Q E s:=by
 obtain⟨mA,O,r,_,_,_⟩:=vk I.lA e;obtain⟨u,hu,ru⟩:=tS.some_of (v:=v) (o:=mA f) (by rw[<-l];exact r f);exact GI I.lG O (c.get f) c.hd n hu (Cs ru) (h u _ (I.tok _) ru)
def AZ{m:Str}{g:Addr}{pl:Sem Bool}{Q:Vl×T0 Vl->Sd->Prop}(I:Inv X MV Y H s)(e:H a=some (.ins C dx fs))(c:Cls X.K C)(k:tF X.K C m g)(l:fs.lookup m=none) (h:Q (.ref g,[.ref a]) s):wpAny (model X.prog X.w) A (getMethod (.ref a) m pl) Q E s:=by
 obtain⟨mA,O,r,_,_,_⟩:=vk I.lA e;have hn:mA m=none:=tS.none_of (by rw[<-l];exact r m);exact EY I.lG O (c.get m) k.at_ k.fn hn h
def A8{y:V}{u:Vl}{Q:Unit->Sd->Prop}(I:Inv X MV Y H s)(e:H a=some (.ins C dx fs))(c:Cls X.K C)(n:pP X.K C f)(hl:fs.length<1000)(ry:nE y u) (h:∀s',Inv X MV Y (upd H a (.ins C dx (ra f y fs))) s'->Q () s'):wpAny (model X.prog X.w) A (setAttr (.ref a) f u) Q E s:=by
 obtain⟨mA,O,r,wi,_,ho⟩:=vk I.lA e;have hz:(fs.map (·.1)).length<=sizeLine:=by rw[bi,b7];lia
 refine FN I.lG O c.sa c.po n.mn c.hd wi hz λh' O' sb=>h _ ?_;have hd:∃o,h'.get? dx=some o:=let⟨o,_,_,e',_⟩:=O'.ns;⟨o,e'⟩;refine I.write (x:=a) (e:=dx) (by rw[e];exact True.intro) (.inr ho) (λb q hb z=>(sb.2 b hb).trans z) hd ?_;refine⟨by rw[m7 O.ne];exact ho,?_,O.ne,O'.obj,_,O'.ns,λg=>?_,λg hg=>?_⟩
 .have:=uN f y fs;lia
 .show tS ((ra f y fs).lookup g) (if g=f then some u else mA g);rw[uG];by_cases q:g=f
  .rw[bA q,bA q];exact ry
  .rw[bv q,bv q];exact r g
 .by_cases q:g=f
  .rw[q];exact(uo f y fs).1
  .refine(uo f y fs).2 g (wi g λz=>hg ?_);show(if g=f then some u else mA g)=none;rw[bv q];exact z
def Inv.made(I:Inv X MV Y H s):Inv X MV Y (upd (upd H s.heap.objs.size (.own (s.heap.objs.size+1))) (s.heap.objs.size+1) (.ins C s.heap.objs.size [])) {s with heap:=(s.heap.push W.emptyDict).push (W.instObj C s.heap.objs.size)}:=by
 have e1:(s.heap.push W.emptyDict).get? s.heap.objs.size=some W.emptyDict:=bD s.heap rfl;have e2:((s.heap.push W.emptyDict).push (W.instObj C s.heap.objs.size)).get? (s.heap.objs.size+1)=some (W.instObj C s.heap.objs.size):=by
  have:=bD (s.heap.push W.emptyDict) (o:=W.instObj C s.heap.objs.size) rfl
  rwa [bY]at this
 have e3:(s.heap.push W.emptyDict).Ns s.heap.objs.size (λ_=>none):=⟨W.emptyDict,#[],_,e1,rfl,(λe he=>absurd he (by simp)),λ_=>rfl⟩;have I1:=I.laid (a:=s.heap.objs.size) (o:=.own (s.heap.objs.size+1)) (h':=s.heap.push W.emptyDict) (t':=s.toks) (λb u q=>bp _ q) (bw _) ⟨_,e1⟩;refine I1.laid (a:=s.heap.objs.size+1) (o:=.ins C s.heap.objs.size []) (t':=s.toks) (λb u q=>bp _ q) (jB (bY _ _)) ?_;have ne:s.heap.objs.size≠s.heap.objs.size+1:=bG (dM _);refine⟨by rw[m7 ne,mY],cF _,ne,e2,λ_=>none,(Heap.Ns1.of_empty e3).at λo q=>bp _ q,λ_=>True.intro,λy hy=>absurd rfl hy⟩
def G1{prog:Pg}{w:Wo}{env:Env}{e:Expr}{f:Str}{pos:Pos}{s:Sd}{Q:QQX}(hb:attributeBase e f env (eval e env)=eval e env) (h:wpAny (model prog w) A (eval e env) (λo s₁=>wpAny (model prog w) A (getAttr o f true) Q E s₁) E s):wpAny (model prog w) A (eval (.Attribute e f pos) env) Q E s:=
 Attribute_any_ h (by rw[arm_eval_Attribute,hb])
end
def L6(K:mZ)(ta:TE)(f:Str):TE:=λY H Q=>ta Y H λx H1=>∃a C dx fs v,x=.ref a/\H1 a=some (.ins C dx fs)/\Cls K C/\pP K C f/\fs.lookup f=some v/\Q v H1
def LI(K:mZ)(ta tv:TE)(f:Str):TS:=λD Y H=>tv Y H λy H1=>ta Y H1 λx H2=>∃a C dx fs,x=.ref a/\H2 a=some (.ins C dx fs)/\Cls K C/\pP K C f/\fs.length<1000/\
 D.nx Y (upd H2 a (.ins C dx (ra f y fs)))
variable {value:Expr}{Nq tpos:Pos}{tv:TE}
section
variable {o e:Expr}{f:Str}
def IS(he:PE X e ta)(hb:attributeBase e f X.env (eval e X.env)=eval e X.env):PE X (.Attribute e f pos) (L6 X.K ta f):=by intro MV s Y H Q I h;refine G1 hb (o6 (he MV s Y H _ I h) λu s1 zz=>?_);obtain⟨x,H1,I1,rx,a,C,dx,fs,v,ex,ea,c,n,l,q⟩:=zz;subst ex;obtain rfl:u=Value.ref a:=rx;exact Ba I1 ea c n l λu' s2 I2 ru=>⟨v,H1,I2,ru,q⟩
def II(ha:PE X o ta)(hv:PE X value tv)(hs:swapsWith value (some (.Attribute o f Nq)) pos.line X.env=pure false):PS X (.Assign [.Attribute o f Nq] value pos) (LI X.K ta tv f):=by intro MV s Y H D I h;refine plainObj_wpAny_Assign_Attribute (o6 (hv MV s Y H _ I h) λu s1 zz=>x5 zz λy H1 I1 ry q=>o6 (ha MV s1 Y H1 _ I1 q) λov s2 zz=>?_) hs;obtain⟨x,H2,I2,rx,a,C,dx,fs,ex,ea,c,n,l,q2⟩:=zz;subst ex;obtain rfl:ov=Value.ref a:=rx;exact A8 I2 ea c n l ry λs3 I3=>⟨Y,_,I3,q2⟩
end
variable {Q:QQX}
section
variable {Y:St}{E:QQX}{c:Vl}{b:Bool}
inductive uR(K:mZ)(H:Hp):V->Vl->Prop where
 | lw:uR K H .lw (.type "NoneType")
 | bl (x:Bool):uR K H (.bl x) (.type "bool")
 | int (i:Int):uR K H (.int i) (.type "int")
 | str (x:Str):uR K H (.str x) (.type "str")
 | flt (x:UInt64):uR K H (.flt x) (.type "float")
 | lst {a:Addr} {xs:List V} (e:H a=some (.lst xs)):uR K H (.ref a) (.type "list")
 | frz {a:Addr} {o:Obj} {xs:List V} (e:H a=some (.frz o (.lst xs))):uR K H (.ref a) (.type "list")
 | tup {a:Addr} {xs:List V} (e:H a=some (.tup xs)):uR K H (.ref a) (.type "tuple")
 | dK {a:Addr} {kvs:List (nS×V)} (e:H a=some (.dK kvs)):uR K H (.ref a) (.type "dict")
 | dT {a:Addr} {kvs:List (List nS×V)} (e:H a=some (.dT kvs)):uR K H (.ref a) (.type "dict")
 | ins {a C dx:Addr} {fs:List (Str×V)} (e:H a=some (.ins C dx fs)) (cl:Cls K C) (ha:W.findIn K (.ref C) "__class__"=some (some (.builtin "object.__class__")))
   (hn:W.specialIn K (.builtin "object.__class__") "__get__"=some (some (.builtin "getset_descriptor.__get__"))) (htk:W.takesIn K (.builtin "object.__class__")=some true)
   (hm:W.mroIn K C (.type "object")=some true):uR K H (.ref a) (.ref C)
def pN{x:V}{u t:Vl}(I:Inv X MV Y H s)(rx:nE x u)(ty:uR X.K H x t)(e:W.kitOne X.K t c=some b)(h:∀tk,Q (.bool b) {s with toks:=tk}):
  wpAny (model X.prog X.w) A (call (.builtin "isinstance") [u,c]) Q E s:=by
 cases ty with
 | lw=>cases(show u=Value.none from rx);exact dU W.kitx_none I.lG True.intro e (λz=>nomatch z) h
 | bl y=>cases(show u=Value.bool y from rx);exact dU W.kitx_bool I.lG True.intro e (λz=>nomatch z) h
 | int i=>obtain⟨t,q⟩:=(show ∃t,u=Value.int i t from rx);cases q;exact dU W.kitx_int I.lG True.intro e (λz=>nomatch z) h
 | str y=>obtain⟨t,q⟩:=(show ∃t,u=Value.str y t from rx);cases q;exact dU W.kitx_str I.lG True.intro e (λz=>nomatch z) h
 | flt y=>obtain⟨t,q⟩:=(show ∃t,u=Value.float y t from rx);cases q;exact dU W.kitx_float I.lG True.intro e (λz=>nomatch z) h
 | @lst a xs ea=>cases(show u=Value.ref a from rx);obtain⟨_,_,n,_,h1⟩:=(show og X.prog X.w H s.heap a (.lst xs)from I.lA a _ ea);exact dU j4 I.lG ⟨_,h1,rfl⟩ e (λz=>nomatch z) h
 | @frz a ob xs ea=>cases(show u=Value.ref a from rx);obtain⟨_,_,_,n,_,h1⟩:=(show og X.prog X.w H s.heap a (.frz ob (.lst xs))from I.lA a _ ea);exact dU j4 I.lG ⟨_,h1,rfl⟩ e (λz=>nomatch z) h
 | @tup a xs ea=>cases(show u=Value.ref a from rx);obtain⟨_,_,_,p⟩:=(show og X.prog X.w H s.heap a (.tup xs)from I.lA a _ ea);obtain⟨o,h1,h2,_⟩:=p;exact dU W.kitx_tuple I.lG ⟨o,h1,h2⟩ e (λz=>nomatch z) h
 | @dK a kvs ea=>cases(show u=Value.ref a from rx);obtain⟨_,_,vs,_,p⟩:=(show og X.prog X.w H s.heap a (.dK kvs)from I.lA a _ ea);obtain⟨o,es,ep,h1,h2,_⟩:=p;exact dU W.kitx_dict I.lG ⟨o,h1,h2.1⟩ e (λz=>nomatch z) h
 | @dT a kvs ea=>cases(show u=Value.ref a from rx);obtain⟨_,_,xs,_,o,es,ep,h1,h2,_⟩:=(show og X.prog X.w H s.heap a (.dT kvs)from I.lA a _ ea);exact dU W.kitx_dict I.lG ⟨o,h1,h2.1⟩ e (λz=>nomatch z) h
 | @ins a C dx fs ea cl ha hn htk hm=>cases(show u=Value.ref a from rx);obtain⟨mA,O,_⟩:=vk I.lA ea;obtain⟨od,J,_⟩:=O.look;exact dU (W.kitx_own (cl.get _) cl.hd ha hn htk hm) I.lG J e (λz=>nomatch z) h
end
structure oE(k:Nat)(A:Ar):Prop where
 hd:A.handled=none
 dp:A.depth+3*k+5<recursionLimit
 un:A.units+16*k+200<cLine
def oE.mono{j k:Nat}{A:Ar}(r:oE k A)(h:j<=k):oE j A:=⟨r.hd,by have:=r.dp;lia,by have:=r.un;lia⟩
def oE.deeper{k:Nat}{A:Ar}(r:oE (k+1) A)(env:Env):oE k (A.deeper env):=
 ⟨r.hd,by have:=r.dp;show A.depth+1+3*k+5<_;lia,by have:=r.un;show A.units+3+16*k+200<_;lia⟩
def A1{A:Ar}{C:Addr}{us:T0 Vl}{kw:T0 (Str×Vl)}:(A.under (.builtin "type.__call__" ⟨.ref C::us,kw⟩)).depth=A.depth+1:=by first|rfl|simp[Around.under,Code.weight,Code.isCreation,Code.isGuard,Code.isCaller,Code.frames,Code.isFrame,guardIds]
def AM{A:Ar}{C:Addr}{us:T0 Vl}{kw:T0 (Str×Vl)}:(A.under (.builtin "type.__call__" ⟨.ref C::us,kw⟩)).units=A.units+1:=by first|rfl|simp[Around.under,Code.cUnits,Code.frames,Code.isFrame]
def oE.make{k:Nat}{A:Ar}(r:oE (k+1) A)(C:Addr)(us:T0 Vl)(kw:T0 (Str×Vl)):oE k (A.under (.builtin "type.__call__" ⟨.ref C::us,kw⟩)):=
 ⟨r.hd,by have:=r.dp;rw[A1];lia,by have:=r.un;rw[AM];lia⟩
def oE.depth{k:Nat}{A:Ar}(r:oE k A):A.depth<recursionLimit:=by have:=r.dp;lia
def oE.units{k:Nat}{A:Ar}(r:oE k A):A.units+64<cLine:=by have:=r.un;lia
def KC:TA:=λ_ H Q=>Q [] H
def KU(ta:TE)(tr:TA):TA:=λY H Q=>ta Y H λx H1=>tr Y H1 λxs H2=>Q (x::xs) H2
variable {es:T0 Expr}
section
variable {e:Expr}{t:TA}
def Jm:PA X [] KC:=λ_ _ _ _ H Q I h=>ft ⟨[],H,I,.nil,h⟩
def G9(ha:PE X e te)(hr:PA X es t)(hs:xw X e es:=by rfl):PA X (e::es) (KU te t):=by intro pos MV s Y H Q I h;rw[hs];show wpAny _ _ (spliced ((false,eval e X.env)::backTo pos (starEach es X.env))) _ _ s;refine eX (o6 (ha MV s Y H _ I h) λu s1 zz=>x5 zz λx H1 I1 r1 q1=>?_);exact o6 (hr pos MV s1 Y H1 _ I1 q1) λus s2 zz=>x5 zz λxs H2 I2 r2 q2=>⟨x::xs,H2,I2,.cons r1 r2,q2⟩
def Ll(t:TA):TE:=λY H Q=>t Y H λxs H1=>xs.length<=sizeLine/\∀p,H1 p=none->Q (.ref p) (upd H1 p (.tup xs))
def Lg(t:TA):TE:=λY H Q=>t Y H λxs H1=>xs.length<=sizeLine/\∀p,H1 p=none->Q (.ref p) (upd H1 p (.lst xs))
def Ju{x1}(h:PA X es t):PE X (.Tuple es x1 pos) (Ll t):=by intro MV s Y H Q I hq;refine wpAny_Tuple_spliced (o6 (h pos MV s Y H _ I hq) λus s1 ⟨xs,H1,I1,r,z,q⟩=>⟨by rw[<-r.length];exact z,?_⟩);have hf:H1 s1.heap.objs.size=none:=I1.lA.fresh (bw _);refine⟨.ref s1.heap.objs.size,upd H1 s1.heap.objs.size (.tup xs),I1.laid (t':=s1.toks) (λb u e=>bp _ e) (bw _) ?_,rfl,q _ hf⟩;exact⟨z,us,r,⟨_,bD _ rfl,rfl,⟨_,rfl⟩,rfl⟩⟩
def Jg(h:PA X es t):PE X (.List es pos) (Lg t):=by intro MV s Y H Q I hq;refine wpAny_List_spliced (o6 (h pos MV s Y H _ I hq) λus s1 ⟨xs,H1,I1,r,z,q⟩=>⟨by rw[<-r.length];exact z,?_⟩);have hf:H1 s1.heap.objs.size=none:=I1.lA.fresh (bw _);refine⟨.ref s1.heap.objs.size,upd H1 s1.heap.objs.size (.lst xs),I1.laid (t':=s1.toks) (λb u e=>bp _ e) (bw _) ?_,rfl,q _ hf⟩;exact⟨z,us,0,r,bD _ rfl⟩
end
abbrev Sp:=T0 V->Hp->VK->XK->Prop
abbrev Fv:=T0 Env->Hp->Sd->XK->Vl->Sd->Prop
structure AE(P:Pg)(w:Wo)(K:mZ)(mg:QQZ)(base:Heap)(A:Ar)(outer:List Env)(s:Sd)(H:Hp):Prop where
 frames:A.frames=some outer
 mod:Mod K mg base
 bs:∀b o,base.get? b=some o->s.heap.get? b=some o/\H b=none
 ma:base.objs.size<=s.heap.objs.size
 lM:s.heap.FunFrames base outer
 mq:∀b∈DQ outer,H b=none
 lA:tL P w H s.heap
 bare:AllBare s.gens
def CE(outer:T0 Env)(P:Pg)(w:Wo)(H:Hp)(s:Sd)(Q:VK)(u:Vl)(s':Sd):Prop:=
 ∃v H',s'.os=s.os/\AllBare s'.gens/\Un (DQ outer) [] H H' s.heap s'.heap/\tL P w H' s'.heap/\nE v u/\Q v H'
def CR(CX:Fv)(outer:T0 Env)(P:Pg)(w:Wo)(H:Hp)(s:Sd)(Q:VK)(E:XK)(r:Result)(s':Sd):Prop:=
 match r with
 | .ok (.ret u)=>CE outer P w H s Q u s'
 | .ok _=>False
 | .error e=>CX outer H s E e s'
structure wd(P:Pg)(w:Wo)(K:mZ)(mg:QQZ)(base:Heap)(CX:Fv)(k:Nat)(f:Addr)(fd:FuncData)(ps:QQQ)(sp:Sp):Prop where
 len:∀vs H Q E,sp vs H Q E->vs.length=ps.length
 run:∀(A:Ar) (outer:List Env) (s:Sd) (H:Hp) (args:Args) (us:List Vl) (vs:List V) (Q:VK) (E:XK),oE k A->AE P w K mg base A outer s H->BindsTo s fd args (ps.zip us)->nj vs us->sp vs H Q E->
  codeAny (model P w) A (.call (.ref f) args) (CR CX outer P w H s Q E) s
def AE.make{P:Pg}{w:Wo}{K:mZ}{mg:QQZ}{base:Heap}{A:Ar}{outer:T0 Env}{s:Sd}{H:Hp}(e:AE P w K mg base A outer s H)(C:Addr)(us:T0 Vl)(kw:T0 (Str×Vl)):
  AE P w K mg base (A.under (.builtin "type.__call__" ⟨.ref C::us,kw⟩)) outer s H:=⟨by first|exact e.frames|(simpa [Around.under,Code.envs,Code.isFrame,pushEnvs]using e.frames),e.mod,e.bs,e.ma,e.lM,e.mq,e.lA,e.bare⟩
variable {s':Sd}
section
variable {Y:St}
def Inv.mx(I:Inv X MV Y H s):AE X.prog X.w X.K X.mg X.base X.A X.stack s H:=
 ⟨I.ok.frames,I.ok.mod,I.bs,bS I.ok.ma I.sz,I.stack,I.lW,I.lA,I.bare⟩
def Inv.after{Q:VK}{u:Vl}(I:Inv X MV Y H s)(h:CE X.stack X.prog X.w H s Q u s'):EP X MV Y Q u s':=by obtain⟨v,H',os,bare,un,lA,r,q⟩:=h;obtain⟨hh,g,d,t,PC⟩:=s';obtain rfl:PC=s.os:=os;exact⟨v,H',I.call (h':=hh) (g':=g) (d':=d) (t':=t) (ch:=[]) un lA bare (λb z=>absurd z (by simp)),r,q⟩
end
def JZ(sp:Sp)(N8:T0 V)(E:XK)(t:TA):TE:=λY H Q=>t Y H λvs H1=>sp (vs++N8) H1 Q E
def KM(C:Addr)(sp:Sp)(N8:T0 V)(E:XK)(t:TA):TE:=λY H Q=>t Y H λvs H1=>∀x dx,H1 x=none->H1 dx=none->dx≠x->
 sp (.ref x::(vs++N8)) (upd (upd H1 dx (.own x)) x (.ins C dx [])) (λv H2=>v=.lw/\Q (.ref x) H2) E
def qY(K:mZ)(fd:FuncData)(ps:QQQ)(ds:T0 Vl):Prop:=
 ∀(s:Sd) (us:T0 Vl),K.In s.heap->(us++ds).length=ps.length->BindsTo s fd ⟨us,[]⟩ (ps.zip (us++ds))
def qY.all{K:mZ}{fd:FuncData}{ps:QQQ}(h:∀us:T0 Vl,us.length=ps.length->bindArgs fd ⟨us,[]⟩=pure (ps.zip us)):qY K fd ps []:=λs us _ hl=>by rw[b5]at hl ⊢;exact .of_eq (h us hl)
def wA(CX:Fv)(X:Cx)(E:XK):Prop:=∀(MV:QQY) (Y:St) (H:Hp) (s:Sd) (e:Vl) (s':Sd),Inv X MV Y H s->CX X.stack H s E e s'->X.xe e s'
variable {CX:Fv}{k:Nat}{fd:FuncData}{ps:QQQ}{sp:Sp}{N8:T0 V}{ds:T0 Vl}{m:Str}{p MZ:Pos}
section
variable {f:Addr}{E:XK}{x:Str}{e o:Expr}{t:TA}
def AX{MV:QQY}{Y:St}{H:Hp}{s:Sd}{Q:VK}{us:T0 Vl}{vs:T0 V}(F:wd X.prog X.w X.K X.mg X.base CX k f fd ps sp)(hr:oE k X.A)(hb:qY X.K fd ps ds)(hd:nj N8 ds)(hx:wA CX X E) (I:Inv X MV Y H s) (r:nj vs us) (h:sp (vs++N8) H Q E):wpAny (model X.prog X.w) X.A (call (.ref f) us) (EP X MV Y Q) X.xe s:=by
 have r2:nj (vs++N8) (us++ds):=r.append hd;have hl:(us++ds).length=ps.length:=by rw[<-r2.length];exact F.len _ _ _ _ h
 refine gi (dR (F.run X.A X.stack s H ⟨us,[]⟩ (us++ds) (vs++N8) Q E hr I.mx (hb s us I.lG hl) r2 h) λr s' hq=>?_);cases r with
 | error e=>exact hx MV Y H s e s' I hq
 | ok fl=>
  cases fl with
  | ret u=>exact I.after hq
  | next=>exact False.elim hq
  | brk=>exact False.elim hq
  | cont=>exact False.elim hq
def Gi(F:wd X.prog X.w X.K X.mg X.base CX k f fd ps sp)(hr:oE k X.A)(hg:Gl X x)(hm:X.mg x=some (.ref f))(hk:W.keepIn X.K (.ref f)=true)(hb:qY X.K fd ps ds)(hd:nj N8 ds)(hx:wA CX X E) (ha:PA X (e::es) t) (Nx:ve x:=by decide) (he:xw X e es:=by rfl) (Np:y6 X pos es:=by rfl):
  PE X (.Call (.Name x p) (e::es) [] pos) (JZ sp N8 E t):=by
 intro MV s Y H Q I h;refine du (vg I hg hm ?_ Nx);refine jC (h₀:=X.base) I.ok.mod.ml hk (o6 (ha pos MV s Y H _ I h) λus s1 zz=>x5 zz λvs H1 I1 r q=>⟨I1.lG,?_⟩) he Np;exact AX F hr hb hd hx I1 r q
structure Mk(K:mZ)(C f:Addr):Prop where
 makes:W.makesIn K C=true
 init:W.findIn K (.ref C) "__init__"=some (some (.ref f))
 fn:W.isFn K (.ref f)=true
 kp:W.keepIn K (.ref C)=true
def Dl{MV:QQY}{Y:St}{H:Hp}{s:Sd}{Q:VK}{us:T0 Vl}{vs:T0 V}(M:Mk X.K C f)(F:wd X.prog X.w X.K X.mg X.base CX k f fd ps sp)(hr:oE (k+1) X.A)(hb:qY X.K fd ps ds)(hd:nj N8 ds) (hx:wA CX X E) (I:Inv X MV Y H s) (r:nj vs us) (h:∀x dx,H x=none->H dx=none->dx≠x->sp (.ref x::(vs++N8)) (upd (upd H dx (.own x)) x (.ins C dx [])) (λv H2=>v=.lw/\Q (.ref x) H2) E):
  wpAny (model X.prog X.w) X.A (call (.ref C) us) (EP X MV Y Q) X.xe s:=by
 have hq:=h (s.heap.objs.size+1) s.heap.objs.size (I.lA.fresh (dF _)) (I.lA.fresh (bw _)) (bG (dM _));have I2:=Inv.made (C:=C) I;have r2:nj (V.ref (s.heap.objs.size+1)::(vs++N8)) (Value.ref (s.heap.objs.size+1)::(us++ds)):=.cons rfl (r.append hd);have hl:(Value.ref (s.heap.objs.size+1)::us++ds).length=ps.length:=by have e:=r2.length;rw[F.len _ _ _ _ hq]at e;exact e.symm
 refine gi (Ef (f:=f) I.lG M.makes M.init (fK.mp M.fn) (dR (F.run _ X.stack _ _ ⟨Value.ref (s.heap.objs.size+1)::us,[]⟩ (Value.ref (s.heap.objs.size+1)::(us++ds)) _ _ E (hr.make C us [])
  (I2.mx.make C us []) (hb _ (Value.ref (s.heap.objs.size+1)::us) I2.lG hl) r2 hq) λr s' O1=>?_))
 cases r with
 | error e=>exact hx MV Y _ _ e s' I2 O1
 | ok fl=>
  cases fl with
  | ret u=>obtain⟨v,H',I3,rv,ev,q3⟩:=I2.after O1;subst ev;exact⟨rv,⟨V.ref (s.heap.objs.size+1),H',I3,rfl,q3⟩⟩
  | next=>exact False.elim O1
  | brk=>exact False.elim O1
  | cont=>exact False.elim O1
def FJ(M:Mk X.K C f)(F:wd X.prog X.w X.K X.mg X.base CX k f fd ps sp)(hr:oE (k+1) X.A)(hg:Gl X x)(hm:X.mg x=some (.ref C))(hb:qY X.K fd ps ds)(hd:nj N8 ds)(hx:wA CX X E) (ha:PA X (e::es) t) (Nx:ve x:=by decide) (he:xw X e es:=by rfl) (Np:y6 X pos es:=by rfl):
  PE X (.Call (.Name x p) (e::es) [] pos) (KM C sp N8 E t):=by
 intro MV s Y H Q I h;refine du (vg I hg hm ?_ Nx);refine jC (h₀:=X.base) I.ok.mod.ml M.kp (o6 (ha pos MV s Y H _ I h) λus s1 zz=>x5 zz λvs H1 I1 r q=>⟨I1.lG,?_⟩) he Np;exact Dl M F hr hb hd hx I1 r q
end
variable {g:T0 Vl→T0 Vl→T0 Vl}{gV:T0 V→T0 V→T0 V}{ks:QQQ}{kpos:Pos}{kws:T0 Keyword}{tk:TA}{nm:Option Str}
section
variable {f:Addr}{E:XK}{x:Str}{e o:Expr}{t:TA}
end
structure pQ(N P:QQQ)(sc:Scope):Prop where
 kind:sc.kind=.function
 co:sc.isCoroutine=false
 gen:sc.isGenerator=false
 nd:N.Nodup
 pre:N.take P.length=P
 par:∀x∈P,sc.names.lookup x=some .local\/sc.names.lookup x=some .cell
 mD:∀y∈sc.names,y.2≠.free
theorem xG{kindOf:Str->Option NameKind}{x:Str}:∀{binds:T0 (Str×Vl)} {m:QQZ},(∀v,(x,v)∉binds)->bindL kindOf binds m x=m x
 | [],_,_=>rfl
 | (n,v)::r,m,h=>by
  unfold bindL;rw[xG λw hw=>h w (bL _ hw)];split
  .have:x≠n:=by rintro rfl;exact h v bM
   simp[this]
  .rfl
theorem xh{kindOf:Str->Option NameKind}{x:Str}:∀{binds:T0 (Str×Vl)} {m:QQZ},(∀v,(x,v)∉binds)->bindC kindOf binds m x=m x
 | [],_,_=>rfl
 | (n,v)::r,m,h=>by
  unfold bindC;rw[xh λw hw=>h w (bL _ hw)];split
  .rfl
  .have:x≠n:=by rintro rfl;exact h v bM
   simp[this]
theorem xn{kindOf:Str->Option NameKind}{x:Str}{v:Vl}:∀{P:QQQ} {vs:T0 Vl} {i:Nat} {m:QQZ},P.Nodup->P[i]?=some x->vs[i]?=some v->kindOf x=some .local->
  bindL kindOf (P.zip vs) m x=some v
 | [],_,_,_,_,h,_,_=>by simp at h
 | _::_,[],_,_,_,_,h,_=>by simp at h
 | p::P,w::vs,0,m,nd,h1,h2,hk=>by simp at h1 h2;subst h1;subst h2;show bindL kindOf ((p,w)::P.zip vs) m p=_;unfold bindL;rw[xG λv hv=>(cp.mp nd).1 (iV hv).1,bA hk];simp
 | p::P,w::vs,i+1,m,nd,h1,h2,hk=>by show bindL kindOf ((p,w)::P.zip vs) m x=_;unfold bindL;exact xn (i:=i) (cp.mp nd).2 (by simpa using h1) (by simpa using h2) hk
theorem xg{kindOf:Str->Option NameKind}{x:Str}{v:Vl}:∀{P:QQQ} {vs:T0 Vl} {i:Nat} {m:QQZ},P.Nodup->P[i]?=some x->vs[i]?=some v->kindOf x≠some .local->
  bindC kindOf (P.zip vs) m x=some v
 | [],_,_,_,_,h,_,_=>by simp at h
 | _::_,[],_,_,_,_,h,_=>by simp at h
 | p::P,w::vs,0,m,nd,h1,h2,hk=>by simp at h1 h2;subst h1;subst h2;show bindC kindOf ((p,w)::P.zip vs) m p=_;unfold bindC;rw[xh λv hv=>(cp.mp nd).1 (iV hv).1,bv hk];simp
 | p::P,w::vs,i+1,m,nd,h1,h2,hk=>by show bindC kindOf ((p,w)::P.zip vs) m x=_;unfold bindC;exact xg (i:=i) (cp.mp nd).2 (by simpa using h1) (by simpa using h2) hk
noncomputable def sF(N:QQQ)(vs:T0 V):St:=vs.map some++List.replicate (N.length - vs.length) none
noncomputable def yr(CX:Fv)(P:Pg)(w:Wo)(K:mZ)(mg:QQZ)(base:Heap)(N:QQQ)(qual:Str)(scope:Scope)(f:Addr)(cd:Vl)(A:Ar)(outer:T0 Env)(s:Sd)(H:Hp)(E:XK):Cx where
 prog:=P
 w:=w
 K:=K
 mg:=mg
 base:=base
 A:=A.deeper (envOfC qual scope s.heap.objs.size f cd)
 N:=N
 s₀:=s
 H₀:=H
 env:=envOfC qual scope s.heap.objs.size f cd
 outer:=outer
 stack:=envOfC qual scope s.heap.objs.size f cd::outer
 ex:=[]
 calm:=true
 fn:=λ_=>true
 pn:=[]
 xe:=λe s'=>wpAny (model P w) (A.deeper (envOfC qual scope s.heap.objs.size f cd)) (leaving (envOfC qual scope s.heap.objs.size f cd) e) (λ_ O2=>CX outer H s E e O2) (λe' O2=>CX outer H s E e' O2) s'
def zD{sc:Scope}{n:Nat}{x:Str}(h:sc.names.lookup x=some .cell):∃c,(cellsFrom n sc.names []).lookup x=some c:=by have q:=kc sc.names n [] (.inl h);exact fW.mp q
def Co{CX:Fv}{P:Pg}{w:Wo}{K:mZ}{mg:QQZ}{base:Heap}{N ps:QQQ}{qual:Str}{scope:Scope}{f:Addr}{cd:Vl}{A:Ar}{outer:T0 Env}{s s1:Sd}{H:Hp}{E:XK}{us:T0 Vl}{vs:T0 V} (S:pQ N ps scope) (hd:A.handled=none) (e0:AE P w K mg base A outer s H) (hl:vs.length=ps.length) (r:nj vs us) (x:InCallC s s.heap.objs.size (bindL (envOfC qual scope s.heap.objs.size f cd).kindOf (ps.zip us) λ_=>none) (cellsFrom (s.heap.objs.size+1) scope.names []) (bindC (envOfC qual scope s.heap.objs.size f cd).kindOf (ps.zip us) λ_=>none) s1):
  Inv (yr CX P w K mg base N qual scope f cd A outer s H E) [] (sF N vs) H s1:=by
 have Np:ps.length<=N.length:=by have:=de List.length S.pre;rw[df]at this;lia
 obtain⟨h1,tk,rfl,hk⟩:=x.done;have noA:∀b:Addr,b∉(yr CX P w K mg base N qual scope f cd A outer s H E).ex:=λb z=>absurd (show b∈([]:QXQ)from z) (by simp);refine⟨⟨e0.mod,S.kind,rfl,rfl,bw _,λy z c h1 h2=>?_,λy hy=>?_,λy c _ h=>?_,λ_=>hd,Around.frames_deeper e0.frames,.inr ⟨rfl,rfl⟩,λb z=>absurd z (noA b),e0.bs,e0.ma,λb _ _=>noA b,λb z=>absurd z (noA b),e0.lM,e0.mq⟩,rfl,e0.bare,Un.kept hk,⟨_,x.toInCall.ns,λi y v h1 h2 h3=>?_⟩,λy c h=>⟨_,x.cell y c h⟩,e0.lA.fresh (bw _),λy c h=>?_,λp hp=>absurd (show p∈([]:QQY)from hp) (by simp),e0.lA.kept hk,?_⟩
 .exact name_of_addr x.apart (eT h1) (eT h2)
 .have hy:scope.names.lookup y=some .cell\/scope.names.lookup y=some .free:=hy;rcases hy with hy|hy
  .exact zD hy
  .exact absurd rfl (S.mD _ (eT hy))
 .exact fV (x.above y c (eT h))
 .have hi:i<vs.length:=by
   unfold sF at h2;by_cases hi:i<vs.length
   .exact hi
   .rw[eD (by simpa using hi)]at h2;rw[iQ]at h2;split at h2<;>cases h2
  have ha:vs[i]?=some v:=by
   unfold sF at h2;rw[dQ (by simpa using hi),bJ]at h2;cases e:vs[i]? with
   | none=>rw[e]at h2;cases h2
   | some a=>rw[e]at h2;cases h2;rfl
  obtain⟨u,hu,rv⟩:=r.get ha;have hp:ps[i]?=some y:=by rw[<-S.pre,iB (by lia)];exact h1
  have ndP:ps.Nodup:=by rw[<-S.pre];exact S.nd.sublist (List.take_sublist _ _)
  refine⟨u,rv,?_⟩;rcases S.par y (cJ hp)with k|k
  .exact .inl ⟨k,xn ndP hp hu k⟩
  .obtain⟨c,e⟩:=zD (n:=s.heap.objs.size+1) k;refine .inr ⟨.inl k,c,e,?_⟩;have q:=x.cell y c e;rw[xg ndP hp hu (by show scope.names.lookup y≠_;rw[k];decide)]at q;exact q
 .exact e0.lA.fresh (fV (x.above y c (eT h)))
 .unfold sF;show _=N.length;rw[bF,bi,gC];lia
def Kt{CX:Fv}{P:Pg}{w:Wo}{K:mZ}{mg:QQZ}{base:Heap}{k:Nat}{f:Addr}{name qual:Str}{params:Arguments}{body:T0 Stmt}{scope:Scope}{dV kV NL pm Nk ct oc:Vl}{an od:Option Addr} {O4:Array (Option Vl)} {N ps:QQQ} {sp:Sp} (lk:K.lookup f=some ⟨oc,od,.func (W.fnOf name qual params body scope dV kV NL pm an Nk ct),O4⟩) (OA:W.codeIn K Nk qual=true) (S:pQ N ps scope) (len:∀vs H Q E,sp vs H Q E->vs.length=ps.length) (Nz:∀(A:Ar) (outer:T0 Env) (s:Sd) (H:Hp) (vs:T0 V) (Q:VK) (E:XK),oE k (A.deeper (envOfC qual scope s.heap.objs.size f Nk))->sp vs H Q E->
   ∃t,xU (yr CX P w K mg base N qual scope f Nk A outer s H E) body t/\t {nx:=λ_ H'=>Q .lw H',rt:=Q} (sF N vs) H):
  wd P w K mg base CX (k+1) f (W.fnOf name qual params body scope dV kV NL pm an Nk ct) ps sp:=by
 refine⟨len,λA outer s H args us vs Q E hr e0 hb r OW=>?_⟩;have hl:=len _ _ _ _ OW;have KX:K.In s.heap:=e0.mod.ml.keeps λb o e=>(e0.bs b o e).1;have lim:s.heap.NoLimit:=e0.mod.nolimit.keeps λb o e=>(e0.bs b o e).1;have hkind:∀y∈ps.zip us,scope.names.lookup y.1=some .local\/(scope.names.lookup y.1=some .cell/\((cellsFrom (s.heap.objs.size+1) scope.names []).lookup y.1).isSome=true):=λ⟨n,v⟩ hy=>by
  rcases S.par n (iV hy).1 with q|q
  .exact .inl q
  .exact .inr ⟨q,kc _ _ _ (.inl q)⟩
 refine codeAny_call_function hr.depth (KX _ _ lk) rfl S.co S.gen rfl (W.codeRec_of KX OA) (hb _ _ _ _ ?_);refine wpAny_newFunctionEnv_cells S.kind hkind λenv he s1 x=>?_;subst he;refine⟨lim.keeps x.toInCall.keep,codeAny_func ?_⟩;obtain⟨t,ht,hq⟩:=Nz A outer s H vs Q E (hr.deeper _) OW;have I:Inv (yr CX P w K mg base N qual scope f Nk A outer s H E) [] (sF N vs) H s1:=Co S hr.hd e0 hl r x;refine cz (ht [] s1 (sF N vs) H _ I hq) (λfl s' hs=>?_) λe s' hs=>hs;have fin:∀{σ':St} {H':Hp} {v:V} {u:Vl},Inv (yr CX P w K mg base N qual scope f Nk A outer s H E) [] σ' H' s'->nE v u->Q v H'->CE outer P w H s Q u s':=
  λ{σ' H' v u} J rv q=>⟨v,H',J.os,J.bare,J.base,J.lA,rv,q⟩
 cases fl with
 | ret u=>obtain⟨v,σ',H',J,rv,q⟩:=hs;exact fin J rv q
 | next=>obtain⟨σ',H',J,q⟩:=hs;exact fin (v:=V.lw) (u:=Value.none) J rfl q
 | brk=>obtain⟨_,_,_,q⟩:=hs;exact False.elim q
 | cont=>obtain⟨_,_,_,q⟩:=hs;exact False.elim q
variable {id T:String}{r:T0 V→Hp→VK→Prop}
section
variable {x:Str}{e:Expr}{t:TA}
def Mf(r:T0 V->Hp->VK->Prop)(t:TA):TE:=λY H Q=>t Y H λvs H1=>r vs H1 Q
def Dx(hc:sQ X (.builtin id) r)(hg:Gl X x)(hm:X.mg x=none)(hv:bootBuiltins x=some (.builtin id))(ha:PA X (e::es) t)(hn:x≠"__name__":=by decide)(Nx:ve x:=by decide)
  (he:xw X e es:=by rfl) (Np:y6 X pos es:=by rfl):PE X (.Call (.Name x p) (e::es) [] pos) (Mf r t):=by
 intro MV s Y H Q I h;refine du (qu I hg hm hv ?_ hn Nx);exact eY (o6 (ha pos MV s Y H _ I h) λus s1 zz=>x5 zz λvs H1 I1 r1 q1=>hc MV s1 Y H1 vs us Q I1 r1 q1) he Np
def CI(hc:sQ X (.type T) r)(hg:Gl X x)(hm:X.mg x=none)(hv:bootBuiltins x=some (.type T))(ha:PA X (e::es) t)(hn:x≠"__name__":=by decide)(Nx:ve x:=by decide)
  (he:xw X e es:=by rfl) (Np:y6 X pos es:=by rfl):PE X (.Call (.Name x p) (e::es) [] pos) (Mf r t):=by
 intro MV s Y H Q I h;refine du (qu I hg hm hv ?_ hn Nx);exact cP (o6 (ha pos MV s Y H _ I h) λus s1 zz=>x5 zz λvs H1 I1 r1 q1=>hc MV s1 Y H1 vs us Q I1 r1 q1) he Np
end
end L2
namespace HT
open PySem PyProof.Rows
section
open PySem.SeqAt
open PySem.AutoSeq1 (wpAny_loadPart')
open PySem.MeetsSeq PySem.MeetsSeq2 PySem.MeetsSeq3
end
variable {prog:Pg}{w:Wo}{A:Ar}{E:QQX}{s:Sd}
def F7{t b:Addr}{vs ws:T0 Vl}{Q:QQX}(ht:IsTup s.heap t vs.toArray)(hb:IsTup s.heap b ws.toArray)(hv:vs≠[]) (h1:ws=[]->Q (.ref t) s) (h2:ws≠[]->Q (.ref s.heap.objs.size) {s with heap:=s.heap.push {cls:=.type "tuple",data:=.seq (vs++ws).toArray}})
  (hsz:vs.length+ws.length<=sizeLine):wpAny (model prog w) A (binaryOp .Add (.ref t) (.ref b)) Q E s:=by
 obtain⟨⟨cls,dd,data,sl⟩,ho,hc,n,hd⟩:=id ht;obtain⟨⟨cls2,dd2,data2,sl2⟩,ho2,hc2,n2,hd2⟩:=id hb;simp only at hc hd hc2 hd2;subst hc hd hc2 hd2;have e:vs.toArray++ws.toArray=(vs++ws).toArray:=by simp
 by_cases hw:ws=[]
 .exact jD ⟨_,ho,rfl⟩ ⟨_,ho2,rfl⟩ kg seq_tuple_add iY iR (iC _ _)
   (tuple_addW1 t b vs.toArray ws.toArray n n2 dd dd2 sl sl2 (by simpa using hv) (by simp[hw])) ⟨ho,ho2,h1 hw⟩
 .refine jD ⟨_,ho,rfl⟩ ⟨_,ho2,rfl⟩ kg seq_tuple_add iY iR (iC _ _)
   (tuple_addW2 t b vs.toArray ws.toArray n n2 dd dd2 sl sl2 (by simpa using hv) (by simpa using hw) (by rw[bz,bz];exact hsz)) ⟨ho,ho2,?_⟩
  rw[e];exact h2 hw
noncomputable def oP(n d:Nat):Option Int->Nat
 | none=>d
 | some v=>if v<0 then(v+(n:Int)).toNat else min v.toNat n
def zv(n d:Nat):oP n d none=d:=rfl
def BO(n d k:Nat):oP n d (some (k:Int))=min k n:=by show(if (k:Int)<0 then((k:Int)+(n:Int)).toNat else min (k:Int).toNat n)=min k n;rw[bv (by lia),dS]
def IR(n d:Nat)(hd:d<=n)(o:Option Int):oP n d o<=n:=by
 cases o with
 | none=>exact hd
 | some v=>
  show(if v<0 then(v+(n:Int)).toNat else min v.toNat n)<=n;by_cases hv:v<0
  .rw[bA hv];lia
  .rw[bv hv];exact kh _ _
def Bv(v:Int)(n d:Nat):(if v<0 then max (v+(n:Int)) 0 else min v (n:Int))=((oP n d (some v):Nat):Int):=by
 show(if v<0 then max (v+(n:Int)) 0 else min v (n:Int))=(((if v<0 then(v+(n:Int)).toNat else min v.toNat n):Nat):Int);by_cases hv:v<0
 .simp only[bA hv];lia
 .simp only[bv hv];lia
def AD(lo hi:Option Int)(n:Nat):Builtin.Slice.sliceAdjust lo hi 1 (n:Int)=(((oP n 0 lo:Nat):Int),((oP n n hi:Nat):Int)):=by
 have h1:¬((1:Int)<0):=by lia
 unfold Builtin.Slice.sliceAdjust;simp only[h1,iD];refine Prod.ext ?_ ?_
 .cases lo with
  | none=>rfl
  | some v=>exact Bv v n 0
 .cases hi with
  | none=>rfl
  | some v=>exact Bv v n n
def Bb(i j:Nat):Builtin.Slice.slicePlaces (i:Int) (j:Int) 1=j - i:=by
 unfold Builtin.Slice.slicePlaces;have h1:(1:Int)>0:=by lia
 simp only[h1,gD,Int.ediv_one];split<;>lia
def wB{v:Vl}{o:Option Int}{Q:Option Int->Sd->Prop}(p:IsPart v o)(h:Q o s):wpAny (model prog w) A (Builtin.Slice.slicePartIndex v) Q E s:=by
 cases p with
 | none=>exact slicePart_none h
 | int i t=>exact slicePart_int h
def qV{sl:Addr}{vl vu:Vl}{lo hi:Option Int}{n:Nat}{Q:Int×Int×Nat->Sd->Prop}(hs:s.heap.IsSliceOf sl vl vu .none)(pl:IsPart vl lo)(pu:IsPart vu hi) (h:Q (((oP n 0 lo:Nat):Int),1,oP n n hi - oP n 0 lo) s):wpAny (model prog w) A (Builtin.Slice.sliceApplied (.ref sl) (pure (n:Int))) Q E s:=by
 obtain⟨os,PD,hcs,Od⟩:=id hs;unfold Builtin.Slice.sliceApplied Builtin.Slice.sliceFields;refine bh (bh (cZ PD Od (x:=vl) rfl (bh (cZ PD Od (x:=vu) rfl (bh (cZ PD Od (x:=.none) rfl (bj ?_)))))));refine bh (slicePart_none ?_);show wpAny _ _ (if ((1:Int)==0)=true then _ else _) _ _ s;rw[bv (by decide)];refine bh (wB pl (bh (wB pu (bh (bj ?_)))));show wpAny _ _ (match Builtin.Slice.sliceAdjust lo hi 1 (n:Int)with|(lo,hi)=>pure (lo,(1:Int),Builtin.Slice.slicePlaces lo hi 1)) _ _ s;rw[AD lo hi n];show wpAny _ _ (pure (((oP n 0 lo:Nat):Int),(1:Int),Builtin.Slice.slicePlaces ((oP n 0 lo:Nat):Int) ((oP n n hi:Nat):Int) 1)) _ _ s;rw[Bb];exact bj h
def DD(xs:Array Vl)(i k:Nat):((List.range k).filterMap λ(m:Nat)=>xs[((i:Int)+(m:Int)*1).toNat]?).toArray=((xs.toList.drop i).take k).toArray:=by
 have e:(λ(m:Nat)=>xs[((i:Int)+(m:Int)*1).toNat]?)=λm=>xs[i+m]?:=by
  funext m;have:((i:Int)+(m:Int)*1).toNat=i+m:=by lia
  rw[this]
 rw[e];have:=pick_run xs i k;rw[List.filterMap_map]at this;have e2:((λx=>xs[x]?)∘λx=>i+x)=λm=>xs[i+m]?:=rfl;rw[e2]at this;rw[this]
def tQ{t sl:Addr}{MW:Array Vl}{vl vu:Vl}{lo hi:Option Int}{Q:QQX}(ht:IsTup s.heap t MW)(hs:s.heap.IsSliceOf sl vl vu .none)(pl:IsPart vl lo)(pu:IsPart vu hi) (hw:¬(oP MW.size 0 lo=0/\oP MW.size MW.size hi=MW.size)) (h:Q (.ref s.heap.objs.size) {s with heap:=s.heap.push {cls:=.type "tuple",data:=.seq ((MW.toList.drop (oP MW.size 0 lo)).take (oP MW.size MW.size hi - oP MW.size 0 lo)).toArray}})
  (hsz:MW.size<=sizeLine):wpAny (model prog w) A (getItem (.ref t) (.ref sl)) Q E s:=by
 have Oo:sizeOk (.seq ((MW.toList.drop (oP MW.size 0 lo)).take (oP MW.size MW.size hi - oP MW.size 0 lo)).toArray):=by show((MW.toList.drop (oP MW.size 0 lo)).take (oP MW.size MW.size hi - oP MW.size 0 lo)).toArray.size<=sizeLine;rw[bz,df,fL,bX];lia
 have hj:oP MW.size MW.size hi<=MW.size:=IR _ _ (bw _) hi;obtain⟨os,PD,hcs,Od⟩:=id hs;have hTs:s.TypeIs (.ref sl) "slice":=⟨os,PD,hcs⟩;unfold getItem
 try with_reducible refine cE ?_
 first|refine bh (bj ?_)|skip
 refine bh (ik ht.typeIs (by decide) ?_);refine bh (cH (name:=Str.ofString "__getitem__") ht.typeIs cS
  (cq cS ht.typeIs js ?_ (jE _ _)))
 show wpAny _ _ (Builtin.Tuple.tupleItemsOf (.ref t)>>=_) _ _ s;refine bh (tupleItemsOf_ ht ?_);refine bh (fB hTs ?_);rw[bA (by decide)];refine bh (qV hs pl pu ?_);have hno:¬((((oP MW.size 0 lo:Nat):Int)==0&&(1:Int)==1&&(oP MW.size MW.size hi - oP MW.size 0 lo)==MW.size)=true):=by intro q;rw[cO,cO]at q;have q1:((oP MW.size 0 lo:Nat):Int)=0:=eq_of_beq q.1.1;have q2:oP MW.size MW.size hi - oP MW.size 0 lo=MW.size:=eq_of_beq q.2;exact hw ⟨by lia,by lia⟩
 show wpAny _ _ (if (((oP MW.size 0 lo:Nat):Int)==0&&(1:Int)==1&&(oP MW.size MW.size hi - oP MW.size 0 lo)==MW.size)=true then _ else _) _ _ s;rw[bv hno,DD]
 first
  | exact bh (m:=Builtin.Tuple.tupleExact _) (cQ (bj ⟨_,rfl,bj h⟩) Oo)
  | exact bh (m:=Builtin.Tuple.tupleExact _) (cQ (bh (bj (bj ⟨_,rfl,bj h⟩))) Oo)
  | exact bh (bh (m:=Builtin.Tuple.tupleExact _) (cQ (bj (bj ⟨_,rfl,bj h⟩)) Oo))
  | exact bh (bh (m:=Builtin.Tuple.tupleExact _) (cQ (bj ⟨_,rfl,bj h⟩) Oo))
end HT
namespace L2
abbrev TO:=St->Hp->(Option Int->Hp->Prop)->Prop
def PO(X:Cx)(e:Option Expr)(t:TO):Prop:=
 ∀(MV:QQY) (s:Sd) (Y:St) (H:Hp) (Q:Option Int->Hp->Prop),Inv X MV Y H s->t Y H Q->
  wpAny (model X.prog X.w) X.A (evalPart e X.env) (λu s'=>∃o H',Inv X MV Y H' s'/\IsPart u o/\Q o H') X.xe s
def FS:TO:=λ_ H Q=>Q none H
def KA(t:TE):TO:=λY H Q=>t Y H λx H1=>∃i,x=.int i/\Q (some i) H1
variable {X:Cx}{e:Expr}{te:TE}{lo hi:Option Expr}{tl th:TO}{pos p2:Pos}
def Ga:PO X none FS:=by intro MV s Y H Q I h;rw[evalPart_none];exact bj ⟨none,H,I,.none,h⟩
def G2(h:PE X e te):PO X (some e) (KA te):=by intro MV s Y H Q I hw;rw[evalPart_some];refine o6 (h MV s Y H _ I hw) λu s1 zz=>x5 zz λx H1 I1 r1 q1=>?_;obtain⟨i,rfl,q⟩:=q1;obtain⟨t,rfl⟩:=r1;exact⟨some i,H1,I1,.int i t,q⟩
def Kz(X:Cx)(r:V->Option Int->Option Int->Hp->VK->Prop):Prop:=
 ∀(MV:QQY) (s:Sd) (Y:St) (H:Hp) (x:V) (v vl vu:Vl) (lo hi:Option Int) (sl:Addr) (Q:VK),Inv X MV Y H s->nE x v->s.heap.IsSliceOf sl vl vu .none->IsPart vl lo->IsPart vu hi->r x lo hi H Q->
  ∃T id,typeLookup (.type T) "__getitem__"=pure (some (.builtin id))/\s.TypeIs v T/\wpAny (model X.prog X.w) X.A (getItem v (.ref sl)) (EP X MV Y Q) X.xe s
def MC(r:V->Option Int->Option Int->Hp->VK->Prop)(te:TE)(tl th:TO):TE:=λY H Q=>te Y H λx H1=>tl Y H1 λl H2=>th Y H2 λu H3=>r x l u H3 Q
def DB{r:V->Option Int->Option Int->Hp->VK->Prop}(hr:Kz X r)(he:PE X e te)(hl:PO X lo tl)(hu:PO X hi th):PE X (.Subscript e (.Slice lo hi none p2) pos) (MC r te tl th):=by intro MV s Y H Q I h;refine Subscript_ (o6 (he MV s Y H _ I h) λv s1 zz=>x5 zz λx H1 I1 r1 q1=>?_);refine wpAny_Slice (o6 (hl MV s1 Y H1 _ I1 q1) λvl s2 zz=>x5 zz λl H2 I2 pl q2=>o6 (hu MV s2 Y H2 _ I2 q2) λvu s3 zz=>x5 zz λu H3 I3 pu q3=>?_);rw[evalPart_none];refine bj ?_;have I4:Inv X MV Y H3 {s3 with heap:=s3.heap.push {cls:=.type "slice",data:=.fields #[vl,vu,.none]}}:=I3.kept (t':=s3.toks) λb ob q=>bp _ q;obtain⟨T,id,hT,ht,hg⟩:=hr MV {s3 with heap:=s3.heap.push {cls:=.type "slice",data:=.fields #[vl,vu,.none]}} Y H3 x v vl vu l u s3.heap.objs.size Q I4 r1 (k7 ..) pl pu q3;show wpAny (model X.prog X.w) X.A (subscriptTail e (.Slice lo hi none p2) v (.ref s3.heap.objs.size)) (EP X MV Y Q) X.xe {s3 with heap:=s3.heap.push {cls:=.type "slice",data:=.fields #[vl,vu,.none]}};exact tail_any (ops:=[.ref s3.heap.objs.size,v]) ht hT hg (by with_unfolding_all rfl)
noncomputable def vJ(xs:T0 V)(lo hi:Option Int):T0 V:=(xs.drop (HT.oP xs.length 0 lo)).take (HT.oP xs.length xs.length hi - HT.oP xs.length 0 lo)
def uI(xs:T0 V)(lo hi:Option Int):(vJ xs lo hi).length<=xs.length:=by unfold vJ;rw[df,fL];lia
def LJ(K:mZ):V->Option Int->Option Int->Hp->VK->Prop:=λx lo hi H Q=>∃a xs,x=.ref a/\p9 K H a xs/\
 ¬(HT.oP xs.length 0 lo=0/\HT.oP xs.length xs.length hi=xs.length)/\∀p,H p=none->Q (.ref p) (upd H p (.tup (vJ xs lo hi)))
def Jw:Kz X (LJ X.K):=by
 intro MV s Y H x v vl vu lo hi sl Q I rx hs pl pu h;obtain⟨a,xs,rfl,hx,hw,q⟩:=h;cases rx;obtain⟨its,r,ht,hz⟩:=I.tuple hx;have Na:its.toArray.size=xs.length:=by rw[bz];exact r.length.symm
 refine⟨"tuple",_,cS.lookup,ht.typeIs,?_⟩;refine HT.tQ ht hs pl pu (by rw[Na];exact hw) ?_ (by rw[Na];exact hz);rw[Na];refine⟨.ref s.heap.objs.size,_,I.laid (t':=s.toks) (o:=.tup (vJ xs lo hi)) (λb ob q=>bp _ q) (bw _) ?_,rfl,q _ (I.lA.fresh (bw _))⟩;exact⟨bS (uI xs lo hi) hz,_,(r.drop (HT.oP xs.length 0 lo)).take (HT.oP xs.length xs.length hi - HT.oP xs.length 0 lo),yX.new _ _⟩
def KF(K:mZ):R2:=λx y H Q=>∃a b xs ys,x=.ref a/\y=.ref b/\p9 K H a xs/\p9 K H b ys/\xs≠[]/\xs.length+ys.length<=sizeLine/\
 (ys=[]->Q (.ref a) H)/\(ys≠[]->∀p,H p=none->Q (.ref p) (upd H p (.tup (xs++ys))))
def nj.lO{xs:T0 V}{us:T0 Vl}(r:nj xs us):us=[]↔xs=[]:=by
 cases r with
 | nil=>simp
 | cons _ _=>simp
def Gh:rH X (binaryOp .Add) (KF X.K):=by intro MV s Y H x y v u Q I rx ry h;obtain⟨a,b,xs,ys,rfl,rfl,ha,hb,hx,hz,q1,q2⟩:=h;cases rx;cases ry;obtain⟨its,r1,p1,_⟩:=I.tuple ha;obtain⟨OD,r2,p2,_⟩:=I.tuple hb;refine HT.F7 p1 p2 (λz=>hx (r1.lO.mp z)) (λz=>⟨.ref a,H,I,rfl,q1 (r2.lO.mp z)⟩) (λz=>?_) (by rw[<-r1.length,<-r2.length];exact hz);refine⟨.ref s.heap.objs.size,_,I.laid (t':=s.toks) (o:=.tup (xs++ys)) (λb ob q=>bp _ q) (bw _) ?_,rfl,q2 (λw=>z (r2.lO.mpr w)) _ (I.lA.fresh (bw _))⟩;exact⟨by rw[bF];exact hz,_,r1.append r2,yX.new _ _⟩
noncomputable def Hg(n:Nat)(i:Int):Option Nat:=if 0<=i then(if i<n then some i.toNat else none)else if -(n:Int)<=i then some (i+n).toNat else none
noncomputable def ug{α:Type}(xs:List α)(i:Int):Option α:=(Hg xs.length i).bind λj=>xs[j]?
def GH{n:Nat}{i:Int}{j:Nat}(h:Hg n i=some j):seqIndex? i n=some j/\j<n/\-(n:Int)<=i/\i<n:=by
 unfold Hg at h;by_cases h0:0<=i
 .rw[bA h0]at h;by_cases h1:i<n
  .rw[bA h1]at h;have e:i.toNat=j:=bH h;exact⟨by rw[seqIndex_of h0 h1,e],by lia,by lia,h1⟩
  .rw[bv h1]at h;cases h
 .rw[bv h0]at h;by_cases h1:-(n:Int)<=i
  .rw[bA h1]at h;have e:(i+n).toNat=j:=bH h;exact⟨by rw[seqIndex_neg (by lia) h1,e],by lia,h1,by lia⟩
  .rw[bv h1]at h;cases h
def yt{α:Type}{xs:List α}{i:Int}{v:α}(h:ug xs i=some v):∃j,seqIndex? i xs.length=some j/\xs[j]?=some v/\j<xs.length/\-(xs.length:Int)<=i/\i<xs.length:=by
 unfold ug at h;cases e:Hg xs.length i with
 | none=>rw[e]at h;cases h
 | some j=>rw[e]at h;obtain⟨h1,h2,h3,h4⟩:=GH e;exact⟨j,h1,h,h2,h3,h4⟩
def qH{α:Type}{xs:List α}{j:Nat}{v:α}(h:xs[j]?=some v):ug xs (j:Int)=some v:=by
 have hj:j<xs.length:=(bI.mp h).1;have e:Hg xs.length (j:Int)=some j:=by unfold Hg;rw[bA (by lia),bA (by lia)];simp
 unfold ug;rw[e];exact h
def tY(b:Expr):Prop:=∀o i,subscripted b false o i=operate [o,i] (getItem o i)
def JK(X:Cx)(r:R2):Prop:=
 ∀(value Nc:Expr) (MV:QQY) (s:Sd) (Y:St) (H:Hp) (x y:V) (v u:Vl) (Q:VK),Inv X MV Y H s->nE x v->nE y u->r x y H Q->
  subscripted Nc false v u=operate [v,u] (getItem v u)->wpAny (model X.prog X.w) X.A (subscriptTail value Nc v u) (EP X MV Y Q) X.xe s
def Mg(X:Cx)(id:String)(r:V->T0 V->Hp->VK->Prop):Prop:=
 ∀(MV:QQY) (s:Sd) (Y:St) (H:Hp) (x:V) (xs:T0 V) (v:Vl) (us:T0 Vl) (Q:VK),Inv X MV Y H s->nE x v->nj xs us->r x xs H Q->
  wpAny (model X.prog X.w) X.A (call (.builtin id) (v::us)) (EP X MV Y Q) X.xe s
variable {o:Expr}{es:T0 Expr}{to:TE}{t:TA}{name:Str}{MZ Ng:Pos}{T id:String}{r:V→T0 V→Hp→VK→Prop}{a:Expr}{ta tb:TE}
section
variable {b:Expr}
def Cb{r:R2}(hr:JK X r)(ha:PE X a ta)(hb:PE X b tb)(hs:tY b):PE X (.Subscript a b pos) (JT r ta tb):=by intro MV s Y H Q I h;exact Subscript_ (IZ ha hb I h λv u s2 x y H2 I2 rx ry q=>hr a b MV s2 Y H2 x y v u Q I2 rx ry q (hs _ _))
def Lj(K:mZ):R2:=λx y H Q=>∃p xs i v,x=.ref p/\y=.int i/\qM K H p xs/\ug xs i=some v/\Q v H
def LB(K:mZ):R2:=λx y H Q=>∃p xs i v,x=.ref p/\y=.int i/\p9 K H p xs/\ug xs i=some v/\Q v H
def LK:R2:=λx y H Q=>∃z i c,x=.str z/\y=.int i/\z.length<=sizeLine/\ug z.cps.toList i=some c/\Q (.str ⟨#[c]⟩) H
def Bl:JK X (Lj X.K):=by
 intro value Nc MV s Y H x y v u Q I rx ry h hs;obtain⟨p,xs,i,z,rfl,rfl,hq,he,q⟩:=h;cases rx;obtain⟨t,rfl⟩:=ry;obtain⟨its,r,pl,hz⟩:=I.list hq;obtain⟨j,h1,h2,h3,h4,h5⟩:=yt he;obtain⟨w,ew,OE⟩:=r.get h2;have hl:=r.length;have hn:=ul;have fin:EP X MV Y Q w s:=⟨z,H,I,OE,q⟩;by_cases h0:0<=i
 .have hj:i.toNat=j:=by rw[seqIndex_of h0 h5]at h1;exact bH h1
  exact item_listR pl.isList h0 (by lia) (by rw[hj];simpa using ew) fin hs
 .have hj:(i+(its.toArray.size:Int)).toNat=j:=by rw[seqIndex_neg (by lia) h4]at h1;rw[bz,<-hl];exact bH h1
  exact iZ (x:=w) pl.isList.typeIs jM.lookup
   (wpAny_getItem_list_neg (Q:=λr s'=>r=w/\EP X MV Y Q r s') pl.isList (by lia) (by rw[bz]<;>lia) (by lia) (by rw[hj];simpa using ew) ⟨rfl,fin⟩) hs
def I0:JK X (LB X.K):=by
 intro value Nc MV s Y H x y v u Q I rx ry h hs;obtain⟨p,xs,i,z,rfl,rfl,hq,he,q⟩:=h;cases rx;obtain⟨t,rfl⟩:=ry;obtain⟨its,r,pl,hz⟩:=I.tuple hq;obtain⟨j,h1,h2,h3,h4,h5⟩:=yt he;obtain⟨w,ew,OE⟩:=r.get h2;have hl:=r.length;have hn:=ul;have fin:EP X MV Y Q w s:=⟨z,H,I,OE,q⟩;exact iZ (x:=w) pl.typeIs slot_tuple_getitem.lookup
  (getItem_tuple (j:=j) (Q:=λr s'=>r=w/\EP X MV Y Q r s') pl (by lia) (by lia) (by rw[bz,<-hl];exact h1) (by simpa using ew) ⟨rfl,fin⟩) hs
def JB:JK X LK:=by
 intro value Nc MV s Y H x y v u Q I rx ry h hs;obtain⟨z,i,c,rfl,rfl,hz,he,q⟩:=h;obtain⟨t,rfl⟩:=rx;obtain⟨t',rfl⟩:=ry;obtain⟨j,h1,h2,h3,h4,h5⟩:=yt he;have hl:z.cps.toList.length=z.length:=by simp[Str.length]
 rw[hl]at h1 h4 h5;have hn:=ul;exact tail_any (eZ s z t) slot_str_getitem.lookup (getItem_str (c:=c) (by
  have e1:decide (i< -(2 ^ 63:Int))=false:=cB (by lia);have e2:decide (i>=2 ^ 63)=false:=cB (by lia);rw[e1,e2,kN]) (by rw[h1];simpa using h2) ⟨.str ⟨#[c]⟩,H,I.tok _,⟨_,rfl⟩,q⟩) hs
def xW(lo hi:Option Int)(n:Nat):(sliceBounds lo hi none n).1=((HT.oP n 0 lo:Nat):Int)/\(sliceBounds lo hi none n).2.1=((HT.oP n n hi:Nat):Int)/\(sliceBounds lo hi none n).2.2=1:=by
 refine⟨?_,?_,rfl⟩
 .cases lo with
  | none=>simp[sliceBounds,HT.oP]
  | some i=>
   simp only[sliceBounds,HT.oP,ki,show(1:Int)>0 by decide,gD];by_cases h:i<0
   .simp only[h,gD]<;>lia
   .simp only[h,iD]<;>lia
 .cases hi with
  | none=>simp[sliceBounds,HT.oP]
  | some i=>
   simp only[sliceBounds,HT.oP,ki,show(1:Int)>0 by decide,gD];by_cases h:i<0
   .simp only[h,gD]<;>lia
   .simp only[h,iD]<;>lia
def wH(its:T0 Vl)(lo hi:Option Int):slicePick its.toArray lo hi none=((its.drop (HT.oP its.length 0 lo)).take (HT.oP its.length its.length hi - HT.oP its.length 0 lo)).toArray:=by obtain⟨h1,h2,h3⟩:=xW lo hi its.toArray.size;unfold slicePick;rw[h1,h2,h3];simp only[sliceRange_one,pick_run,bz]<;>rfl
def LA(K:mZ):V->Option Int->Option Int->Hp->VK->Prop:=λx lo hi H Q=>∃a xs,x=.ref a/\qM K H a xs/\∀p,H p=none->Q (.ref p) (upd H p (.lst (vJ xs lo hi)))
def Br:Kz X (LA X.K):=by intro MV s Y H x v vl vu lo hi sl Q I rx hs pl pu h;obtain⟨a,xs,rfl,hx,q⟩:=h;cases rx;obtain⟨its,r,ht,hz⟩:=I.list hx;have Na:=r.length;refine⟨"list",_,jM.lookup,ht.isList.typeIs,?_⟩;refine wpAny_getItem_list_slice ht.isList hs pl pu .none (by simp) ?_ (by rw[bz]<;>lia);rw[wH,<-Na];refine⟨.ref s.heap.objs.size,_,I.laid (t':=s.toks) (o:=.lst (vJ xs lo hi)) (λb ob q=>bp _ q) (bw _) ?_,rfl,q _ (I.lA.fresh (bw _))⟩;exact⟨bS (uI xs lo hi) hz,_,0,(r.drop (HT.oP xs.length 0 lo)).take (HT.oP xs.length xs.length hi - HT.oP xs.length 0 lo),bD _ rfl⟩
noncomputable def sR:V->Bool
 | .lw=>true
 | .bl _=>true
 | .int _=>true
 | .str _=>true
 | _=>false
noncomputable def Fy:V->V->Bool
 | .lw,.lw=>true
 | .bl a,.bl b=>a==b
 | .bl a,.int b=>(if a then 1 else 0)==b
 | .int a,.bl b=>a==(if b then 1 else 0)
 | .int a,.int b=>a==b
 | .str a,.str b=>a==b
 | _,_=>false
def Je{A:Ar}{s:Sd}{y x:V}{u v:Vl}(ry:nE y u)(rx:nE x v)(fy:sR y=true)(fx:sR x=true):SeqAt.EqAt A s u v (Fy y x):=by
 cases y with
 | lw=>
  cases ry;cases x with
  | lw=>cases rx;exact SeqAt.EqAt.same _
  | bl b=>cases rx;exact SeqAt.EqAt.none_bool b
  | int b=>obtain⟨t,rfl⟩:=rx;exact SeqAt.EqAt.none_int b t
  | str b=>obtain⟨t,rfl⟩:=rx;exact SeqAt.EqAt.none_str b t
  | _=>exact absurd (show false=true from fx) bN
 | bl a=>
  cases ry;cases x with
  | lw=>cases rx;exact SeqAt.EqAt.bool_none a
  | bl b=>cases rx;exact SeqAt.EqAt.bool_bool a b
  | int b=>obtain⟨t,rfl⟩:=rx;exact SeqAt.EqAt.bool_int a b t
  | str b=>obtain⟨t,rfl⟩:=rx;exact SeqAt.EqAt.bool_str a b t
  | _=>exact absurd (show false=true from fx) bN
 | int a=>
  obtain⟨t',rfl⟩:=ry;cases x with
  | lw=>cases rx;exact SeqAt.EqAt.int_none a t'
  | bl b=>cases rx;exact SeqAt.EqAt.int_bool a t' b
  | int b=>obtain⟨t,rfl⟩:=rx;exact SeqAt.EqAt.int_int a t' b t
  | str b=>obtain⟨t,rfl⟩:=rx;exact jy a t' b t
  | _=>exact absurd (show false=true from fx) bN
 | str a=>
  obtain⟨t',rfl⟩:=ry;cases x with
  | lw=>cases rx;exact SeqAt.EqAt.str_none a t'
  | bl b=>cases rx;exact SeqAt.EqAt.str_bool a t' b
  | int b=>obtain⟨t,rfl⟩:=rx;exact jz a t' b t
  | str b=>obtain⟨t,rfl⟩:=rx;exact SeqAt.EqAt.str_str a t' b t
  | _=>exact absurd (show false=true from fx) bN
 | _=>exact absurd (show false=true from fy) bN
noncomputable def yf(x:V)(u:Vl):Bool:=match u with
 | .none=>Fy .lw x
 | .bool b=>Fy (.bl b) x
 | .int i _=>Fy (.int i) x
 | .str z _=>Fy (.str z) x
 | _=>false
def Am{x y:V}{u:Vl}(r:nE y u)(f:sR y=true):yf x u=Fy y x:=by
 cases y with
 | lw=>cases r;rfl
 | bl b=>cases r;rfl
 | int i=>obtain⟨t,rfl⟩:=r;rfl
 | str z=>obtain⟨t,rfl⟩:=r;rfl
 | _=>exact absurd (show false=true from f) bN
theorem tZ{x:V}:∀{xs:T0 V} {us:T0 Vl},nj xs us->xs.all sR=true->us.any (yf x)=xs.any λy=>Fy y x
 | _,_,.nil,_=>rfl
 | y::xs,u::us,.cons r t,f=>by rw[eU,cO]at f;rw[kO,kO,Am r f.1,tZ t f.2]
theorem qT{A:Ar}{s:Sd}{x:V}{v:Vl}(rx:nE x v)(fx:sR x=true):∀{xs:T0 V} {us:T0 Vl},nj xs us->xs.all sR=true->∀u∈us,SeqAt.EqAt A s u v (yf x u)
 | _,_,.nil,_=>λu hu=>by cases hu
 | y::xs,u::us,.cons r t,f=>λu' hu=>by
  rw[eU,cO]at f;rcases bq.mp hu with rfl|hu
  .rw[Am r f.1];exact Je r rx f.1 fx
  .exact qT rx fx t f.2 u' hu
noncomputable def inV(x:V)(xs:T0 V):Bool:=xs.any λy=>Fy y x
def L4(K:mZ)(Pu:Bool):R2:=λx y H Q=>∃p xs,y=.ref p/\(qM K H p xs\/p9 K H p xs)/\sR x=true/\xs.all sR=true/\Q (.bl (if Pu then !inV x xs else inV x xs)) H
def Cv:rH X (compareOp .In) (L4 X.K false):=by
 intro MV s Y H x y v u Q I rx ry h;obtain⟨p,xs,rfl,hq,fx,fs,q⟩:=h;cases ry;rcases hq with hq|hq
 .obtain⟨its,r,pl,hz⟩:=I.list hq;refine ky (yf x) pl.isList (λw hw=>qT rx fx r fs w (by simpa using hw)) ⟨.bl _,H,I,rfl,?_⟩;rw[show its.toArray.any (yf x)=its.any (yf x)by simp,tZ r fs];exact q
 .obtain⟨its,r,pl,hz⟩:=I.tuple hq;refine SeqAt.in_tupleAt (yf x) pl (λw hw=>qT rx fx r fs w (by simpa using hw)) ⟨.bl _,H,I,rfl,?_⟩;rw[show its.toArray.any (yf x)=its.any (yf x)by simp,tZ r fs];exact q
def yu:rH X (compareOp .NotIn) (L4 X.K true):=by
 intro MV s Y H x y v u Q I rx ry h;obtain⟨p,xs,rfl,hq,fx,fs,q⟩:=h;cases ry;rcases hq with hq|hq
 .obtain⟨its,r,pl,hz⟩:=I.list hq;refine jF (yf x) pl.isList (λw hw=>qT rx fx r fs w (by simpa using hw)) ⟨.bl _,H,I,rfl,?_⟩;rw[show its.toArray.any (yf x)=its.any (yf x)by simp,tZ r fs];exact q
 .obtain⟨its,r,pl,hz⟩:=I.tuple hq;refine SeqAt.notIn_tupleAt (yf x) pl (λw hw=>qT rx fx r fs w (by simpa using hw)) ⟨.bl _,H,I,rfl,?_⟩;rw[show its.toArray.any (yf x)=its.any (yf x)by simp,tZ r fs];exact q
def yx:rH X (compareOp .NotIn) (λx y H Q=>∃i j,x=.str i/\y=.str j/\Q (.bl (!(!(Builtin.Str.occurrences j i 0 j.length 1).isEmpty))) H):=by intro MV s Y H x y v u Q I rx ry h;obtain⟨i,j,rfl,rfl,q⟩:=h;obtain⟨t,rfl⟩:=rx;obtain⟨t',rfl⟩:=ry;exact notIn_str ⟨.bl _,H,I,rfl,q⟩
def rh:sQ X (.builtin "len") (λxs H Q=>∃p ys,xs=[.ref p]/\(qM X.K H p ys\/p9 X.K H p ys)/\Q (.int ys.length) H):=by
 intro MV s Y H xs us Q I r h;obtain⟨p,ys,rfl,hq,q⟩:=h;obtain⟨u,rfl,rx⟩:=sJ r;cases rx;have hn:=ul;rcases hq with hq|hq
 .obtain⟨its,r',pl,hz⟩:=I.list hq;have Na:=r'.length;exact Calls.call_len_list pl.isList (by simp only[bz]<;>lia) ⟨.int ys.length,H,I.tok _,⟨s.toks+1,by rw[bz,Na]⟩,q⟩
 .obtain⟨its,r',pl,hz⟩:=I.tuple hq;have Na:=r'.length;exact len_tuple pl (by simp only[bz]<;>lia) ⟨.int ys.length,H,I.tok _,⟨s.toks+1,by rw[bz,Na]⟩,q⟩
def yS:sQ X (.builtin "len") (λxs H Q=>∃z,xs=[.str z]/\z.length<=sizeLine/\Q (.int z.length) H):=by intro MV s Y H xs us Q I r h;obtain⟨z,rfl,hz,q⟩:=h;obtain⟨u,rfl,t,rfl⟩:=sJ r;have hn:=ul;exact len_str (by lia) ⟨.int z.length,H,I.tok _,⟨_,rfl⟩,q⟩
def yC:sQ X (.type "list") (λxs H Q=>∃p ys,xs=[.ref p]/\(qM X.K H p ys\/p9 X.K H p ys)/\∀l,H l=none->Q (.ref l) (upd H l (.lst ys))):=by
 intro MV s Y H xs us Q I r h;obtain⟨p,ys,rfl,hq,q⟩:=h;obtain⟨u,rfl,rx⟩:=sJ r;cases rx;have fin:∀(its:T0 Vl),nj ys its->ys.length<=sizeLine->∀(h':Heap) (c':Nat),(∀b o',s.heap.get? b=some o'->h'.get? b=some o')->
   h'.get? s.heap.objs.size=some {cls:=.type "list",dict:=none,data:=.seq its.toArray c',slots:=#[]}->EP X MV Y Q (.ref s.heap.objs.size) {s with heap:=h'}:=λits r' hz h' c' kp e=>
  ⟨.ref s.heap.objs.size,_,I.laid (t':=s.toks) kp (bw _) (show og X.prog X.w _ h' _ (.lst ys)from⟨hz,its,c',r',e⟩),rfl,q _ (I.lA.fresh (bw _))⟩
 rcases hq with hq|hq
 .obtain⟨its,r',pl,hz⟩:=I.list hq;have Na:=r'.length;obtain⟨o,ho,hc,n,hd⟩:=pl.isList;exact call_list_seq p (.inl rfl) ho hc hd (λh' c' kp e=>fin its r' hz h' c' kp e) (by simp only[bz]<;>lia)
 .obtain⟨its,r',pl,hz⟩:=I.tuple hq;have Na:=r'.length;obtain⟨o,ho,hc,n,hd⟩:=pl;exact call_list_seq p (.inr rfl) ho hc hd (λh' c' kp e=>fin its r' hz h' c' kp e) (by simp only[bz]<;>lia)
def qR:sQ X (.type "tuple") (λxs H Q=>∃p ys,xs=[.ref p]/\((qM X.K H p ys/\∀l,H l=none->Q (.ref l) (upd H l (.tup ys)))\/(p9 X.K H p ys/\Q (.ref p) H))):=by
 intro MV s Y H xs us Q I r h;obtain⟨p,ys,rfl,h⟩:=h;obtain⟨u,rfl,rx⟩:=sJ r;cases rx;rcases h with⟨hq,q⟩|⟨hq,q⟩
 .obtain⟨its,r',pl,hz⟩:=I.list hq;have Na:=r'.length;refine call_tuple_list pl.isList (λh' kp=>?_) (by simp only[bz]<;>lia);have I1:Inv X MV Y H {s with heap:=h'}:=I.kept (t':=s.toks) kp;have I2:Inv X MV Y (upd H h'.objs.size (.tup ys)) {s with heap:=h'.push {cls:=.type "tuple",data:=.seq its.toArray}}:=
   I1.laid (t':=s.toks) (λb o e=>bp _ e) (bw _) (show og X.prog X.w _ _ _ (.tup ys)from⟨hz,its,r',yX.new _ _⟩)
  exact⟨.ref h'.objs.size,_,I2,rfl,q _ (I1.lA.fresh (bw _))⟩
 .obtain⟨its,r',pl,hz⟩:=I.tuple hq;exact call_tuple_same pl ⟨.ref p,H,I,rfl,q⟩
def Ly(K:mZ)(T:String)(x:V)(H:Hp):Prop:=match x with
 | .str _=>T="str"
 | .int _=>T="int"
 | .ref p=>(T="list"/\∃xs,qM K H p xs)\/(T="tuple"/\∃o,K.lookup p=some o/\o.cls=.type "tuple"/\o.dict=none)\/
   (T="dict"/\((∃kvs,H p=some (.dK kvs))\/∃kvs,H p=some (.dT kvs)))\/(T="set"/\∃S n,H p=some (.set S n))
 | _=>False
def Iv{MV:QQY}{Y:St}{H:Hp}{s:Sd}{T:String}{x:V}{v:Vl}(I:Inv X MV Y H s)(r:nE x v)(ty:Ly X.K T x H):
  s.TypeIs v T/\∀a,v=.ref a->∃ob,s.heap.get? a=some ob/\ob.dict=none:=by
 cases x with
 | str z=>obtain⟨t,rfl⟩:=r;cases(show T="str" from ty);exact⟨eZ s z t,λ_ e=>nomatch e⟩
 | int i=>obtain⟨t,rfl⟩:=r;cases(show T="int" from ty);exact⟨typeIs_int s i t,λ_ e=>nomatch e⟩
 | ref p=>
  cases r;rcases ty with⟨rfl,xs,hq⟩|⟨rfl,o,hk,hc,hd⟩|⟨rfl,hk⟩|⟨rfl,S,n,hk⟩
  .obtain⟨its,_,pl,_⟩:=I.list hq;refine⟨pl.isList.typeIs,λa e=>?_⟩;cases e;obtain⟨o,n,e,c,hd,_⟩:=pl;exact⟨o,e,hd⟩
  .refine⟨⟨o,I.lG p o hk,hc⟩,λa e=>?_⟩;cases e;exact⟨o,I.lG _ o hk,hd⟩
  .have z:∃o,s.heap.get? p=some o/\o.ExactDict:=by
    rcases hk with⟨kvs,hk⟩|⟨kvs,hk⟩
    .obtain⟨_,_,_,_,o,_,_,e,ex,_⟩:=I.lA p _ hk;exact⟨o,e,ex⟩
    .obtain⟨_,_,_,_,o,_,_,e,ex,_⟩:=I.lA p _ hk;exact⟨o,e,ex⟩
   obtain⟨o,e,ex⟩:=z;refine⟨⟨o,e,ex.1⟩,λa e2=>?_⟩;cases e2;exact⟨o,e,ex.2.1⟩
  .obtain⟨o,_,_,_,e,ex,_⟩:=I.lA p _ hk;refine⟨⟨o,e,ex.1⟩,λa e2=>?_⟩;cases e2;exact⟨o,e,ex.2.1⟩
 | _=>exact False.elim ty
def MR(K:mZ)(T:String)(r:V->T0 V->Hp->VK->Prop)(to:TE)(t:TA):TE:=λY H Q=>to Y H λx H1=>Ly K T x H1/\t Y H1 λxs H2=>r x xs H2 Q
def KJ(pa:PlainAttrs T)(slot:Slot T name id)(hty:typeOf (.builtin id)=pure (.type "method_descriptor"))(hm:Mg X id r)(ho:PE X o to)(ha:PA X (e::es) t) (Nu:attributeBase o name X.env (eval o X.env)=eval o X.env:=by rfl)
  (NP:((backTo Ng (starEach (e::es) X.env)).all (λx=>!x.1)&&(backToKw Ng (keywordEach [] X.env)).all (λx=>x.1.isSome)
   &&decide ((e::es).length+([]:T0 Keyword).length+(if ([]:T0 Keyword).isEmpty then 0 else 1)<30))=true:=by rfl)
  (Nv:(MZ.endLine==Ng.line)=true:=by rfl) (hs:xw X e es:=by rfl) (Nl:y6 X Ng es:=by rfl):
  PE X (.Call (.Attribute o name MZ) (e::es) [] Ng) (MR X.K T r to t):=by
 intro MV s Y H Q I h;refine wpAny_Call_method_late Nu NP Nv rfl (o6 (ho MV s Y H _ I h) λv s1 zz=>?_);obtain⟨x,H1,I1,r1,ty,q1⟩:=zz;obtain⟨h1,h2⟩:=Iv I1 r1 ty;refine⟨T,id,pa,slot,hty,h1,h2,?_⟩;have hA:=ha Ng MV s1 Y H1 _ I1 q1;rw[hs]at hA ⊢;refine Calls.callWith_builtin (by show(false||(backTo Ng (starEach es X.env)).any (·.1))=false;rw[Nl]<;>rfl) (Calls.evalArgs_plain ?_);exact o6 hA λus s2 zz=>x5 zz λvs H2 I2 r2 q2=>hm MV s2 Y H2 x vs v us Q I2 r1 r2 q2
end
def Mo(X:Cx)(id:String)(r:V->T0 V->Hp->VK->Prop):Prop:=
 ∀(MV:QQY) (s:Sd) (Y:St) (H:Hp) (x:V) (xs:T0 V) (v:Vl) (us:T0 Vl) (Q:VK),Inv X MV Y H s->nE x v->nj xs us->r x xs H Q->
  wpAny (model X.prog X.w) X.A (call (.builtin id) (v::us)) (EP X MV Y Q) X.xe s
def nj.one:∀{x:V} {us:T0 Vl},nj [x] us->∃u,us=[u]/\nE x u
 | _,_,.cons r .nil=>⟨_,rfl,r⟩
variable {MV:T0 (Addr × Obj)}{Y:St}{H:Hp}{s:Sd}{l:Addr}{xs ys zs:T0 V}
section
variable {b:Addr}
def Inv.mw{its its':T0 Vl}{n:Nat}{f:Array Vl->Array Vl}{t':Nat}(I:Inv X MV Y H s)(hH:H l=some (.lst xs)) (e:s.heap.get? l=some {cls:=.type "list",data:=.seq its.toArray n}) (hf:f its.toArray=its'.toArray) (hv:nj ys its') (hz:ys.length<=sizeLine):
  Inv X MV Y (upd H l (.lst ys)) {s with heap:=s.heap.update l (Obj.mapSeq f),toks:=t'}:=by
 have q:=PySem.IsL.update e f;rw[hf]at q;refine I.write (x:=l) (e:=l) (by rw[hH];exact trivial) (.inl rfl) (λb' u hb hu=>(gm s.heap (Obj.mapSeq f) (bQ hb)).trans hu) ⟨_,q⟩ ?_;exact⟨hz,its',_,hv,q⟩
def Inv.lnew{its:T0 Vl}{t':Nat}(I:Inv X MV Y H s)(hv:nj ys its)(hz:ys.length<=sizeLine):
  Inv X MV Y (upd H s.heap.objs.size (.lst ys)) {s with heap:=s.heap.push {cls:=.type "list",data:=.seq its.toArray},toks:=t'}:=
 I.laid (λ_ _ q=>bp _ q) (bw _) ⟨hz,its,0,hv,bD _ rfl⟩
def Inv.fresh(I:Inv X MV Y H s):H s.heap.objs.size=none:=I.lA.fresh (bw _)
def Inv.md(I:Inv X MV Y H s)(hH:H l=some (.lst xs)):xs.length<=sizeLine/\∃(its:T0 Vl) (n:Nat),nj xs its/\xs.length=its.length/\s.heap.get? l=some {cls:=.type "list",data:=.seq its.toArray n}:=by obtain⟨z,its,n,r,e⟩:=I.lA l _ hH;exact⟨z,its,n,r,r.length,e⟩
def Ff{n:Nat}(h:n<=sizeLine):Builtin.List.listTooLong n=false:=by unfold Builtin.List.listTooLong;exact cB (by lia)
end
def Gs:V->T0 V->Hp->VK->Prop:=λx vs H Q=>∃l xs y,x=.ref l/\vs=[y]/\H l=some (.lst xs)/\xs.length<sizeLine/\Q .lw (upd H l (.lst (xs++[y])))
def CK:Mo X "list.append" Gs:=by intro MV s Y H x vs v us Q I rx rv h;obtain⟨l,xs,y,rfl,rfl,hH,hz,q⟩:=h;cases rx;obtain⟨u,rfl,ru⟩:=rv.one;obtain⟨z,its,n,r,hl,e⟩:=I.md hH;refine jg F.slot_list_append ⟨_,e,rfl⟩ F.entry_list_append (F.args_list_append_2 _ _) (PySem.list_append l its.toArray n u (by rw[bz];lia)) ⟨e,?_⟩;refine⟨.lw,_,I.mw (its':=its++[u]) hH e (by simp) (r.append (.cons ru .nil)) ?_,rfl,q⟩;rw[bF,dj];lia
def GW:V->T0 V->Hp->VK->Prop:=λx vs H Q=>∃l b xs zs,x=.ref l/\vs=[.ref b]/\H l=some (.lst xs)/\H b=some (.lst zs)/\xs.length+zs.length<=sizeLine/\Q .lw (upd H l (.lst (xs++zs)))
def De:Mo X "list.extend" GW:=by
 intro MV s Y H x vs v us Q I rx rv h;obtain⟨l,b,xs,zs,rfl,rfl,hH,hB,hz,q⟩:=h;cases rx;obtain⟨u,rfl,ru⟩:=rv.one;cases ru;obtain⟨z,its,n,r,hl,e⟩:=I.md hH;obtain⟨z2,OD,n2,r2,O5,e2⟩:=I.md hB;have hsz:its.toArray.size+OD.toArray.size<=sizeLine:=by rw[bz,bz];lia
 have hlong:¬(!its.toArray.isEmpty&&Builtin.List.listTooLong (its.toArray.size+OD.toArray.size))=true:=by rw[Ff hsz,fC];exact bN
 refine jg F.slot_list_extend ⟨_,e,rfl⟩ F.entry_list_extend (F.args_list_extend_2 _ _)
  (AutoSeq1.list_extend_list_list_0 l its.toArray n b OD.toArray n2 hlong (by rw[bz];lia) (by lia)) ⟨e,e2,?_⟩
 refine⟨.lw,_,I.mw (its':=its++OD) hH e (by simp) (r.append r2) ?_,rfl,q⟩;rw[bF];lia
variable {prog:Pg}{w:Wo}{A:Ar}{E:QQX}
end L2
namespace Att
open PySem PySem.W PySem.Calls PyProof.Rows
def uZ{P:Params}{h:Heap}:∀(ns:T0 Int) (vs:T0 Vl),WellAll P h vs (ns.map WData.int)->IntsAre vs ns:=by
 intro ns;induction ns with
 | nil=>intro vs w;rw[jG]at w;cases w;exact .nil
 | cons n ns ih=>
  intro vs w;rw[cb]at w;cases w with
  | cons a b=>cases a;exact .cons _ _ (ih _ b)
def C7{l:OpenLaw}{n:Nat}(hn:l.most=some n){P:Params}{h:Heap}{args:T0 WData}{PH:T0 Vl} (O6:l.row.toRowW.claim.pre args=true) (hwl:WellAll P h PH args):
  ∃a vs ns,PH=[Value.ref a]/\args=[WData.list (ns.map WData.int)]/\h.get? a=some {cls:=.type "list",data:=.seq vs.toArray}/\IntsAre vs ns/\ns.length<=n:=by
 have hsh:WShape.hasAll [] args [.list .int]=true:=(pre_splitW O6).1;have hc:l.pre.holds [] {args:=args}=true:=(pre_splitW O6).2;obtain⟨d,r,rfl,h1,h2⟩:=hasAllW_cons hsh;obtain rfl:=hasAllW_nil h2;obtain⟨xs,rfl,h3⟩:=hasW_list h1;obtain⟨ns,rfl⟩:=items_int h3;have Na:ns.length<=n:=by
  unfold OpenLaw.pre at hc;have h4:(WTm.not (.lt (.lit (.int (n:Int))) (.len (.arg 0)))).holds [] {args:=[.list (ns.map .int)]}=true:=by have h4:=(holds_andW hc).1;rw[hn]at h4;exact h4
  have h5:=condW_of h4 (w_not (w_lt w_lit (w_len_list (w_arg rfl))));rw[bi]at h5;refine Nat.le_of_not_lt λq=>?_;have q':(n:Int)<((ns.length:Nat):Int):=by lia
  first
   | (rw[bZ q']at h5;exact absurd h5 (by decide))
   | (simp at h5;lia)
 cases hwl with
 | cons w1 w2=>
  cases w2;cases w1 with
  | list ho Oe=>exact⟨_,_,ns,rfl,rfl,ho,uZ ns _ Oe,Na⟩
def Cq(l:OpenLaw)(args:T0 WData):l.row.toRowW.claim.post args (.bool true) args=true:=
 postW_of (r:=l.row.toRowW) (X:=(true==true))
  (show WShape.has [] (.bool true) .bool=true by first|rfl|decide|simp[WShape.has,WShape.arms,WShape.armsAll])
  (show(WTm.eq .res (.lit (.bool true))).value [] {args:=args,res:=some (.bool true),after:=args}=some (.bool (true==true))from w_eq_bool (w_res rfl) w_lit) rfl
def attach_call{l:OpenLaw}{n:Nat}{q:Pg}{NM:QQQ}{XP:(QQZ)->Heap->Prop}{YP:Wo->Heap->Prop}{d:DefRec} (hn:l.most=some n) (Pv:d.params.defaults=[]) (call:∀(w:Wo) (s₀ s₁:Sd) (mg mb:QQZ) (fa:Addr) (o:Obj) (pm cd NL:Vl) (a:Addr) (vs:T0 Vl) (ns:T0 Int),Ground q NM [] XP w s₀ mg mb s₁.heap->YP w s₁.heap->
   s₁.heap.get? fa=some o->o.data=.func (docDef d.name d.params d.body d.scope pm cd NL)->s₁.heap.CodeRec cd d.name->mg d.name=some (.ref fa)->
   s₁.heap.get? a=some {cls:=.type "list",data:=.seq vs.toArray}->IntsAre vs ns->ns.length<=n->s₁.gens=#[]->
   codeAny (model l.prog w) callerA (.call (.ref fa) ⟨[.ref a],[]⟩) (λr s'=>r=.ok (.ret (.bool true))/\OldK s₁.heap s'.heap/\s'.os=s₁.os/\AllBare s'.gens) s₁):
  WalkO q NM XP YP l.row.toRowW d [] (λf vs=>PySem.call f vs):=by
 intro w s₀ s₁ mg mb G Y fa o pm cd NL dV kV ho hd OA hD hmg hg args PH as O6 hlay hrd hwl hlo;obtain rfl:dV=.none:=Dflts.none hD Pv;obtain rfl:kV=.none:=Dflts.noKw hD;obtain⟨a,vs,ns,rfl,rfl,PJ,OF,Na⟩:=C7 hn O6 hwl;refine enter_call (dR (call w s₀ s₁ mg mb fa o pm cd NL a vs ns G Y ho (fd_plain hd) OA hmg PJ OF Na hg) λr s' hq=>?_);obtain⟨rfl,h2,h3,h4⟩:=hq;exact⟨.inl ⟨.bool true,.bool true,[],rfl,λ_=>rfl,.bool true,Cq l _,λ_=>⟨List.Pairwise.nil,λ_ hm=>(nomatch hm)⟩⟩,h2,h3,h4⟩
variable {prog:Pg}{w:Wo}{A:Ar}{E:QQX}{s:Sd}{K:Frag}
end Att
namespace L2
theorem xu:∀{vs:T0 Vl} {ns:T0 Int},IntsAre vs ns->nj (ns.map V.int) vs
 | _,_,.nil=>.nil
 | _,_,.cons n t h=>.cons ⟨t,rfl⟩ (xu h)
def Eb(H:Hp):Prop:=∀b,H b=none\/∃o xs,H b=some (.frz o (.lst xs))
def Eg{P:Pg}{w:Wo}{K:mZ}{mg mb:QQZ}{CX:Fv}{k:Nat}{fa a:Addr}{fd:FuncData}{x:Str}{sp:Sp}{s₁:Sd}{vs:T0 Vl}{ns:T0 Int} (KX:K.In s₁.heap) (hns:s₁.heap.Ns mainGlobals mg) (hb:s₁.heap.Ns builtinsNs mb) (hbb:∀x:Str,x≠"__name__"->mb x=bootBuiltins x) (hlim:s₁.heap.NoLimit) (hg:s₁.gens=#[]) (ha:s₁.heap.get? a=some {cls:=.type "list",data:=.seq vs.toArray}) (hi:IntsAre vs ns) (hl:ns.length<=sizeLine) (hr:oE k callerA)
  (F:∀base:Heap,K.In base->base.Ns mainGlobals mg->wd P w K mg base CX k fa fd [x] sp) (hbind:∀(s:Sd) (u:Vl),BindsTo s fd ⟨[u],[]⟩ [(x,u)])
  (OW:∀H:Hp,Eb H->qM K H a (ns.map V.int)->sp [.ref a] H (λv _=>v=.bl true) λ_ _ _=>False)
  (hCX:∀H e s',CX [] H s₁ (λ_ _ _=>False) e s'->False):
  codeAny (model P w) callerA (.call (.ref fa) ⟨[.ref a],[]⟩) (λr s'=>r=.ok (.ret (.bool true))/\OldK s₁.heap s'.heap/\s'.os=s₁.os/\AllBare s'.gens) s₁:=by
 have rv:=xu hi;have lenV:=hi.length;have core:∀H:Hp,Eb H->qM K H a (ns.map V.int)->tL P w H s₁.heap->(∀b,H b≠none->b=a)->(H a≠none->K.lookup a=none)->
   codeAny (model P w) callerA (.call (.ref fa) ⟨[.ref a],[]⟩) (λr s'=>r=.ok (.ret (.bool true))/\OldK s₁.heap s'.heap/\s'.os=s₁.os/\AllBare s'.gens) s₁:=by
  intro H hO hS lA hA hK;have Oq:∀{b:Addr} {o:Obj},s₁.heap.get? b=some o->H b=none->(xQ s₁.heap H).get? b=some o:=λe n=>Ex e n;have noA:∀{b:Addr} {o:Obj} {es:Array DictEntry} {ep:Nat},s₁.heap.get? b=some o->o.data=.dict es ep->H b=none:=λ{b o es ep} e d=>by
   cases q:H b with
   | none=>rfl
   | some u=>have e':b=a:=hA b (by rw[q];simp);subst e';rw[ha]at e;cases e;have d':Data.seq vs.toArray _=Data.dict es ep:=d;cases d'
  have nsK:∀{b:Addr} {m:QQZ},s₁.heap.Ns b m->(xQ s₁.heap H).Ns b m:=λ{b m} ⟨o,es,ep,e,d,r⟩=>⟨o,es,ep,Oq e (noA e d),d,r⟩;have hKb:K.In (xQ s₁.heap H):=λb o e=>Oq (KX b o e) (by
   cases q:H b with
   | none=>rfl
   | some u=>
    have e':b=a:=hA b (by rw[q];simp);subst e';rw[hK (by rw[q];simp)]at e;cases e)
  have hM:Mod K mg (xQ s₁.heap H):=⟨hKb,nsK hns,⟨mb,nsK hb,hbb⟩,let⟨mc,h1,h2⟩:=hlim;⟨mc,nsK h1,h2⟩⟩;have e0:AE P w K mg (xQ s₁.heap H) callerA [] s₁ H:=⟨rfl,hM,λb o e=>Gc e,jB (CB _ _),trivial,λb hb=>absurd (show b∈([]:QXQ)from hb) (by simp),lA,.of_eq hg⟩;refine dR ((F _ hKb (nsK hns)).run callerA [] s₁ H ⟨[.ref a],[]⟩ [.ref a] [.ref a] _ _ hr e0 (hbind s₁ (.ref a)) (.cons rfl .nil) (OW H hO hS)) λr s' h=>?_;cases r with
  | error e=>exact(hCX H e s' h).elim
  | ok fl=>
   cases fl with
   | next=>exact False.elim h
   | brk=>exact False.elim h
   | cont=>exact False.elim h
   | ret u=>
    obtain⟨v,H',os,bare,un,hok',r',q⟩:=h;have q':v=.bl true:=q;subst q';obtain rfl:u=Value.bool true:=r';refine⟨rfl,OldK.of_keep λb o e=>?_,os,bare⟩;cases q:H b with
    | none=>exact un.keep b o e q (by intro z;exact absurd (show b∈([]:QXQ)from z) (by simp)) (by simp)
    | some u=>
     rcases hO b with z|⟨ob,xs,z⟩
     .rw[q]at z;cases z
     .have z2:=un.lR b ob _ z;obtain⟨e1,_⟩:=lA b _ z;obtain⟨e2,_⟩:=hok' b _ z2;rw[e]at e1;cases e1;exact e2
 cases hk:K.lookup a with
 | some o=>have e:=KX a o hk;rw[ha]at e;cases e;refine core (λ_=>none) (λ_=>.inl rfl) (.inr ⟨_,vs.toArray,_,hk,rfl,rfl,rfl,by rw[bz,lenV];exact hl,by simpa using rv⟩) (λb u z=>by have z':(none:Option HO)=some u:=z;cases z') (λb z=>absurd rfl z) λz=>absurd rfl z
 | none=>
  refine core (λb=>if b=a then some (.frz {cls:=.type "list",data:=.seq vs.toArray} (.lst (ns.map V.int)))else none) (λb=>?_) (.inl (.inr ⟨{cls:=.type "list",data:=.seq vs.toArray},bA rfl⟩)) (λb u z=>?_) (λb z=>?_) λ_=>hk
  .by_cases hb:b=a
   .exact .inr ⟨_,_,bA hb⟩
   .exact .inl (bv hb)
  .by_cases hb:b=a
   .have z':=(bA hb).symm.trans z;cases z';subst hb;exact⟨ha,by rw[bi];exact hl,vs,_,rv,ha⟩
   .have z':=(bv hb).symm.trans z;cases z'
  .by_cases hb:b=a
   .exact hb
   .exact absurd (bv hb) z
def G'{l:W.OpenLaw}{n k:Nat}{q:Pg}{NM:QQQ}{XP:(QQZ)->Heap->Prop}{YP:Wo->Heap->Prop}{d:DefRec}{K:Params->mZ}{CX:Wo->Fv}{sp:Wo->Sp}{x:Str} (hn:l.most=some n) (OC:n<=sizeLine) (Pv:d.params.defaults=[]) (hr:oE k callerA) (hY:∀(w:Wo) (h:Heap),YP w h->(K w.params).In h) (F:∀(w:Wo) (mg:QQZ) (fa:Addr) (h:Heap),(K w.params).In h->h.Ns mainGlobals mg->mg d.name=some (.ref fa)->
   ∃fd:FuncData,(∀(s:Sd) (u:Vl),BindsTo s fd ⟨[u],[]⟩ [(x,u)])/\
    ∀base:Heap,(K w.params).In base->base.Ns mainGlobals mg->wd l.prog w (K w.params) mg base (CX w) k fa fd [x] (sp w))
  (OW:∀(w:Wo) (H:Hp) (a:Addr) (ns:T0 Int),ns.length<=n->Eb H->qM (K w.params) H a (ns.map V.int)->sp w [.ref a] H (λv _=>v=.bl true) λ_ _ _=>False)
  (hCX:∀(w:Wo) (H:Hp) (s:Sd) (e:Vl) (s':Sd),CX w [] H s (λ_ _ _=>False) e s'->False):
  W.WalkO q NM XP YP l.row.toRowW d [] (λf vs=>PySem.call f vs):=by
 refine Att.attach_call hn Pv λw s₀ s₁ mg mb fa o pm cd NL a vs ns G Y ho hd OA hmg PJ OF Na hg=>?_;have KX:=hY w _ Y;obtain⟨fd,hb,hF⟩:=F w mg fa _ KX G.T.g hmg;exact Eg KX G.T.g G.T.b G.T.builtins G.T.nolimit hg PJ OF (bS Na OC) hr hF hb (λH hO hS=>OW w H a ns Na hO hS) λH e s'=>hCX w H s₁ e s'
noncomputable def FG(s:Stmt)(j:Nat):Stmt:=match s with
 | .ClassDef _ _ _ body _ _ _ _ _ _ _=>body.getD j (.Pass ⟨0,0,0,0⟩)
 | _=>.Pass ⟨0,0,0,0⟩
noncomputable def pj(s:Stmt):Arguments:=match s with
 | .FunctionDef _ a _ _ _ _ _ _ _ _=>a
 | _=>{posonlyargs:=[],args:=[],vararg:=none,kwonlyargs:=[],kw_defaults:=[],kwarg:=none,defaults:=[]}
noncomputable def oz(s:Stmt):T0 Stmt:=match s with
 | .FunctionDef _ _ b _ _ _ _ _ _ _=>b
 | _=>[]
noncomputable def m8(s:Stmt):Scope:=match s with
 | .FunctionDef _ _ _ _ _ _ sc _ _ _=>sc
 | _=>{kind:=.function,names:=[],isGenerator:=false,isCoroutine:=false}
abbrev FC:Fv:=λ_ _ _ _ _ _=>False
abbrev E0:XK:=λ_ _ _=>False
def Cg{X:Cx}:wA FC X E0:=λ_ _ _ _ _ _ _ h=>h.elim
structure Ja(K:mZ)(x qual:Str)(st:Stmt)(f:Addr)(fd:FuncData):Prop where
 ex:∃(oc:Vl) (od:Option Addr) (kV NL pm:Vl) (an:Option Addr) (Nk ct:Vl) (O4:Array (Option Vl)),
  fd=W.fnOf x qual (pj st) (oz st) (m8 st) .none kV NL pm an Nk ct/\K.lookup f=some ⟨oc,od,.func fd,O4⟩/\W.codeIn K Nk qual=true
 kp:W.keepIn K (.ref f)=true
variable {P:Pg}{K:mZ}{mg:QQZ}{base:Heap}
section
variable {w:Wo}
def Ja.ok{x qual:Str}{st:Stmt}{f:Addr}{fd:FuncData}{N ps:QQQ}{k:Nat}{sp:Sp}(F:Ja K x qual st f fd)(S:pQ N ps (m8 st))(len:∀vs H Q E,sp vs H Q E->vs.length=ps.length) (Nz:∀(Nk:Vl) (A:Ar) (outer:T0 Env) (s:Sd) (H:Hp) (vs:T0 V) (Q:VK) (E:XK),oE k (A.deeper (envOfC qual (m8 st) s.heap.objs.size f Nk))->sp vs H Q E->
   ∃t,xU (yr FC P w K mg base N qual (m8 st) f Nk A outer s H E).mj (oz st) t/\t {nx:=λ_ H'=>Q .lw H',rt:=Q} (sF N vs) H):wd P w K mg base FC (k+1) f fd ps sp:=by
 obtain⟨oc,od,kV,NL,pm,an,Nk,ct,O4,rfl,lk,OA⟩:=F.ex;refine Kt lk OA S len λA outer s H vs Q E hr OW=>?_;obtain⟨t,h,q⟩:=Nz Nk A outer s H vs Q E hr OW;exact⟨t,h.mj,q⟩
def Ja.binds{x qual:Str}{st:Stmt}{f:Addr}{fd:FuncData}{ps:QQQ}(F:Ja K x qual st f fd) (h:∀(kV NL pm:Vl) (an:Option Addr) (Nk ct:Vl) (us:T0 Vl),us.length=ps.length->bindArgs (W.fnOf x qual (pj st) (oz st) (m8 st) .none kV NL pm an Nk ct) ⟨us,[]⟩=pure (ps.zip us)):qY K fd ps []:=by
 obtain⟨oc,od,kV,NL,pm,an,Nk,ct,O4,rfl,lk,OA⟩:=F.ex;exact .all (h kV NL pm an Nk ct)
def Ey{x qual:Str}{st:Stmt}{f:Addr}{oc:Vl}{od an:Option Addr}{O4:Array (Option Vl)}{kV NL pm Nk ct:Vl}(l:K.lookup f=some ⟨oc,od,.func (W.fnOf x qual (pj st) (oz st) (m8 st) .none kV NL pm an Nk ct),O4⟩) (c:W.codeIn K Nk qual=true) (k:W.keepIn K (.ref f)=true):Ja K x qual st f (W.fnOf x qual (pj st) (oz st) (m8 st) .none kV NL pm an Nk ct):=⟨⟨oc,od,kV,NL,pm,an,Nk,ct,O4,rfl,l,c⟩,k⟩
end
variable {X:Cx}
def pv(i:Nat){x:Str}{pos:Pos}(hN:X.N[i]?=some x:=by rfl)(hv:Km X.env.scope x:=by first|exact Or.inl rfl|exact Or.inr (Or.inl rfl)|exact Or.inr (Or.inr rfl))(hd:ve x:=by decide)
  (OA:(x==("__classdict__":Str))=false:=by decide):PE X (.Name x pos) (Jz i):=Jd hN hv hd OA
def CJ{A B:Prop}(h:B):if false=true then A else B:=by rw[bv bN];exact h
def LS{A B:Prop}(h:A):if true=true then A else B:=by rw[bA rfl];exact h
def rJ{c A B:Prop}[Decidable c](h1:c->A)(h2:¬c->B):if c then A else B:=by
 by_cases h:c
 .rw[bA h];exact h1 h
 .rw[bv h];exact h2 h
def FP(H H':Hp):Prop:=∀b o,H b=some o->H' b=some o
def FP.trans{H H1 H2:Hp}(a:FP H H1)(b:FP H1 H2):FP H H2:=λc o h=>b c o (a c o h)
section
variable {κ:Type}[DecidableEq κ]
noncomputable def rL(kvs:T0 (κ×V))(k:κ):Option V:=(kvs.find? λkv=>decide (kv.1=k)).map (·.2)
noncomputable def IE(kvs:T0 (κ×V))(k:κ)(v:V):T0 (κ×V):=
 if (kvs.any λkv=>decide (kv.1=k))=true then kvs.map (λkv=>if kv.1=k then(kv.1,v)else kv)else kvs++[(k,v)]
def zg{p:κ×V}{r:T0 (κ×V)}{k:κ}(e:p.1=k):rL (p::r) k=some p.2:=by simp[rL,eB,e]
def zw{p:κ×V}{r:T0 (κ×V)}{k:κ}(e:¬p.1=k):rL (p::r) k=rL r k:=by simp[rL,eB,e]
def KV.val{kvs:T0 (κ×V)}{vs:T0 (κ×Vl)}(r:KV kvs vs)(k:κ):tS (rL kvs k) (valueAt vs k):=by
 unfold KV at r;induction r with
 | nil=>exact True.intro
 | @cons p q ps qs h t ih=>
  obtain⟨h1,h2⟩:=h;by_cases e:p.1=k
  .have e':q.1=k:=h1.symm.trans e;have b:valueAt (q::qs) k=some q.2:=by simp[valueAt,eB,e']
   rw[zg e,b];exact h2
  .have e':¬q.1=k:=λz=>e (h1.trans z);have b:valueAt (q::qs) k=valueAt qs k:=by simp[valueAt,eB,e']
   rw[zw e,b];exact ih
def KV.keys{kvs:T0 (κ×V)}{vs:T0 (κ×Vl)}(r:KV kvs vs):kvs.map (·.1)=vs.map (·.1):=by
 unfold KV at r;induction r with
 | nil=>rfl
 | cons h t ih=>rw[cb,cb,ih,h.1]
end
def DX{P:Pg}{w:Wo}{k:nS}{u:Vl}(r:nE (kV k) u):(nK P w).is k u=true:=by
 cases k with
 | inl i=>obtain⟨t,e⟩:=(show ∃t,u=Value.int i t from r);subst e;exact zJ P w i t
 | inr x=>obtain⟨t,e⟩:=(show ∃t,u=Value.str x t from r);subst e;exact uF P w x t
theorem xp{P:Pg}{w:Wo}:∀{ks:List nS} {us:T0 Vl},nj (ks.map kV) us->ItemsAre (nK P w) ks us
 | [],_,r=>by rw[jG]at r;cases r;exact .nil
 | k::ks,_,r=>by
  rw[cb]at r;cases r with
  | cons h t=>exact .cons (DX h) (xp t)
abbrev KT(H:Hp):T0 (List nS×V)->T0 (List nS×Addr×Vl)->Prop:=Paired λp q=>p.1=q.1/\H q.2.1=some (.tup (p.1.map kV))/\nE p.2 q.2.2
def KT.val{H:Hp}{kvs:T0 (List nS×V)}{xs:T0 (List nS×Addr×Vl)}(r:KT H kvs xs)(k:List nS):tS (rL kvs k) ((atKey xs k).map (·.2)):=by
 induction r with
 | nil=>exact True.intro
 | @cons p q ps qs h t ih=>
  obtain⟨h1,_,h2⟩:=h;by_cases e:p.1=k
  .have e':q.1=k:=h1.symm.trans e;have b:atKey (q::qs) k=some q.2:=by simp[atKey,eB,e']
   rw[zg e,b];exact h2
  .have e':¬q.1=k:=λz=>e (h1.trans z);have b:atKey (q::qs) k=atKey qs k:=by simp[atKey,eB,e']
   rw[zw e,b];exact ih
variable {H:Hp}{h:Heap}{a:Addr}
section
variable {w:Wo}
def HB{u:HO}(ok:tL P w H h)(e:Rd H a u):og P w H h a u:=e.ok ok
def Ht{kvs:T0 (nS×V)}(ok:tL P w H h)(e:Rd H a (.dK kvs)):kvs.length<=sizeLine/\(a==sysModules)=false/\∃vs,KV kvs vs/\h.DictOf (nK P w) a vs:=
 show og P w H h a (.dK kvs)from HB ok e
def ED{ks:List nS}(ok:tL P w H h)(e:H a=some (.tup (ks.map kV))):(tupleKind (nK P w)).is h ks a:=by obtain⟨_,its,r,o,h1,h2,⟨n,h3⟩,_⟩:=(show og P w H h a (.tup (ks.map kV))from ok a _ e);exact⟨o,its.toArray,n,h1,h2,h3,by simpa using xp r⟩
def HD{kvs:T0 (List nS×V)}(ok:tL P w H h)(e:Rd H a (.dT kvs)):kvs.length<=sizeLine/\(a==sysModules)=false/\
  ∃xs,KT H kvs xs/\h.DictOfH (tupleKind (nK P w)) a xs:=by
 obtain⟨z,y,xs,r,o,es,ep,h1,h2,h3,h4,h5⟩:=(show og P w H h a (.dT kvs)from HB ok e);refine⟨z,y,xs,r,o,es,ep,h1,h2,h3,h4,λx hx=>?_,h5⟩;have all:∀{l:T0 (List nS×V)} {m:T0 (List nS×Addr×Vl)},KT H l m->∀x∈m,(tupleKind (nK P w)).is h x.1 x.2.1:=by
  intro l m q;induction q with
  | nil=>intro x hx;exact nomatch hx
  | @cons p q ps qs hq t ih=>
   intro x hx;rcases bq.mp hx with e|hx
   .subst e;exact ED ok (by rw[<-hq.1];exact hq.2.1)
   .exact ih x hx
 exact all r x hx
end
def AU(H:Hp)(a:Addr)(y:V)(r:Option V):Prop:=
 (∃kvs k,Rd H a (.dK kvs)/\y=kV k/\r=rL kvs k)\/∃kvs k b,Rd H a (.dT kvs)/\y=.ref b/\H b=some (.tup (k.map kV))/\r=rL kvs k
def Ke(H:Hp)(a:Addr)(y v:V)(H':Hp):Prop:=
 (∃kvs k,H a=some (.dK kvs)/\y=kV k/\kvs.length<sizeLine/\H'=upd H a (.dK (IE kvs k v)))\/
 ∃kvs k b,H a=some (.dT kvs)/\y=.ref b/\H b=some (.tup (k.map kV))/\kvs.length<sizeLine/\H'=upd H a (.dT (IE kvs k v))
def AU.k{H:Hp}{a:Addr}{kvs:T0 (nS×V)}{k:nS}(e:H a=some (.dK kvs)):AU H a (kV k) (rL kvs k):=.inl ⟨kvs,k,.inl e,rfl,rfl⟩
def Ke.k{H:Hp}{a:Addr}{kvs:T0 (nS×V)}{k:nS}{v:V}(e:H a=some (.dK kvs))(hl:kvs.length<sizeLine):Ke H a (kV k) v (upd H a (.dK (IE kvs k v))):=.inl ⟨kvs,k,e,rfl,hl,rfl⟩
variable {MV:T0 (Addr × Obj)}{Y:St}{y v:V}{u r:Vl}
section
variable {s:Sd}{o:Option V}{A:Ar}{E:QQX}
def Inv.big(I:Inv X MV Y H s):sysModules<s.heap.objs.size:=by have h:mainGlobals<s.heap.objs.size:=(I.mod.glob.keeps I.bk).lt;exact iE (by decide) h
def C9{Q:QQX}(hu:A.units+1<cLine)(I:Inv X MV Y H s)(g:AU H a y (some v))(ry:nE y u)(h:∀w' s',Inv X MV Y H s'->nE v w'->Q w' s'):
  wpAny (model X.prog X.w) A (getItem (.ref a) u) Q E s:=by
 rcases g with⟨kvs,k,e,ey,l⟩|⟨kvs,k,b,e,ey,eb,l⟩
 .subst ey;obtain⟨z,hd,vs,rel,dd⟩:=Ht I.lA e;obtain⟨w',hw,OE⟩:=tS.some_of (v:=v) (o:=valueAt vs k) (by rw[l];exact rel.val k);exact wpAny_getItem_of (DX ry) dd.mapOf hw (h w' _ (I.tok _) OE)
 .subst ey;cases(show u=Value.ref b from ry);obtain⟨z,hd,xs,rel,dd⟩:=HD I.lA e;obtain⟨w',hw,OE⟩:=tS.some_of (v:=v) (o:=(atKey xs k).map (·.2)) (by rw[l];exact rel.val k);obtain⟨p,hp,hp2⟩:=fj.mp hw;refine wpAny_getItem_heap (tupleKind_room_in1 hu) (ED I.lA eb) dd hp ?_;rw[hp2];exact h w' _ (I.tok _) OE
def IY{P:Pg}{w:Wo}{H':Hp}{h':Heap}{kvs:T0 (nS×V)}{vs:T0 (nS×Vl)}(z:kvs.length<=sizeLine)(hd:(a==sysModules)=false)(rel:KV kvs vs)(dd:h'.DictOf (nK P w) a vs):
  og P w H' h' a (.dK kvs):=⟨z,hd,vs,rel,dd⟩
end
variable {kvs:T0 (nS × V)}{k:nS}
section
variable {s:Sd}{A:Ar}{E:QQX}
end
def zY{X:Cx}{MV:QQY}{Y:St}{H:Hp}{s:Sd}{a:Addr}{y:V}{o:Option V}(I:Inv X MV Y H s)(g:AU H a y o):s.TypeIs (.ref a) "dict":=by
 rcases g with⟨kvs,k,e,_,_⟩|⟨kvs,k,b,e,_,_,_⟩
 .obtain⟨_,_,vs,_,dd⟩:=Ht I.lA e;exact dd.typeIs
 .obtain⟨_,_,xs,_,dd⟩:=HD I.lA e;exact dd.typeIs
variable {i e value:Expr}{pos Nq tpos:Pos}{td ty tv:TE}
section
variable {o:Expr}
end
structure M1(X:Cx)(o:Expr)(m:Str)(MZ:Pos)(e:Expr)(Ng:Pos):Prop where
 base:attributeBase o m X.env (eval o X.env)=eval o X.env
 mF:((backTo Ng (starEach [e] X.env)).all (λx=>!x.1)&&(backToKw Ng (keywordEach [] X.env)).all (λx=>x.1.isSome)
  &&decide (([e]:List Expr).length+([]:List Keyword).length+(if ([]:List Keyword).isEmpty then 0 else 1)<30))=true
 line:(MZ.endLine==Ng.line)=true
 trees:backTo Ng (starEach [e] X.env)=[(false,eval e X.env)]
structure M2(X:Cx)(o:Expr)(m:Str)(MZ:Pos)(e f:Expr)(Ng:Pos):Prop where
 base:attributeBase o m X.env (eval o X.env)=eval o X.env
 mF:((backTo Ng (starEach [e,f] X.env)).all (λx=>!x.1)&&(backToKw Ng (keywordEach [] X.env)).all (λx=>x.1.isSome)
  &&decide (([e,f]:List Expr).length+([]:List Keyword).length+(if ([]:List Keyword).isEmpty then 0 else 1)<30))=true
 line:(MZ.endLine==Ng.line)=true
 trees:backTo Ng (starEach [e,f] X.env)=[(false,eval e X.env),(false,eval f X.env)]
variable {d:V}
section
variable {s:Sd}{o:Option V}{A:Ar}{E:QQX}
end
variable {f:Expr}{MZ Ng:Pos}{tx:TE}
section
variable {o:Expr}
end
section
variable {s:Sd}{A:Ar}{E:QQX}
end
section
variable {s:Sd}{A:Ar}{E:QQX}
end
section
variable {κ:Type}[DecidableEq κ]
end
noncomputable def u9(env:Env):T0 (Str×NameKind)->T0 (Str×Addr)->T0 (Str×Addr)
 | [],acc=>acc
 | (n,k)::r,acc=>u9 env r (if k==.free then(n,(env.cells.lookup n).getD 0)::acc else acc)
theorem Ai{env:Env}{f:(Str×NameKind)->T0 (Str×Addr)->Sem (ForInStep (T0 (Str×Addr)))} (hf:∀x cs,(x.2=.free->∃c,env.cells.lookup x.1=some c)->f x cs=pure (.yield (if x.2==.free then(x.1,(env.cells.lookup x.1).getD 0)::cs else cs))):
  ∀(l:T0 (Str×NameKind)) (acc:T0 (Str×Addr)),(∀x∈l,x.2=.free->∃c,env.cells.lookup x.1=some c)->forIn l acc f=pure (u9 env l acc)
 | [],acc,_=>by rw[i8];rfl
 | (n,k)::r,acc,h=>by rw[iW,hf (n,k) acc (h _ bM),pure_bind];exact Ai hf r _ λx hx=>h x (bL _ hx)
def sP{scope:Scope}{env:Env}(h:∀x∈scope.names,x.2=.free->∃c,env.cells.lookup x.1=some c):closureFor scope env=pure (u9 env scope.names []):=by
 unfold closureFor;have e:=Ai (env:=env) (f:=λ(x:Str×NameKind) (cs:T0 (Str×Addr))=>(do
   if x.2==.free then
    let a<-cellOf env x.1
    pure (ForInStep.yield ((x.1,a)::cs))
   else pure (ForInStep.yield cs))) (λx cs hx=>by
  cases hk:x.2==NameKind.free with
  | false=>simp
  | true=>
   obtain⟨c,hc⟩:=hx (by simpa using hk);simp[cellOf,hc]) scope.names [] h
 first
  | exact(de (·>>=pure) e).trans (by simp)
  | (simp only[bind_pure];exact e)
  | (rw[<-e];rfl)
theorem D3{env:Env}{x:Str}{c:Addr}:∀{l:T0 (Str×NameKind)} {acc:T0 (Str×Addr)},(∀x∈l,x.2=.free->∃c,env.cells.lookup x.1=some c)->(∀x c,acc.lookup x=some c->env.cells.lookup x=some c)->(u9 env l acc).lookup x=some c->env.cells.lookup x=some c
 | [],acc,_,ha,h=>ha x c h
 | (n,k)::r,acc,hl,ha,h=>by
  refine D3 (l:=r) (acc:=if k==.free then(n,(env.cells.lookup n).getD 0)::acc else acc) (λy hy=>hl y (bL _ hy)) (λy d hd=>?_) h;cases hk:k==NameKind.free with
  | false=>rw[hk]at hd;exact ha y d (by simpa using hd)
  | true=>
   rw[hk,bA rfl]at hd;obtain⟨e,he⟩:=hl (n,k) bM (by simpa using hk);rw[cf]at hd;cases hy:y==n with
   | true=>
    rw[hy]at hd;have yn:y=n:=by simpa using hy
    subst yn;have he:env.cells.lookup y=some e:=he;rw[he]at hd ⊢;exact hd
   | false=>rw[hy]at hd;exact ha y d hd
theorem Fp{env:Env}{x:Str}:∀{l:T0 (Str×NameKind)} {acc:T0 (Str×Addr)},(∃c,acc.lookup x=some c)->∃c,(u9 env l acc).lookup x=some c
 | [],_,h=>h
 | (n,k)::r,acc,h=>by
  refine Fp (l:=r) ?_;cases hk:k==NameKind.free with
  | false=>simpa using h
  | true=>
   rw[bA rfl,cf];cases hy:x==n with
   | true=>exact⟨_,rfl⟩
   | false=>exact h
theorem Ao{env:Env}{x:Str}:∀{l:T0 (Str×NameKind)} {acc:T0 (Str×Addr)},l.lookup x=some .free->∃c,(u9 env l acc).lookup x=some c
 | [],_,h=>by simp at h
 | (n,k)::r,acc,h=>by
  rw[cf]at h;cases hy:x==n with
  | true=>rw[hy]at h;have hk:k=.free:=bH h;subst hk;refine Fp (l:=r) ⟨(env.cells.lookup n).getD 0,?_⟩;show List.lookup x (if NameKind.free==NameKind.free then(n,(env.cells.lookup n).getD 0)::acc else acc)=some ((env.cells.lookup n).getD 0);rw[bA (by rfl),cf,hy]
  | false=>rw[hy]at h;exact Ao (l:=r) h
theorem pI{env:Env}{x:Str}:∀{l:T0 (Str×NameKind)},(l.map λ(n,k)=>if (k==NameKind.free&&env.scope.kind==.function&&env.kindOf n==some .cell)then(n,NameKind.cell)else(n,k)).lookup x
   = (l.lookup x).map λk=>if (k==NameKind.free&&env.scope.kind==.function&&env.kindOf x==some .cell)then NameKind.cell else k
 | []=>rfl
 | (n,k)::r=>by
  rw[cb];show List.lookup x ((if (k==NameKind.free&&env.scope.kind==.function&&env.kindOf n==some .cell)=true then(n,NameKind.cell)else(n,k))::_)=_;cases hy:x==n with
  | true=>
   have yn:x=n:=by simpa using hy
   subst yn;by_cases hc:(k==NameKind.free&&env.scope.kind==.function&&env.kindOf x==some .cell)=true
   .rw[bA hc,cf,cf,hy];simp only[fT];rw[bA hc]
   .rw[bv hc,cf,cf,hy];simp only[fT];rw[bv hc]
  | false=>
   by_cases hc:(k==NameKind.free&&env.scope.kind==.function&&env.kindOf n==some .cell)=true
   .rw[bA hc,cf,cf,hy];exact pI
   .rw[bv hc,cf,cf,hy];exact pI
noncomputable def GN(ix:T0 (Option Nat))(Y:St):St:=ix.map λo=>o.bind λi=>(Y[i]?).join
abbrev Cx.comp(X:Cx)(scope:Scope)(N':QQQ)(C:Addr)(s0:Sd)(H0:Hp)(ex:QXQ):Cx:=
 {X with N:=N',s₀:=s0,H₀:=H0,env:=compEnvC scope (u9 X.env scope.names []) C X.env,outer:=X.stack,ex:=ex,fn:=λ_=>false,pn:=[],xe:=λ_ _=>False}
structure nZ(X:Cx)(scope:Scope)(ix:List (Option Nat))(N':QQQ):Prop where
 kind:scope.kind=.function
 mf:∀y∈scope.names,y.2≠.cell
 nam:∀y∈scope.names,y.2=.local->scope.names.lookup y.1=some .local
 fre:∀y∈scope.names,y.2=.free->X.env.scope.names.lookup y.1=some .cell\/X.env.scope.names.lookup y.1=some .free
 len:ix.length=N'.length
 at_:∀(j i:Nat) (x:Str),ix[j]?=some (some i)->N'[j]?=some x->X.N[i]?=some x/\scope.names.lookup x=some .free
variable {scope:Scope}{ix:T0 (Option Nat)}{N':QQQ}{fp:QXQ}
section
variable {s:Sd}
def nZ.cells(S:nZ X scope ix N')(ok:X.Ok):∀x∈scope.names,x.2=.free->∃c,X.env.cells.lookup x.1=some c:=λx hx hk=>ok.has x.1 (S.fre x hx hk)
def nZ.sub(S:nZ X scope ix N')(ok:X.Ok){x:Str}{c:Addr}(h:(u9 X.env scope.names []).lookup x=some c):X.env.cells.lookup x=some c:=D3 (S.cells ok) (λ_ _ z=>by simp at z) h
theorem qz{x:Str}{k:NameKind}:∀{l:T0 (Str×NameKind)},l.lookup x=some k->(x,k)∈l
 | [],h=>by simp at h
 | (n,j)::r,h=>by
  rw[cf]at h;cases hy:x==n with
  | true=>
   rw[hy]at h;have yn:x=n:=by simpa using hy
   subst yn;rw[bH h];exact bM
  | false=>rw[hy]at h;exact bL _ (qz h)
def Inv.comp{C:Addr}{h1:Heap}{tk:Nat}(I:Inv X MV Y H s)(S:nZ X scope ix N')(hf:∀b∈fp,ut X MV H b)(Nd:∀b∈fp,b<s.heap.objs.size)(hC:s.heap.objs.size<=C) (k:∀b o,s.heap.get? b=some o->h1.get? b=some o) (hn:h1.Ns C (λ_=>none)):Inv (X.comp scope N' C s H fp) (X.pn++MV) (GN ix Y) H {s with heap:=h1,toks:=tk}:=by
 have sub:∀{x:Str} {c:Addr},(u9 X.env scope.names []).lookup x=some c->X.env.cells.lookup x=some c:=λh=>S.sub I.ok h;refine⟨⟨I.ok.mod,S.kind,I.ok.glob,I.ok.blt,hC,λx y c e1 e2=>I.ok.inj x y c (sub e1) (sub e2),λx hx=>?_,λ_ _ z=>(bN z).elim,I.ok.hd,I.ok.frames,.inl rfl,λb hb=>⟨bG (bO (Nd b hb) hC),λx c e=>(hf b hb).2.2.2.2.1 x c (sub e)⟩,I.bs,bS I.ok.ma I.sz,λb o e hb=>?_,λb hb hfs=>?_,I.stack,I.lW⟩,rfl,I.bare,Un.kept k,⟨_,hn,λi x v e1 e2 e3=>?_⟩,λx c e=>?_,I.lA.fresh hC,λx c e=>I.lF x c (sub e),λp hp=>?_,I.lA.kept k,?_⟩
 .have hx:(relabel scope X.env).names.lookup x=some .cell\/(relabel scope X.env).names.lookup x=some .free:=hx;have e:(relabel scope X.env).names.lookup x=(scope.names.lookup x).map λk=>if (k==NameKind.free&&X.env.scope.kind==.function&&X.env.kindOf x==some .cell)then NameKind.cell else k:=pI
  rw[e]at hx;cases q:scope.names.lookup x with
  | none=>rw[q]at hx;rcases hx with hx|hx<;>simp at hx
  | some kd=>
   cases kd with
   | free=>exact Ao q
   | cell=>exact absurd rfl (S.mf _ (qz q))
   | _=>rw[q]at hx;rcases hx with hx|hx<;>simp at hx
 .rcases(hf b hb).2.2.2.1 with z|z
  .exact I.ok.lY b o e z
  .exact absurd (bO (bB e) (bS I.ok.ma z)) (cL _)
 .rcases bq.mp (I.lJ b hfs)with z|z
  .exact(hf b hb).2.1 z
  .exact(hf b hb).2.2.1 z
 .have OG:(ix[i]?).map (λo=>o.bind λi=>(Y[i]?).join)=some (some v):=by have z:(GN ix Y)[i]?=some (some v):=e2;unfold GN at z;rw[bJ]at z;exact z
  cases q:ix[i]? with
  | none=>rw[q]at OG;cases OG
  | some o=>
   rw[q]at OG;cases o with
   | none=>cases OG
   | some j=>
    have O7:(Y[j]?).join=some v:=bH OG;have e4:Y[j]?=some (some v):=by
     cases r:Y[j]? with
     | none=>rw[r]at O7;cases O7
     | some w=>rw[r]at O7;exact de some O7
    obtain⟨n1,n2⟩:=S.at_ i j x q e1;obtain⟨m,hm,hl⟩:=I.loc;have hk:=S.fre _ (qz n2) rfl;have hv:Km X.env.scope x:=by
     rcases hk with z|z
     .exact .inr (.inl z)
     .exact .inr (.inr z)
    obtain⟨u,ru,lk⟩:=hl j x v n1 e4 hv;refine⟨u,ru,?_⟩;have PK:X.env.kindOf x=some .cell\/X.env.kindOf x=some .free:=hk;rcases lk with⟨z,_⟩|⟨_,c,hc,hcell⟩
    .rcases PK with y|y<;>(rw[y]at z;cases z)
    .obtain⟨c',hc'⟩:=Ao (env:=X.env) (acc:=[]) n2;have:=sub hc';rw[hc]at this;cases this;refine .inr ⟨?_,c,hc',hcell.keeps k⟩;show(relabel scope X.env).names.lookup x=some .cell\/(relabel scope X.env).names.lookup x=some .free;have e:(relabel scope X.env).names.lookup x=(scope.names.lookup x).map λk=>if (k==NameKind.free&&X.env.scope.kind==.function&&X.env.kindOf x==some .cell)then NameKind.cell else k:=pI
     rw[e,n2];simp only[fT];split
     .exact .inl rfl
     .exact .inr rfl
 .obtain⟨v,q⟩:=I.cell x c (sub e);exact⟨v,q.keeps k⟩
 .obtain⟨e,n,ne,nf,d⟩:=I.pin p (by simpa using hp);refine⟨k _ _ e,n,bG (bO (bB e) hC),λz=>?_,d⟩;rcases bq.mp (I.lJ p.1 z)with y|y
  .exact ne y
  .exact nf y
 .show(GN ix Y).length=N'.length;unfold GN;rw[bi];exact S.len
end
section
variable {prog:Pg}{w:Wo}{A:Ar}{R:Result→Sd→Prop}{s:Sd}
def rS{NQ Nw iter:Expr}{NA:T0 Expr}{scope:Scope}{pos:Pos}{it acc:Vl}{env:Env}(I:Nat->Sd->Prop){EX:QQX}(hEX:∀e s',EX e s'->notedBy (model prog w) A env (λx s'=>R (.error x) s') e s') (OB:∀n s,I n s->wpAny (model prog w) A (pyNext it) (λr s₁=>match r with
   | none=>R (.ok .next) s₁
   | some v=>wpAny (model prog w) A (letOwnedTupleGo Nw it v) (λ_ s₁=>wpAny (model prog w) A (assign Nw env v) (λ_ s₂=>
     wpAny (model prog w) A (forIn NA true λc r=>if r=true then do let ok<-isTrue c env (eval c env);pure (ForInStep.yield ok)else pure (ForInStep.yield r)) (λok s₃=>
      if ok=true then wpAny (model prog w) A (eval NQ env) (λx s₄=>
       wpAny (model prog w) A (call (.builtin "list.append") [acc,x]) (λ_ s₅=>∃m,m<n/\I m s₅) (λ_ _=>False) s₄) EX s₃
      else ∃m,m<n/\I m s₃) (λ_ _=>False) s₂) (λ_ _=>False) s₁) (λ_ _=>False) s₁) (λ_ _=>False) s)
  (n:Nat) (h:I n s):
  codeAny (model prog w) A (.compLoop (.ListComp NQ [⟨Nw,iter,NA,0⟩] scope pos) 0 it acc env) R s:=by
 refine codeAny_loop rfl I (λn s hI=>?_) n h;show wpAny _ A ((compTurn (.ListComp NQ [⟨Nw,iter,NA,0⟩] scope pos) 0 it acc env).onRaise (λx=>do noteFrame x env;theTreesLotGoes x)) _ _ s;refine wpAny_noted ?_;rw[compTurn_list];refine bh (wpAny_standAt (bh (cz (OB n s hI) (λr s₁ h₁=>?_) λ_ _ h'=>h'.elim)));cases r with
 | none=>exact bj h₁
 | some v=>
  refine bh (cz h₁ (λ_ s₁' h₁'=>?_) λ_ _ h'=>h'.elim);refine bh (cz h₁' (λ_ s₂ h₂=>bh (cz h₂ (λok s₃ h₃=>?_) λ_ _ h'=>h'.elim)) λ_ _ h'=>h'.elim);cases ok with
  | false=>exact bj ⟨rfl,h₃⟩
  | true=>exact bh (bh (cz h₃ (λx s₄ h₄=>bh (cz h₄ (λ_ s₅ h₅=>bj (bj ⟨rfl,h₅⟩)) λ_ _ h'=>h'.elim)) hEX))
end
def PF(X:Cx)(NA:T0 Expr)(t:TT):Prop:=
 ∀(MV:QQY) (s:Sd) (Y:St) (H:Hp) (Q:Bool->Hp->Prop),Inv X MV Y H s->t Y H Q->
  wpAny (model X.prog X.w) X.A (forIn NA true λc r=>if r=true then do let ok<-isTrue c X.env (eval c X.env);pure (ForInStep.yield ok)else pure (ForInStep.yield r)) (TP X MV Y Q) X.xe s
def JQ:TT:=λ_ H Q=>Q true H
def HX{X:Cx}:PF X [] JQ:=λ_ _ _ H _ I h=>wpAny_tests_nil ⟨H,I,h⟩
def Ia{X:Cx}{c:Expr}{t:TT}(h:PT X c t):PF X [c] t:=λMV s Y H Q I q=>wpAny_tests_one (h MV s Y H Q I q)
def Hf(ix:T0 (Option Nat))(g:TG)(tt:TT)(te:TE)(Y:St)(J:It)(Q:VK)(H:Hp):Prop:=
 ∃W:Nat->Nat->T0 V->St->Hp->Prop,(∃m,W 0 m [] (GN ix Y) H)/\∀i m ys σ' H,W i m ys σ' H->
  (J.stop i H/\ys.length<=sizeLine/\∀D,H D=none->Q (.ref D) (upd H D (.lst ys)))\/
  (J.go i H/\ys.length<sizeLine/\∀x H',J.mB i H x H'->g x σ' H' λσ2 H2=>tt σ2 H2 λb H3=>if b=true then te σ2 H3 λy H4=>∃m',m'<m/\W (i+1) m' (ys++[y]) σ2 H4 else ∃m',m'<m/\W (i+1) m' ys σ2 H3)
def EW(ix:T0 (Option Nat))(wi:TI)(g:TG)(tt:TT)(te:TE):TE:=λY H Q=>wi Y H λJ H1=>Hf ix g tt te Y J Q H1
variable {tg iter NQ:Expr}{NA:T0 Expr}{g:TG}{tt:TT}{te:TE}{J:It}{it:Addr}{tn:Nat→Heap→Prop}{Q:VK}
section
variable {s:Sd}
def vL{XP:Addr->Sd->Hp->QXQ->QQY->St->Vl->Sd->Prop}{RR:Vl->Addr->Result->Sd->Prop}{E:QQX}(hc:X.calm=true)(S:nZ X scope ix N')(I:Inv X MV Y H s)(T:wG X.prog X.w X.K tg J fp it tn)(st:tn 0 s.heap)(hf:∀b∈fp,ut X MV H b) (hg:∀C s0 H0 ex,PG (X.comp scope N' C s0 H0 ex) tg g) (ht:∀C s0 H0 ex,PF (X.comp scope N' C s0 H0 ex) NA tt) (he:∀C s0 H0 ex MV s Y H Q,Inv (X.comp scope N' C s0 H0 ex) MV Y H s->te Y H Q->wpAny (model X.prog X.w) X.A (eval NQ (X.comp scope N' C s0 H0 ex).env) (EP (X.comp scope N' C s0 H0 ex) MV Y Q) (XP C s0 H0 ex MV Y) s) (hx:∀C D e s',s.heap.objs.size<=C->(∃NX σ',(∀b∈fp,∃o,(b,o)∈NX)/\XP C s H fp NX σ' e s')->notedBy (model X.prog X.w) X.A (compEnvC scope (u9 X.env scope.names []) C X.env) (λx s'=>RR D C (.error x) s') e s') (hw:Hf ix g tt te Y J Q H) (fin:∀D C s' H' m,s.heap.objs.size<=C->H' C=none->s'.heap.Ns C m->Inv X MV Y H' s'->Q (.ref D) H'->RR (.ref D) C (.ok .next) s'):
  wpAny (model X.prog X.w) X.A (newList []) (λacc s₃=>wpAny (model X.prog X.w) X.A (newFunctionEnv scope X.env.globals (u9 X.env scope.names []) [] X.env.qual none .none (some X.env)) (λcenv s₄=>
   codeAny (model X.prog X.w) X.A (.compStart (.ListComp NQ [⟨tg,iter,NA,0⟩] scope pos) 0 (.ref it) acc {cenv with scope:=relabel scope X.env}) (RR acc cenv.locals) s₄) E s₃) E s:=by
 obtain⟨W,⟨m0,w0⟩,OB⟩:=hw;have Nd:∀b∈fp,b<s.heap.objs.size:=λb hb=>by obtain⟨o,e,_⟩:=T.obj _ _ st b hb;exact bB e
 refine cQ (wpAny_newFunctionEnv S.mf (by intro y hy;simp at hy) (λh₁ OH O8=>?_) S.kind);dsimp only at OH O8 ⊢;generalize hH2:s.heap.push {cls:=.type "list",dict:=none,data:=.seq ([]:T0 Vl).toArray}=H2 at OH O8 ⊢;have hC:H2.objs.size=s.heap.objs.size+1:=by rw[<-hH2,bY]
 have hDC:s.heap.objs.size≠H2.objs.size:=by rw[hC];exact bG (dM _)
 have O9:s.heap.objs.size<=H2.objs.size:=by rw[hC];exact dF _
 have below:∀b,b<s.heap.objs.size->b≠H2.objs.size/\b≠s.heap.objs.size:=λb hb=>⟨by rw[hC];exact bG (cR hb),bG hb⟩;have Of:∀b o,s.heap.get? b=some o->h₁.get? b=some o:=λb o e=>O8.extBut b o (below b (bB e)).1 (bp _ (hH2 ▸ bp _ e));have OI:h₁.get? s.heap.objs.size=some {cls:=.type "list",data:=.seq ([]:T0 Vl).toArray 0}:=O8.extBut _ _ hDC (bp _ (hH2 ▸ bD _ rfl));have OH:h₁.Ns H2.objs.size (λ_=>none):=OH;have Ob:∀{H':Hp} {pl:QQY},(∀b∈fp,H' b=none)->(∀p∈pl,p.1∉fp)->∀b∈fp,ut (X.comp scope N' H2.objs.size s H fp) (X.pn++MV++pl) H' b:=λ{H' pl} hn Np b hb=>by
  refine⟨hn b hb,bG (bO (Nd b hb) O9),λz=>?_,.inl hb,λx c e=>(hf b hb).2.2.2.2.1 x c (S.sub I.ok e),λp hp=>?_⟩
  .rcases bq.mp (I.lJ b z)with y|y
   .exact(hf b hb).2.1 y
   .exact(hf b hb).2.2.1 y
  .rcases bT.mp (show p∈X.pn++MV++pl by simpa using hp)with z|z
   .exact(hf b hb).2.2.2.2.2 p z
   .intro q;exact Np p z (q ▸ hb)
 have loop:∀s₃:Sd,s₃={s with heap:=h₁,toks:=s.toks+([]:T0 (Str×Vl)).length}->
   codeAny (model X.prog X.w) X.A (.compLoop (.ListComp NQ [⟨tg,iter,NA,0⟩] scope pos) 0 (.ref it) (.ref s.heap.objs.size) (compEnvC scope (u9 X.env scope.names []) H2.objs.size X.env))
    (RR (.ref s.heap.objs.size) H2.objs.size) s₃:=by
  rintro s₃ rfl
  refine rS (hEX:=λe s' z=>hx _ _ e s' O9 z) (λn s'=>∃(i:Nat) (ys:T0 V) (us:T0 Vl) (k:Nat) (σ':St) (H':Hp),Inv (X.comp scope N' H2.objs.size s H fp) (X.pn++MV) σ' H' s'/\tn i s'.heap/\(∀b∈fp,H' b=none)/\H' s.heap.objs.size=none/\
   s'.heap.get? s.heap.objs.size=some {cls:=.type "list",data:=.seq us.toArray k}/\nj ys us/\ys.length<=sizeLine/\W i n ys σ' H') ?_ m0
   ⟨0,[],[],0,GN ix Y,H,I.comp S hf Nd O9 Of OH,T.keep _ _ _ st λb _ o e=>Of b o e,λb hb=>(hf b hb).1,I.lA.fresh (bw _),OI,.nil,cF _,w0⟩
  rintro n s' ⟨i,ys,us,k,σ',H',I',MY,fr',hD',Oa,rv',hz',w'⟩
  have cellD:∀x c,(X.comp scope N' H2.objs.size s H fp).env.cells.lookup x=some c->c≠s.heap.objs.size:=λx c e=>by obtain⟨v,q⟩:=I.cell x c (S.sub I.ok e);exact bG q.lt
  have pinD:∀p∈X.pn++MV,p.1≠s.heap.objs.size:=λp hp=>bG (bB (I.pin p hp).1);have dfs:s.heap.objs.size∉(X.comp scope N' H2.objs.size s H fp).fs:=λz=>by
   rcases bq.mp (I.lJ _ z)with y|y
   .exact absurd I.lt (by rw[<-y];exact cL _)
   .exact I.mz (bw _) y
  have dfp:s.heap.objs.size∉fp:=λz=>absurd (Nd _ z) (cL _);have IpD:Inv (X.comp scope N' H2.objs.size s H fp) (X.pn++MV++[(s.heap.objs.size,{cls:=.type "list",data:=.seq us.toArray k})]) σ' H' s':=I'.lP λp hp=>by
   rcases bT.mp hp with z|z
   .exact I'.pin p (bW _ z)
   .have e:p=(s.heap.objs.size,{cls:=.type "list",data:=.seq us.toArray k}):=by simpa using z
    subst e;exact⟨Oa,hD',hDC,dfs,λv z=>by cases z⟩
  have pfp:∀p∈[((s.heap.objs.size,{cls:=.type "list",data:=.seq us.toArray k}):Addr×Obj)],p.1∉fp:=λp hp=>by
   have e:p=(s.heap.objs.size,{cls:=.type "list",data:=.seq us.toArray k}):=by simpa using hp
   subst e;exact dfp
  rcases OB i n ys σ' H' w' with⟨stop,hz,q⟩|⟨go,hz,step⟩
  .refine cz (T.done (X.comp scope N' H2.objs.size s H fp) rfl rfl rfl hc i _ s' σ' H' (λ_ _=>False) IpD (Ob fr' pfp) MY stop) (λr s1 ⟨hr,I1⟩=>?_) λ_ _ z=>z;subst hr;show RR _ _ _ _;have ho1:s1.heap.get? s.heap.objs.size=some {cls:=.type "list",data:=.seq us.toArray k}:=(I1.pin (s.heap.objs.size,{cls:=.type "list",data:=.seq us.toArray k}) (by simp)).1;obtain⟨m,hnC,_⟩:=id I1.loc;refine fin _ _ s1 (upd H' s.heap.objs.size (.lst ys)) m O9 (by rw[m7 (bQ hDC)];exact I1.free) hnC ?_ (q _ hD');have nD:∀b o,s.heap.get? b=some o->b≠s.heap.objs.size:=λb o e=>(below b (bB e)).2;have hD0:H s.heap.objs.size=none:=I.lA.fresh (bw _);refine I.mv (s':=s1) (ch:=fp) I1.os ⟨λb o e n1 n2 n3=>?_,λb o e n1 n2 n3=>?_,λb o e n1 n2=>?_,λb o e n1=>?_,λb xs e=>?_,λb o u e=>?_,λb ps e=>?_⟩ (λb u e=>?_) I1.bare λb hb=>⟨(hf b hb).2.2.2.1,(hf b hb).2.1,(hf b hb).2.2.2.2.1,(hf b hb).2.2.2.2.2⟩
   .exact I1.base.keep b o e n1 n2 n3
   .exact I1.base.slot b o e n1 n2 n3
   .rw[m7 (nD b o e)];exact I1.base.free b o e n1 n2
   .exact I1.base.there b o e n1
   .rw[m7 (nu e hD0)];exact I1.base.lT b xs e
   .rw[m7 (nu e hD0)];exact I1.base.lR b o u e
   .obtain⟨more,z⟩:=I1.base.lV b ps e;exact⟨more,by rw[m7 (nu e hD0)];exact z⟩
   .by_cases hb:b=s.heap.objs.size
    .subst hb;rw[mY]at e;cases e;exact⟨hz,us,k,rv',ho1⟩
    .rw[m7 hb]at e;exact(I1.lA b u e).lN (λc v _ z=>z) (λc z=>by rw[m7 (nu z hD')];exact z) (λc xs z=>by rw[m7 (nu z hD')];exact z)
  .refine cz (T.item (X.comp scope N' H2.objs.size s H fp) rfl rfl rfl hc i _ s' σ' H' (λ_ _=>False) IpD (Ob fr' pfp) MY go) (λr s1 ⟨v,hr,h4⟩=>?_) λ_ _ z=>z;subst hr;show wpAny _ _ (letOwnedTupleGo tg (.ref it) v) _ _ s1;refine cz h4 (λ_ s2 zz=>?_) λ_ _ z=>z;obtain⟨x,H5,I5,r5,y5,Pr,fr5⟩:=zz;have I5':=I5.pinned (Ob fr5 pfp) (T.obj _ _ Pr);refine cz (hg H2.objs.size s H fp _ s2 σ' H5 x v _ I5' r5 (step x H5 y5)) (λ_ s3 ⟨σ6,H6,I6,q6⟩=>?_) λ_ _ z=>z;refine cz (ht H2.objs.size s H fp _ s3 σ6 H6 _ I6 q6) (λok s4 ⟨H7,I7,q7⟩=>?_) λ_ _ z=>z;have Pw:∀{σ7:St} {H7:Hp} {s7:Sd},Inv (X.comp scope N' H2.objs.size s H fp) (X.pn++MV++[(s.heap.objs.size,{cls:=.type "list",data:=.seq us.toArray k})]++vI fp s2.heap) σ7 H7 s7->
     tn (i+1) s7.heap/\(∀b∈fp,H7 b=none)/\H7 s.heap.objs.size=none/\s7.heap.get? s.heap.objs.size=some {cls:=.type "list",data:=.seq us.toArray k}:=λ{σ7 H7 s7} K7=>by
    have pd:=K7.pin (s.heap.objs.size,{cls:=.type "list",data:=.seq us.toArray k}) (by simp);refine⟨T.keep _ _ _ Pr λb hb o e=>(K7.pin (b,o) (bW _ (bW _ (qo hb e)))).1,λb hb=>?_,pd.2.1,pd.1⟩;obtain⟨o,e,d⟩:=T.obj _ _ Pr b hb;exact(K7.pin (b,o) (bW _ (bW _ (qo hb e)))).2.1
   cases ok with
   | false=>rw[bv bN]at q7 ⊢;obtain⟨m',hm,w7⟩:=q7;obtain⟨t7,f7,d7,o7⟩:=Pw I7;exact⟨m',hm,i+1,ys,us,k,σ6,H7,I7.lB.lB,t7,f7,d7,o7,rv',hz',w7⟩
   | true=>
    rw[bA rfl]at q7 ⊢;refine cz (he H2.objs.size s H fp _ s4 σ6 H7 _ I7 q7) (λyv s5 ⟨y,H8,I8,r8,m',hm,w8⟩=>?_) λ_ _ z=>⟨_,_,λb hb=>(by
     obtain⟨o,e,_⟩:=T.obj _ _ Pr b hb;exact⟨o,bW _ (qo hb e)⟩),z⟩
    obtain⟨t8,f8,d8,o8⟩:=Pw I8;have hsz:us.toArray.size<=sizeLine:=by rw[bz,<-rv'.length];exact hz'
    refine append_at (hsz:=hsz) o8 λh' sb od=>?_;refine⟨m',hm,i+1,ys++[y],us++[yv],k+1,σ6,H8,?_,T.keep _ _ _ t8 λb hb o e=>(sb.2 b λq=>dfp (q ▸ hb)).trans e,f8,d8,?_,rv'.append (.cons r8 .nil),?_,w8⟩
    .exact I8.lB.lB.turned (it:=s.heap.objs.size) (t':=s5.toks) (λb o hb e=>(sb.2 b hb).trans e) d8 hDC (.inr (bw _)) cellD (by simpa using pinD)
    .rw[od,List.push_toArray]
    .rw[bF,dj];exact hz
 exact codeAny_compStart_list (loop _ rfl) (T.self _ 0 _ _ _ (T.keep _ _ _ st λb _ o e=>Of b o e) (loop _ rfl))
def Inv.letGo{C:Addr}{s':Sd}{H':Hp}{σ':St}{h':Heap}(I:Inv X MV Y H s)(I':Inv X MV σ' H' s')(hC:s.heap.objs.size<=C)(hn:H' C=none)(hs:Heap.SameBut C s'.heap h'):Inv X MV σ' H' {s' with heap:=h'}:=
 I'.turned (t':=s'.toks) (it:=C) (λb o hb e=>(hs.2 b hb).trans e) hn (λz=>absurd (bO I.lt hC) (by rw[z];exact cL _)) (.inr (bS I.sz hC))
  (λx c e z=>by
   obtain⟨v,r⟩:=I.cell x c e;exact absurd (bO r.lt hC) (by rw[z];exact cL _))
  (λp hp z=>absurd (bO (bB (I.pin p hp).1) hC) (by rw[z];exact cL _))
def FW{wi:TI}(hc:X.calm=true)(S:nZ X scope ix N')(hi:PI X tg iter wi)(hg:∀C s0 H0 ex,PG (X.comp scope N' C s0 H0 ex) tg g)(ht:∀C s0 H0 ex,PF (X.comp scope N' C s0 H0 ex) NA tt)(he:∀C s0 H0 ex,PE (X.comp scope N' C s0 H0 ex) NQ te) (hs:∀x,foldedSetIterable iter X.env x=pure x:=by intro _;rfl):PE X (.ListComp NQ [⟨tg,iter,NA,0⟩] scope pos) (EW ix wi g tt te):=by
 intro MV s Y H Q I h;rw[eval_ListComp];refine iF (use:=none) rfl hs (sP (S.cells I.ok)) S.kind S.nam (cz (hi MV s Y H _ I h) (λxv s₁ h₁=>cz h₁ (λitv s₂ h₂=>?_) λ_ _ e=>e) λ_ _ e=>e);obtain⟨it,fp,tn,J,H2,e,I2,T,Nf,f2,hw⟩:=h₂;subst e;refine vL (RR:=λacc C=>compPost (model X.prog X.w) X.A X.xe none (EP X MV Y Q) acc C) hc S I2 T Nf f2 hg ht (XP:=λ_ _ _ _ _ _ _ _=>False) he (λ_ _ _ _ _ z=>by obtain⟨_,_,_,z⟩:=z;exact z.elim) hw λD C s' H' m hCs hCn hn I3 q=>?_;exact⟨m,hn,λh' NB=>⟨.ref D,_,I2.letGo I3 hCs hCn NB,rfl,q⟩⟩
def Bc{wi:TI}{i:Nat}{x:Str}{px OJ:Pos}(hN:X.N.Nodup)(hix:X.N[i]?=some x)(hx:Dk X.env.scope x)(hc:X.calm=true)(S:nZ X scope ix N')(hi:PI X tg iter wi)(hg:∀C s0 H0 ex,PG (X.comp scope N' C s0 H0 ex) tg g)(ht:∀C s0 H0 ex,PF (X.comp scope N' C s0 H0 ex) NA tt) (he:∀C s0 H0 ex,PE (X.comp scope N' C s0 H0 ex) NQ te) (OK:swapsWith (.ListComp NQ [⟨tg,iter,NA,0⟩] scope pos) (some (.Name x px)) OJ.line X.env=pure true) (hf:DW X x:=by first|exact .inl rfl|exact .inr rfl|assumption) (hs:∀x,foldedSetIterable iter X.env x=pure x:=by intro _;rfl):
  PS X (.Assign [.Name x px] (.ListComp NQ [⟨tg,iter,NA,0⟩] scope pos) OJ) (Kc (EW ix wi g tt te) (DP i)):=by
 intro MV s Y H D I h;rw[exec_Assign_Name_used _ _ _ _ OK];refine bh (wpAny_standAt (bh ?_));show wpAny _ X.A (do let _<-comprehension (.ListComp NQ [⟨tg,iter,NA,0⟩] scope pos) scope X.env _ (newList []) false (eval iter X.env) (some (assign (.Name x px) X.env))) _ _ s;refine bh (cz (iF (use:=some (assign (.Name x px) X.env)) (Q:=λ_ s'=>SP X MV D .next s') rfl hs (sP (S.cells I.ok)) S.kind S.nam
  (cz (hi MV s Y H _ I h) (λxv s₁ h₁=>cz h₁ (λitv s₂ h₂=>?_) λ_ _ e=>e) λ_ _ e=>e)) (λ_ s' hq=>bj (bj hq)) λ_ _ e=>e)
 obtain⟨it,fp,tn,J,H2,e,I2,T,Nf,f2,hw⟩:=h₂;subst e;refine vL (RR:=λacc C=>compPost (model X.prog X.w) X.A X.xe (some (assign (.Name x px) X.env)) (λ_ s'=>SP X MV D .next s') acc C) hc S I2 T Nf f2 hg ht (XP:=λ_ _ _ _ _ _ _ _=>False) he (λ_ _ _ _ _ z=>by obtain⟨_,_,_,z⟩:=z;exact z.elim) hw λDa C s' H' m hCs hCn hn I3 q=>?_;show wpAny _ X.A (assign (.Name x px) X.env (.ref Da)) _ _ _;refine jL (xq I3 hN hix hx (v:=.ref Da) rfl (λs4 I4 ⟨a,sb,ha⟩=>?_) hf);have ca:C≠a:=λz=>by
  rcases ha with y|y
  .exact absurd (bO I2.lt hCs) (by rw[z,y];exact cL _)
  .obtain⟨v,r⟩:=I2.cell x a y;exact absurd (bO r.lt hCs) (by rw[z];exact cL _)
 exact⟨m,hn.sameBut sb ca,λh' NB=>⟨_,H',I2.letGo I4 hCs hCn NB,q⟩⟩
end
def va:typeLookup (.type "list") "__getattr__"=pure none:=by rw[fU,eC];kernel_rfl
def xY:typeLookup (.type "list") "keys"=pure none:=by rw[fU,eC];kernel_rfl
section
variable {prog:Pg}{w:Wo}{A:Ar}{E:QQX}
def EA(a:Addr)(u:Tok)(its:Array Vl)(n:Nat)(sl:Array (Option Vl)):
  Meets (Builtin.«object.__getattribute__» ⟨[.ref a,.str "keys" u],[]⟩) λA R s=>s.heap.get? a=some ⟨.type "list",none,.seq its n,sl⟩/\A.handled=none/\∀h' tk e,Heap.NewAttrErr s.heap h' e (.ref a) "keys"->R (.error (.ref e)) {s with heap:=h',toks:=tk}:=
 Meets.of_wp λprog w A R s hs=>by
  obtain⟨hp,g,d,tk,os⟩:=s;obtain⟨h1,h2,h3⟩:=hs;have hT:(⟨hp,g,d,tk,os⟩:Sd).TypeIs (.ref a) "list":=⟨_,h1,rfl⟩;have f1:=xY;unfold Builtin.«object.__getattribute__»
  repeat (any_goals(first|assumption|wp_step))
  exact wpAny_raiseAttrError h2 h3 (attrMsg_fits (by decide+kernel) (by decide))
def yq{s:Sd}{a:Addr}{its:Array Vl}{n:Nat}{sl:Array (Option Vl)}{Q:Option Vl->Sd->Prop}(ha:s.heap.get? a=some ⟨.type "list",none,.seq its n,sl⟩)(hA:A.handled=none) (h:∀h' tk,(∀b o,s.heap.get? b=some o->h'.get? b=some o)->Q none {s with heap:=h',toks:=tk}):wpAny (model prog w) A (getAttr? (.ref a) "keys") Q E s:=by
 obtain⟨hp,g,d,tk,os⟩:=s;have hT:(⟨hp,g,d,tk,os⟩:Sd).TypeIs (.ref a) "list":=⟨_,ha,rfl⟩;have f1:=sub_AttributeError;have f3:=fX.lookup;have f4:=fX.bind (.ref a);have f5:=va;unfold getAttr? getAttrBy? getAttrBy
 repeat (any_goals(first|assumption|((with_reducible show wpAny _ _ (call (Value.builtin "list.__getattribute__") _ _) _ _ _);refine jg fX hT F.entry_list_ga (F.args_list_getattribute_2 _ _) (EA a _ its n sl) ⟨ha,hA,λh' tk' e hx=>?_⟩)|wp_step))
 obtain⟨t',u',he⟩:=hx.there;show wpAny _ _ (getattributeRaised _ _ _ _ _ _ _) _ _ _;unfold getattributeRaised
 repeat (any_goals(first|assumption|wp_step))
 all_goals first|exact h _ _ hx.keeps|skip
end
def uM:entryFor table "dict.update.loop"=some Builtin.«dict.update.loop»:=iG (by kernel_rfl)
def qK:plainId "dict.update.loop"=true:=by decide+kernel
section
variable {prog:Pg}{w:Wo}{A:Ar}{E:QQX}{R:Result→Sd→Prop}{κ:Type}[DecidableEq κ]{knd:PySem.KeyKind prog w κ}
 {I:Addr} {fp wr:QXQ} {G:Array GenState->Array GenState->Prop} {P:Nat->Vl->Prop} {St:Nat->Sd->Prop}
def GR{s:Sd}{t:Addr}{x y:Vl}{Q:T0 Vl->Sd->Prop}(h:s.heap.IsTuple t #[x,y])(q:Q [x,y] s):wpAny (model prog w) A (Builtin.Dict.pairItems (.ref t)) Q E s:=by
 obtain⟨⟨oc,od,oda,O4⟩,h1,h2,n,h3⟩:=h;simp only at h2 h3;subst h2 h3;have hT:s.TypeIs (.ref t) "tuple":=⟨_,h1,rfl⟩;obtain⟨hp,g,d,tk,os⟩:=s;unfold Builtin.Dict.pairItems
 repeat (any_goals(first|assumption|wp_step))
def CF{all:T0 (κ×Vl)}(W:WalksS prog w A.in1 I fp wr G all.length P St)(d:Addr)(Pv:d∉fp)(kv:Nat->Vl)(tp:Nat->Addr)(hP:∀i v,P i v->v=.ref (tp i))(hw:∀j,j<all.length->tp j∉wr/\tp j≠d) (hk:∀j p,all[j]?=some p->knd.is p.1 (kv j)=true) (hz:all.length<=sizeLine):
  ∀(k i:Nat) (z:Int) (s:Sd),all.length - i=k->i<=all.length->St i s->(∀j p,all[j]?=some p->s.heap.IsTuple (tp j) #[kv j,p.2])->s.heap.DictOf knd d (merged [] (all.take i))->
   (∀s',Moved (d::wr) G s s'->s'.heap.DictOf knd d (merged [] all)->R (.ok (.ret .none)) s')->codeAny (model prog w) A (.builtin "dict.update.loop" ⟨[.ref d,.ref I,.int z 0,.none],[]⟩) R s:=by
 have hdw:d∉wr:=λh=>Pv (W.sub _ h);have Og:∀b∈wr,b∈d::wr:=λb hb=>bL _ hb;intro k;induction k with
 | zero=>
  intro i z s hk0 hi NG hT hD hR;have hin:i=all.length:=by lia
  subst hin;refine cM uM ?_;rw[cK qK _];show wpAny _ A.in1 (pyNext (.ref I)>>=_) _ _ s;refine bh (W.done s _ _ NG λs' hm=>?_);show wpAny _ A.in1 (Builtin.Dict.addKeywords d []>>=_) _ _ s';refine bh (bj (bj (hR s' (hm.mono Og) ?_)));rw[dN]at hD;obtain⟨o,es,ep,ho,Nb⟩:=hD;exact⟨o,es,ep,hm.heap d _ hdw ho,Nb⟩
 | succ k ih=>
  intro i z s hk0 hi NG hT hD hR;have Nd:i<all.length:=by lia
  have NH:all[i]?=some all[i]:=bC Nd;refine cM uM ?_;rw[cK qK _];show wpAny _ A.in1 (pyNext (.ref I)>>=_) _ _ s;refine bh (W.item i s _ _ Nd NG λv s' hPv OL hm=>?_);obtain rfl:=hP i v hPv;have hT':∀j p,all[j]?=some p->s'.heap.IsTuple (tp j) #[kv j,p.2]:=λj p e=>by obtain⟨o,h1,h2⟩:=hT j p e;exact⟨o,hm.heap _ _ (hw j (bI.mp e).1).1 h1,h2⟩
  have hD':s'.heap.DictOf knd d (merged [] (all.take i)):=by obtain⟨o,es,ep,ho,Nb⟩:=hD;exact⟨o,es,ep,hm.heap d _ hdw ho,Nb⟩
  show wpAny _ A.in1 (holding [Value.ref (tp i)] _>>=_) _ _ s';refine bh (cE (bh (wpAny_tryCatch (GR (hT' i _ NH) ?_))));show wpAny _ A.in1 (holding [kv i,all[i].2] (dictSet d (kv i) all[i].2)) _ _ s';refine cE ?_;unfold dictSet;refine cE (bh (knd.pyHash (hk i _ NH) ?_));have hl:(merged [] (all.take i)).length<=sizeLine:=by have:=merged_length_le [] (all.take i);rw[df]at this;simp only[b9]at this;lia
  refine wpAny_dictSetHashed_pairs (hsz:=hl) (hk i _ NH) hD' λh' dd hs=>?_;rw[<-merged_take_succ [] all i _ NH]at dd;refine bj ⟨dH qK _,ih (i+1) _ _ (by lia) Nd (W.frame _ s' _ _ OL (dF _) λb hb o e=>?_) (λj p e=>?_) dd λO2 OM hD''=>?_⟩
  .rw[hs.2 b (λz:b=d=>Pv (z ▸ hb))];exact e
  .obtain⟨o,h1,h2⟩:=hT' j p e;refine⟨o,?_,h2⟩;show h'.get? (tp j)=some o;rw[hs.2 _ (hw j (bI.mp e).1).2];exact h1
  .refine hR O2 (j5 W.gtrans ((hm.mono Og).then_heap (dF _) λb o hb e=>?_) OM) hD'';rw[hs.2 b (λz:b=d=>hb (by rw[z];exact bM))];exact e
end
section
variable {prog:Pg}{w:Wo}{A:Ar}{E:QQX}{κ:Type}[DecidableEq κ]{knd:PySem.KeyKind prog w κ}{s:Sd}
def uT{l:Addr}{its:Array Vl}{n:Nat}{sl:Array (Option Vl)}{all:T0 (κ×Vl)}{Q:QQX}(kv:Nat->Vl)(tp:Nat->Addr)(hh:A.handled=none)(hl:s.heap.get? l=some ⟨.type "list",none,.seq its n,sl⟩) (hits:∀(j:Nat) (v:Vl),its[j]?=some v->v=.ref (tp j)) (Na:its.size=all.length) (hT:∀j p,all[j]?=some p->s.heap.IsTuple (tp j) #[kv j,p.2]) (hk:∀j p,all[j]?=some p->knd.is p.1 (kv j)=true) (hz:all.length<=sizeLine) (h:∀h' tk,h'.DictOf knd s.heap.objs.size (merged [] all)->(∀b o,s.heap.get? b=some o->h'.get? b=some o)->Q (.ref s.heap.objs.size) {s with heap:=h',toks:=tk}):
  wpAny (model prog w) A (call (.type "dict") [.ref l]) Q E s:=by
 refine callType_codes (Q₁:=λobj s₁=>obj=Value.ref s.heap.objs.size/\s₁={s with heap:=s.heap.push {cls:=.type "dict",data:=.dict #[]}}) PySem.F.kt_called_dict (PySem.F.kt_typeCall_dict_1 _) F.entry_dict_init (kt_code_dict_new _ ⟨rfl,rfl⟩) ?_
 rintro obj s₁ ⟨rfl,rfl⟩
 have PL:(s.heap.push {cls:=.type "dict",data:=.dict #[]}).DictOf knd s.heap.objs.size []:=Heap.DictOf.new s.heap;have hl':(s.heap.push {cls:=.type "dict",data:=.dict #[]}).get? l=some ⟨.type "list",none,.seq its n,sl⟩:=bp _ hl;have hTl:Shared.TypeIs {s with heap:=s.heap.push {cls:=.type "dict",data:=.dict #[]}} (.ref l) "list":=⟨_,hl',rfl⟩;have lsz:l<s.heap.objs.size:=bB hl;refine⟨PL.typeIs,F.args_dict_init_2 _ _,?_⟩;unfold Builtin.«dict.__init__»;refine bh ?_;unfold Builtin.Dict.selfAndRest;refine bh (wpAny_notOrdered_dict PL.typeIs ?_);show wpAny _ _ (pure (s.heap.objs.size,[Value.ref l])) _ _ _;refine bj ?_;show wpAny _ _ (Builtin.Dict.updateFrom "dict.__init__" s.heap.objs.size (.ref l) [] .none) _ _ _;unfold Builtin.Dict.updateFrom;refine bh (fB hTl ?_);rw[bA (by decide)];refine bh (yq hl' (by simpa using hh) λh' tk keep=>?_);have O5:h'.IsList l its:=⟨_,keep _ _ hl',rfl,n,rfl⟩;show wpAny _ _ (rule _>>=_) _ _ _;refine bh (dI (bh (eG O5 ?_)));have nd:h'.objs.size>s.heap.objs.size:=by have z:h'.get? s.heap.objs.size=some _:=keep _ _ (bD _ rfl);exact bB z
 have hDn:h'.DictOf knd s.heap.objs.size []:=by obtain⟨o,es,ep,ho,Nb⟩:=PL;exact⟨o,es,ep,keep _ _ ho,Nb⟩
 have hTs:∀j p,all[j]?=some p->h'.IsTuple (tp j) #[kv j,p.2]:=λj p e=>by obtain⟨o,h1,h2⟩:=hT j p e;exact⟨o,keep _ _ (bp _ h1),h2⟩
 have NY:l≠h'.objs.size:=bG (iE lsz nd);have W:=(iv (prog:=prog) (w:=w) (A:=A.in1.in1) (by simpa using hh) h'.objs.size l NY its).toS;rw[Na]at W;refine bj ⟨dH qK _,CF (A:=A.in1) W s.heap.objs.size ?_ kv tp (λi v e=>hits i v e) (λj hj=>?_) hk hz all.length 0 0 _ (by lia) (cF _) ⟨⟨_,bD _ rfl,rfl,rfl⟩,O5.push _⟩ (λj p e=>(hTs j p e).push _) ?_ λs' hm hD=>?_⟩
 .simp only[bq,bE,bV,cA];exact⟨bG nd,cN lsz⟩
 .have NC:all[j]?=some all[j]:=bC hj;obtain⟨o,h1,_⟩:=hT j _ NC;have tsz:=bB h1;simp only[bq,bE,bV];exact⟨bG (iE tsz nd),bG tsz⟩
 .obtain⟨o,es,ep,ho,Nb⟩:=hDn;exact⟨o,es,ep,bp _ ho,Nb⟩
 .obtain⟨h2,g2,d2,t2,o2⟩:=s';have eg:g2=s.gens:=hm.gens;have ed:d2=s.drawn:=hm.drawn;have eo:o2=s.os:=hm.os;subst eg ed eo;refine⟨rfl,h h2 t2 hD λb o e=>?_⟩;have hb:=bB e;refine hm.heap b o ?_ (bp _ (keep _ _ (bp _ e)));simp only[bq,bE,bV,cA];exact⟨bG hb,bG (iE hb nd)⟩
end
noncomputable def nz{κ:Type}[DecidableEq κ](l:List κ):List κ:=l.foldl (λacc k=>if k∈acc then acc else acc++[k]) []
def qk{κ:Type}[DecidableEq κ](l:List κ)(k:κ):nz (l++[k])=if k∈nz l then nz l else nz l++[k]:=by unfold nz;rw[List.foldl_append];rfl
def vc{κ:Type}[DecidableEq κ]:∀l:List κ,(nz l).length<=l.length:=by
 have go:∀(l acc:List κ),(l.foldl (λacc k=>if k∈acc then acc else acc++[k]) acc).length<=acc.length+l.length:=by
  intro l;induction l with
  | nil=>intro acc;simp
  | cons k r ih=>
   intro acc;rw[dD];refine bS (ih _) ?_;split
   .simp only[bR];lia
   .simp only[bR,bF,b9];lia
 intro l;have:=go l []
 simpa [nz]using this
def Fe{κ:Type}[DecidableEq κ](x:κ):∀l:List κ,x∈nz l↔x∈l:=by
 have go:∀(l acc:List κ),x∈l.foldl (λacc k=>if k∈acc then acc else acc++[k]) acc↔x∈acc\/x∈l:=by
  intro l;induction l with
  | nil=>intro acc;simp
  | cons k r ih=>
   intro acc;rw[dD,ih];by_cases h:k∈acc
   .rw[bA h,bq];constructor
    .rintro (z|z)
     .exact .inl z
     .exact .inr (.inr z)
    .rintro (z|z|z)
     .exact .inl z
     .subst z;exact .inl h
     .exact .inr z
   .rw[bv h,bT,bK,bq,or_assoc]
 intro l;have:=go l []
 simpa [nz]using this
def vY{κ:Type}[DecidableEq κ]:∀l:List κ,l.Nodup->nz l=l:=by
 have go:∀(l acc:List κ),(acc++l).Nodup->l.foldl (λacc k=>if k∈acc then acc else acc++[k]) acc=acc++l:=by
  intro l;induction l with
  | nil=>intro acc _;simp
  | cons k r ih=>
   intro acc h;have hk:k∉acc:=λz=>by rw[cw]at h;exact h.2.2 k z k bM rfl
   rw[dD,bv hk,ih]
   .rw[cc];rfl
   .rw[cc];exact h
 intro l h;have:=go l [] (by simpa using h)
 simpa [nz]using this
section
variable {prog:Pg}{w:Wo}{A:Ar}{E:QQX}{R:Result→Sd→Prop}{κ:Type}[DecidableEq κ][BEq κ][LawfulBEq κ]{knd:PySem.KeyKind prog w κ}
 {I:Addr} {fp wr:QXQ} {G:Array GenState->Array GenState->Prop} {P:Nat->Vl->Prop} {St:Nat->Sd->Prop}
def zp{all:List κ}(W:WalksS prog w A.in1 I fp wr G all.length P St)(S:Addr)(hSf:S∉fp)(PM:∀i v k,P i v->all[i]?=some k->knd.is k v=true/\v.scannable=true)(hb:all.length+1<scanBound):
  ∀(n i:Nat) (s:Sd),all.length - i=n->i<=all.length->St i s->s.heap.SetOf knd S (λx=>decide (x∈nz (all.take i))) (nz (all.take i)).length->
   (∀s',Moved (S::wr) G s s'->s'.heap.SetOf knd S (λx=>decide (x∈nz all)) (nz all).length->R (.ok (.ret .none)) s')->codeAny (model prog w) A (.builtin "set.update.loop" ⟨[.ref S,.ref I],[]⟩) R s:=by
 have hSw:S∉wr:=λh=>hSf (W.sub _ h);have up:∀b∈wr,b∈S::wr:=λb hb=>bL _ hb;have kept:∀{s s':Sd} {T:κ->Bool} {m:Nat},Moved wr G s s'->s.heap.SetOf knd S T m->s'.heap.SetOf knd S T m:=λhm ⟨o,es,ep,t,ho,Nb⟩=>⟨o,es,ep,t,hm.heap S _ hSw ho,Nb⟩;intro n;induction n with
 | zero=>
  intro i s h0 hi NG hS hR;obtain rfl:i=all.length:=by lia
  refine cM dv ?_;rw[cK cG _];rw[dN]at hS;exact bh (W.done s _ _ NG λs' hm=>bj (hR s' (hm.mono up) (kept hm hS)))
 | succ n ih=>
  intro i s h0 hi NG hS hR;have Nd:i<all.length:=by lia
  have NH:all[i]?=some all[i]:=bC Nd;refine cM dv ?_;rw[cK cG _];refine bh (W.item i s _ _ Nd NG λv s' hP OL hm=>?_);obtain⟨k1,k2⟩:=PM i v _ hP NH;have NU:=kept hm hS;show wpAny _ A.in1 (holding [v] (setAdd S v)>>=_) _ _ s';refine bh (cE ?_);unfold setAdd;refine cE (bh (knd.pyHash k1 ?_));have PN:(nz (all.take i)).length+1<scanBound:=by have h1:=vc (all.take i);rw[df]at h1;lia
  refine wpAny_setAddHashed_of (knd:=knd) (s:={s' with toks:=s'.toks+1}) k1 k2 NU PN λh' PP PQ=>?_;have et:all.take (i+1)=all.take i++[all[i]]:=by rw[fu,NH];rfl
  have hSi:h'.SetOf knd S (λx=>decide (x∈nz (all.take (i+1)))) (nz (all.take (i+1))).length:=by
   refine fY PQ (λx=>?_) ?_
   .rw[et];by_cases MX:all[i]∈nz (all.take i)
    .rw[qk,bA MX];by_cases hx:x=all[i]
     .subst hx;simp[MX]
     .simp[hx]
    .rw[qk,bv MX];by_cases hx:x=all[i]
     .subst hx;simp
     .simp[hx]
   .rw[et,qk];by_cases MX:all[i]∈nz (all.take i)
    .rw[bA MX];simp[MX]
    .rw[bv MX];simp[MX]
  refine bj ⟨dH cG _,ih (i+1) _ (by lia) Nd (W.frame _ s' _ _ OL (dF _) λb hb o e=>?_) hSi λO2 OM PR=>?_⟩
  .rw[PP.2 b (λz:b=S=>hSf (z ▸ hb))];exact e
  .refine hR O2 (j5 W.gtrans ((hm.mono up).then_heap (dF _) λb o hb e=>?_) OM) PR;rw[PP.2 b (λz:b=S=>hb (by rw[z];exact bM))];exact e
end
def tM:isSubtype (.type "list") (.type "set")=pure false:=by rw[d6];kernel_rfl
def rF:isSubtype (.type "list") (.type "frozenset")=pure false:=by rw[d6];kernel_rfl
section
variable {prog:Pg}{w:Wo}{A:Ar}{E:QQX}{κ:Type}[DecidableEq κ][BEq κ][LawfulBEq κ]{knd:PySem.KeyKind prog w κ}{s:Sd}
set_option maxHeartbeats 4000000 in
def wQ{l:Addr}{MW:Array Vl}{all:List κ}{Q:QQX}(hh:A.handled=none)(hl:s.heap.IsList l MW)(hn:MW.size=all.length)(hi:∀(i:Nat) (v:Vl) (k:κ),MW[i]?=some v->all[i]?=some k->knd.is k v=true/\v.scannable=true)(hb:all.length+1<scanBound) (h:∀(h':Heap) (tk:Nat),h'.SetOf knd s.heap.objs.size (λx=>decide (x∈nz all)) (nz all).length->(∀b o,s.heap.get? b=some o->h'.get? b=some o)->Q (.ref s.heap.objs.size) {s with heap:=h',toks:=tk}):
  wpAny (model prog w) A (call (.type "set") [.ref l]) Q E s:=by
 obtain⟨c,tl,hmro⟩:=b8.mro;have Px:=b8.made;have Og:=b8.sub;refine gi (gJ ?_);show wpAny _ _ (callAny (.type "set") _) _ _ _;refine bj ⟨hJ _ (by decide+kernel),cM il ?_⟩;rw[hU (gE "set" [.ref l] []) rfl];have h1:=b8.notType;have h2:=b8.canCreate;have hct:=iH (.ref l)
 repeat (any_goals(first|assumption|wp_step))
 have fresh:∀led:Bool,(s.heap.push {cls:=.type "set",dict:=none,data:=.set #[] 0 (.fresh 0 0 led)}).get? s.heap.objs.size=some {cls:=.type "set",dict:=none,data:=.set #[] 0 (.fresh 0 0 led)}:=λled=>bD _ rfl;refine dR (code_set_new_1 (.ref l) (E:=E) (Q₁:=λobj s₁=>∃led:Bool,obj=Value.ref s.heap.objs.size/\s₁={s with heap:=s.heap.push {cls:=.type "set",dict:=none,data:=.set #[] 0 (.fresh 0 0 led)}}) λled=>⟨led,rfl,rfl⟩) λr s₁ hr=>?_;cases r with
 | error e=>exact hr
 | ok fl=>
  cases fl with
  | ret obj=>
   obtain⟨led,rfl,rfl⟩:=hr;have hS:=fresh led;have hT:Shared.TypeIs {s with heap:=s.heap.push {cls:=.type "set",dict:=none,data:=.set #[] 0 (.fresh 0 0 led)}} (.ref s.heap.objs.size) "set":=⟨_,hS,rfl⟩;have hli:=b8.init.lookup;have hbi:=b8.init.bind (.ref s.heap.objs.size)
   repeat (any_goals(first|assumption|wp_step))
   refine dR (eK (R:=wants (λr s₂=>r=.none/\∃h' tk,s₂={s with heap:=h',toks:=tk}/\h'.SetOf knd s.heap.objs.size (λx=>decide (x∈nz all)) (nz all).length/\(∀b o,s.heap.get? b=some o->h'.get? b=some o)) E) b8.init.plain iI (iJ hT ?_)) λr₂ s₂ ON=>?_
   .obtain⟨ol,Pa,Pb,nl,Pc⟩:=hl;obtain⟨ocls,Os,Py,NR⟩:=ol;simp only at Pb Pc;subst Pb;subst Pc;have NZ:(s.heap.push {cls:=.type "set",dict:=none,data:=.set #[] 0 (.fresh 0 0 led)}).get? l=some {cls:=.type "list",dict:=Os,data:=.seq MW nl,slots:=NR}:=bp _ Pa;have hsls:=tM;have hslf:=rF;have Pz:(Value.type "list"==Value.type "dict")=false:=by decide
    have OX:(s.heap.push {cls:=.type "set",dict:=none,data:=.set #[] 0 (.fresh 0 0 led)}).IsList l MW:=⟨_,NZ,rfl,nl,rfl⟩;unfold Builtin.«set.__init__» noKeywords Builtin.Frozenset.updateFrom;generalize hPI:pyIter=PI
    wp_walk
    subst hPI;refine eG OX ?_;refine bh (gY ?_);have lS:l<s.heap.objs.size:=bB Pa;have hh3:A.in1.in1.in1.handled=none:=by simp[hh]
    have lI:l≠(s.heap.push {cls:=.type "set",dict:=none,data:=.set #[] 0 (.fresh 0 0 led)}).objs.size:=by rw[bY];exact bG (cR lS)
    have W:=(iv (prog:=prog) (w:=w) hh3 _ l lI MW).toS;rw[hn]at W;refine zp W s.heap.objs.size ?hf (λi v k e1 e2=>hi i v k e1 e2) hb all.length 0 _ (by lia) (cF _) ⟨⟨_,bD _ rfl,rfl,rfl⟩,(OX.push _)⟩ ?h0 ?hR;case hf=>rw[bY];simp only[bq,bE,bV,cA];exact⟨bG (dM _),cN lS⟩
    case h0=>exact fY ((hV (knd:=knd) led).setOf (bp _ hS) (by unfold scanBound;lia)) (λ_=>rfl) rfl
    case hR=>intro s' hm NU;obtain⟨h',g',d',tk',PC⟩:=s';have eg:g'=s.gens:=hm.gens;have ed:d'=s.drawn:=hm.drawn;have eo:PC=s.os:=hm.os;subst eg;subst ed;subst eo;refine bj ?_;show wpAny _ _ (ret Value.none) _ _ _;refine bj ⟨rfl,h',tk',rfl,NU,λb o e=>?_⟩;have hb:=bB e;refine hm.heap b o ?_ (bp _ (bp _ e));rw[bY];simp only[bq,bE,bV,cA];exact⟨bG hb,bG (cR hb)⟩
   .cases r₂ with
    | error e=>exact ON
    | ok fl₂=>
     cases fl₂ with
     | ret r=>
      obtain⟨rfl,h',tk,rfl,NU,PK⟩:=ON
      repeat (any_goals(first|assumption|wp_step))
      exact h _ _ NU PK
     | _=>exact ON.elim
  | _=>exact hr.elim
end
def sL:isSubtype (.type "tuple") (.type "set")=pure false:=by rw[d6];kernel_rfl
def qZ:isSubtype (.type "tuple") (.type "frozenset")=pure false:=by rw[d6];kernel_rfl
section
variable {prog:Pg}{w:Wo}{A:Ar}{E:QQX}{κ:Type}[DecidableEq κ][BEq κ][LawfulBEq κ]{knd:PySem.KeyKind prog w κ}{s:Sd}
set_option maxHeartbeats 4000000 in
def vU{l:Addr}{MW:Array Vl}{all:List κ}{Q:QQX}(hh:A.handled=none)(hl:s.heap.IsTuple l MW)(hn:MW.size=all.length)(hi:∀(i:Nat) (v:Vl) (k:κ),MW[i]?=some v->all[i]?=some k->knd.is k v=true/\v.scannable=true)(hb:all.length+1<scanBound) (h:∀(h':Heap) (tk:Nat),h'.SetOf knd s.heap.objs.size (λx=>decide (x∈nz all)) (nz all).length->(∀b o,s.heap.get? b=some o->h'.get? b=some o)->Q (.ref s.heap.objs.size) {s with heap:=h',toks:=tk}):
  wpAny (model prog w) A (call (.type "set") [.ref l]) Q E s:=by
 obtain⟨c,tl,hmro⟩:=b8.mro;have Px:=b8.made;have Og:=b8.sub;refine gi (gJ ?_);show wpAny _ _ (callAny (.type "set") _) _ _ _;refine bj ⟨hJ _ (by decide+kernel),cM il ?_⟩;rw[hU (gE "set" [.ref l] []) rfl];have h1:=b8.notType;have h2:=b8.canCreate;have hct:=iH (.ref l)
 repeat (any_goals(first|assumption|wp_step))
 have fresh:∀led:Bool,(s.heap.push {cls:=.type "set",dict:=none,data:=.set #[] 0 (.fresh 0 0 led)}).get? s.heap.objs.size=some {cls:=.type "set",dict:=none,data:=.set #[] 0 (.fresh 0 0 led)}:=λled=>bD _ rfl;refine dR (code_set_new_1 (.ref l) (E:=E) (Q₁:=λobj s₁=>∃led:Bool,obj=Value.ref s.heap.objs.size/\s₁={s with heap:=s.heap.push {cls:=.type "set",dict:=none,data:=.set #[] 0 (.fresh 0 0 led)}}) λled=>⟨led,rfl,rfl⟩) λr s₁ hr=>?_;cases r with
 | error e=>exact hr
 | ok fl=>
  cases fl with
  | ret obj=>
   obtain⟨led,rfl,rfl⟩:=hr;have hS:=fresh led;have hT:Shared.TypeIs {s with heap:=s.heap.push {cls:=.type "set",dict:=none,data:=.set #[] 0 (.fresh 0 0 led)}} (.ref s.heap.objs.size) "set":=⟨_,hS,rfl⟩;have hli:=b8.init.lookup;have hbi:=b8.init.bind (.ref s.heap.objs.size)
   repeat (any_goals(first|assumption|wp_step))
   refine dR (eK (R:=wants (λr s₂=>r=.none/\∃h' tk,s₂={s with heap:=h',toks:=tk}/\h'.SetOf knd s.heap.objs.size (λx=>decide (x∈nz all)) (nz all).length/\(∀b o,s.heap.get? b=some o->h'.get? b=some o)) E) b8.init.plain iI (iJ hT ?_)) λr₂ s₂ ON=>?_
   .obtain⟨ol,Pa,Pb,nl,Pc⟩:=hl;obtain⟨ocls,Os,Py,NR⟩:=ol;simp only at Pb Pc;subst Pb;subst Pc;have NZ:(s.heap.push {cls:=.type "set",dict:=none,data:=.set #[] 0 (.fresh 0 0 led)}).get? l=some {cls:=.type "tuple",dict:=Os,data:=.seq MW nl,slots:=NR}:=bp _ Pa;have hsls:=sL;have hslf:=qZ;have Pz:(Value.type "tuple"==Value.type "dict")=false:=by decide
    have OX:(s.heap.push {cls:=.type "set",dict:=none,data:=.set #[] 0 (.fresh 0 0 led)}).IsTuple l MW:=⟨_,NZ,rfl,nl,rfl⟩;unfold Builtin.«set.__init__» noKeywords Builtin.Frozenset.updateFrom;generalize hPI:pyIter=PI
    wp_walk
    subst hPI;refine fh OX ?_;refine bh (gY ?_);have lS:l<s.heap.objs.size:=bB Pa;have hh3:A.in1.in1.in1.handled=none:=by simp[hh]
    have lI:l≠(s.heap.push {cls:=.type "set",dict:=none,data:=.set #[] 0 (.fresh 0 0 led)}).objs.size:=by rw[bY];exact bG (cR lS)
    have W:=(kZ (prog:=prog) (w:=w) hh3 _ l lI MW).toS;rw[hn]at W;refine zp W s.heap.objs.size ?hf (λi v k e1 e2=>hi i v k e1 e2) hb all.length 0 _ (by lia) (cF _) ⟨⟨_,bD _ rfl,rfl,rfl⟩,(OX.push _)⟩ ?h0 ?hR;case hf=>rw[bY];simp only[bq,bE,bV,cA];exact⟨bG (dM _),cN lS⟩
    case h0=>exact fY ((hV (knd:=knd) led).setOf (bp _ hS) (by unfold scanBound;lia)) (λ_=>rfl) rfl
    case hR=>intro s' hm NU;obtain⟨h',g',d',tk',PC⟩:=s';have eg:g'=s.gens:=hm.gens;have ed:d'=s.drawn:=hm.drawn;have eo:PC=s.os:=hm.os;subst eg;subst ed;subst eo;refine bj ?_;show wpAny _ _ (ret Value.none) _ _ _;refine bj ⟨rfl,h',tk',rfl,NU,λb o e=>?_⟩;have hb:=bB e;refine hm.heap b o ?_ (bp _ (bp _ e));rw[bY];simp only[bq,bE,bV,cA];exact⟨bG hb,bG (cR hb)⟩
   .cases r₂ with
    | error e=>exact ON
    | ok fl₂=>
     cases fl₂ with
     | ret r=>
      obtain⟨rfl,h',tk,rfl,NU,PK⟩:=ON
      repeat (any_goals(first|assumption|wp_step))
      exact h _ _ NU PK
     | _=>exact ON.elim
  | _=>exact hr.elim
end
end L2
namespace HT
open PySem PyProof.Rows
variable {prog:Pg}{w:Wo}{A:Ar}{E:QQX}{s:Sd}
def tX{t sl:Addr}{MW:Array Vl}{vl vu:Vl}{lo hi:Option Int}{Q:QQX}(ht:IsTup s.heap t MW)(hs:s.heap.IsSliceOf sl vl vu .none)(pl:IsPart vl lo)(pu:IsPart vu hi) (hw:oP MW.size 0 lo=0/\oP MW.size MW.size hi=MW.size) (h:Q (.ref t) s):wpAny (model prog w) A (getItem (.ref t) (.ref sl)) Q E s:=by
 obtain⟨os,PD,hcs,Od⟩:=id hs;have hTs:s.TypeIs (.ref sl) "slice":=⟨os,PD,hcs⟩;unfold getItem
 try with_reducible refine cE ?_
 first|refine bh (bj ?_)|skip
 refine bh (ik ht.typeIs (by decide) ?_);refine bh (cH (name:=Str.ofString "__getitem__") ht.typeIs cS (cq cS ht.typeIs js ?_ (jE _ _)));show wpAny _ _ (Builtin.Tuple.tupleItemsOf (.ref t)>>=_) _ _ s;refine bh (tupleItemsOf_ ht ?_);refine bh (fB hTs ?_);rw[bA (by decide)];refine bh (qV hs pl pu ?_);have yes:(((oP MW.size 0 lo:Nat):Int)==0&&(1:Int)==1&&(oP MW.size MW.size hi - oP MW.size 0 lo)==MW.size)=true:=by rw[hw.1,hw.2];simp
 show wpAny _ _ (if (((oP MW.size 0 lo:Nat):Int)==0&&(1:Int)==1&&(oP MW.size MW.size hi - oP MW.size 0 lo)==MW.size)=true then _ else _) _ _ s;rw[bA yes];have hT:=ht.typeIs;obtain⟨hp,g,d,tk,o⟩:=s
 repeat (any_goals(first|assumption|wp_step))
 exact⟨_,rfl,bj h⟩
end HT
namespace L2
variable {X:Cx}{p p2 pos ND:Pos}{e:Expr}{te:TE}
section
def L9(K:mZ):V->Option Int->Option Int->Hp->VK->Prop:=λx lo hi H Q=>∃a xs,x=.ref a/\p9 K H a xs/\(HT.oP xs.length 0 lo=0/\HT.oP xs.length xs.length hi=xs.length)/\Q (.ref a) H
def HL:Kz X (L9 X.K):=by
 intro MV s Y H x v vl vu lo hi sl Q I rx hs pl pu h;obtain⟨a,xs,rfl,hx,hw,q⟩:=h;cases rx;obtain⟨its,r,ht,hz⟩:=I.tuple hx;have Na:its.toArray.size=xs.length:=by rw[bz];exact r.length.symm
 exact⟨"tuple",_,cS.lookup,ht.typeIs,HT.tX ht hs pl pu (by rw[Na];exact hw) ⟨.ref a,H,I,rfl,q⟩⟩
local instance (priority:=5000) keyBEq:BEq nS:=instBEqOfDecidableEq
local instance (priority:=5000) keyLaw:LawfulBEq nS:=inferInstanceAs (LawfulBEq (Sum Int Str))
def F5(K:mZ)(te:TE):TE:=λY H Q=>te Y H λx H1=>∃a,∃ss:QQQ,x=.ref a/\(qM K H1 a (ss.map V.str)\/p9 K H1 a (ss.map V.str))/\ss.length+1<scanBound/\Q (.int (nz ss).length) H1
def zF{P:Pg}{w:Wo}{ss:QQQ}{us:T0 Vl}(r:nj (ss.map V.str) us):us.length=ss.length/\∀(i:Nat) (v:Vl) (k:nS),us[i]?=some v->(ss.map λx=>(Sum.inr x:nS))[i]?=some k->(nK P w).is k v=true/\v.scannable=true:=by
 refine⟨by rw[<-r.length,bi],λi v k e1 e2=>?_⟩;rw[bJ]at e2;cases q:ss[i]? with
 | none=>rw[q]at e2;cases e2
 | some x=>rw[q]at e2;cases e2;obtain⟨u,e3,t,rfl⟩:=r.get (i:=i) (x:=V.str x) (by rw[bJ,q];rfl);rw[e3]at e1;cases e1;exact⟨uF P w x t,rfl⟩
def DE{ss:QQQ}:(nz (ss.map λx=>(Sum.inr x:nS))).length=(nz ss).length:=by
 have go:∀(l acc:QQQ),(l.map λx=>(Sum.inr x:nS)).foldl (λacc k=>if k∈acc then acc else acc++[k]) (acc.map Sum.inr)=(l.foldl (λacc k=>if k∈acc then acc else acc++[k]) acc).map Sum.inr:=by
  intro l;induction l with
  | nil=>intro acc;rfl
  | cons k r ih=>
   intro acc;rw[cb,dD,dD];have hm:(Sum.inr k:nS)∈acc.map Sum.inr↔k∈acc:=by
    rw[bP];constructor
    .rintro ⟨y,h1,h2⟩;cases h2;exact h1
    .exact λh=>⟨k,h,rfl⟩
   by_cases h:k∈acc
   .rw[bA h,bA (hm.mpr h)];exact ih acc
   .rw[bv h,bv λz=>h (hm.mp z)];have:=ih (acc++[k]);rw[b6]at this;exact this
 have:=go ss [];unfold nz;rw[jG]at this;rw[this,bi]
def CA(hc:X.calm=true)(he:PE X e te)(PU:Gl X "len")(MX:X.mg "len"=none)(Oy:Gl X "set")(Nj:X.mg "set"=none)(b1:bootBuiltins "len"=some (.builtin "len"))(b2:bootBuiltins "set"=some (.type "set")) (hs:starEach [e] X.env=[(false,eval e X.env)]:=by rfl):PE X (.Call (.Name "len" p) [.Call (.Name "set" p2) [e] [] ND] [] pos) (F5 X.K te):=by
 intro MV s Y H Q I h;refine du (qu I PU MX b1 ?_);refine eY ?_ rfl rfl;show wpAny _ _ (spliced ((false,eval (.Call (.Name "set" p2) [e] [] ND) X.env)::backTo pos (starEach [] X.env))) _ _ s;refine eX ?_;refine du (qu I Oy Nj b2 ?_);refine cP ?_ hs rfl;rw[hs];show wpAny _ _ (spliced ((false,eval e X.env)::backTo ND (starEach [] X.env))) _ _ s;refine eX (o6 (he MV s Y H _ I h) λu s1 ⟨x,H1,I1,r1,a,ss,ex,hq,hb,q⟩=>ft ?_);subst ex;obtain rfl:u=Value.ref a:=r1;have NI:(ss.map λx=>(Sum.inr x:nS)).length+1<scanBound:=by rw[bi];exact hb
 have fin:∀(h':Heap) (tk:Nat),h'.SetOf (nK X.prog X.w) s1.heap.objs.size (λx=>decide (x∈nz (ss.map λx=>(Sum.inr x:nS)))) (nz (ss.map λx=>(Sum.inr x:nS))).length->(∀b o,s1.heap.get? b=some o->h'.get? b=some o)->
   wpAny (model X.prog X.w) X.A (spliced (backTo pos (starEach [] X.env))) (λvs s₁=>wpAny (model X.prog X.w) X.A (call (.builtin "len") (.ref s1.heap.objs.size::vs)) (EP X MV Y Q) X.xe s₁) X.xe {s1 with heap:=h',toks:=tk}:=λh' tk hS keep=>by
  refine ft ?_;obtain⟨o,es,ep,t,ho,hex,hd,_,_,hz,hf,hn⟩:=hS;have Nd:(es.size:Int)<2 ^ 63:=by have:scanBound=4096:=rfl;lia
  refine call_len_set ho hex hd hf Nd ?_;refine⟨.int es.size,H1,I1.kept keep,⟨_,rfl⟩,?_⟩;rw[hn,DE];exact q
 rcases hq with hq|hq
 .obtain⟨its,r,pl,hz⟩:=I1.list hq;obtain⟨k1,k2⟩:=zF (P:=X.prog) (w:=X.w) r;exact L2.wQ (knd:=nK X.prog X.w) (all:=ss.map λx=>(Sum.inr x:nS)) (I1.ok.hd hc) pl.isList (by rw[bz,k1,bi]) (λi v k e1 e2=>k2 i v k (by simpa using e1) e2) NI fin
 .obtain⟨its,r,pl,hz⟩:=I1.tuple hq;obtain⟨k1,k2⟩:=zF (P:=X.prog) (w:=X.w) r;exact L2.vU (knd:=nK X.prog X.w) (all:=ss.map λx=>(Sum.inr x:nS)) (I1.ok.hd hc) pl (by rw[bz,k1,bi]) (λi v k e1 e2=>k2 i v k (by simpa using e1) e2) NI fin
end
variable {MV:T0 (Addr × Obj)}{Y:St}{H:Hp}{s:Sd}
theorem xt(I:Inv X MV Y H s):∀(ts:QXQ) (kvs:T0 (nS×V)),ts.length=kvs.length->(∀(j:Nat) (t:Addr) (p:nS×V),ts[j]?=some t->kvs[j]?=some p->p9 X.K H t [kV p.1,p.2])->
  ∃(us:T0 Vl) (all:T0 (nS×Vl)),us.length=kvs.length/\KV kvs all/\∀(j:Nat) (t:Addr) (p:nS×Vl),ts[j]?=some t->all[j]?=some p->∃u,us[j]?=some u/\s.heap.IsTuple t #[u,p.2]/\(nK X.prog X.w).is p.1 u=true
 | [],[],_,_=>⟨[],[],rfl,.nil,λj t p e=>by simp at e⟩
 | [],_::_,h,_=>by simp at h
 | _::_,[],h,_=>by simp at h
 | t::ts,(k,v)::kvs,h,hq=>by
  obtain⟨us,all,h1,h2,h3⟩:=xt I ts kvs (by simpa using h) (λj t p e1 e2=>hq (j+1) t p (by simpa using e1) (by simpa using e2));obtain⟨its,r,pl,_⟩:=I.tuple (hq 0 t (k,v) (by simp) (by simp));cases r with
  | cons r1 r2=>
   cases r2 with
   | cons r3 r4=>
    cases r4;rename_i u w;refine⟨u::us,(k,w)::all,by simpa using h1,.cons ⟨rfl,r3⟩ h2,λj t' p e1 e2=>?_⟩;cases j with
    | zero=>
     have e1':t=t':=by simpa using e1
     have OG:(k,w)=p:=by simpa using e2
     subst e1' OG;exact⟨u,by simp,pl,DX r1⟩
    | succ j=>simpa using h3 j t' p (by simpa using e1) (by simpa using e2)
theorem Eu:∀{kvs:T0 (nS×V)} {all:T0 (nS×Vl)},KV kvs all->all.map (·.1)=kvs.map (·.1)
 | _,_,.nil=>rfl
 | _,_,.cons r rs=>by rw[cb,cb,Eu rs,r.1]
def A4(hc:X.calm=true):sQ X (.type "dict") (λxs H Q=>∃l,∃ts:QXQ,∃kvs:T0 (nS×V),xs=[V.ref l]/\qM X.K H l (ts.map V.ref)/\ts.length=kvs.length/\
  (∀(j:Nat) (t:Addr) (p:nS×V),ts[j]?=some t->kvs[j]?=some p->p9 X.K H t [kV p.1,p.2])/\(kvs.map (·.1)).Nodup/\∀d,H d=none->Q (.ref d) (upd H d (.dK kvs))):=by
 intro MV s Y H xs us Q I r h;obtain⟨l,ts,kvs,rfl,hl,Na,hq,Pz,q⟩:=h;obtain⟨u,rfl,ru⟩:=sJ r;cases ru;obtain⟨its,rv,⟨⟨c1,d1,t1,sl1⟩,n,g1,e1,e2,e3⟩,hz⟩:=I.list hl;simp only at e1 e2 e3;subst e1 e2 e3;obtain⟨ks,all,h1,h2,h3⟩:=xt I ts kvs Na hq;have la:all.length=kvs.length:=(kM h2).symm;have li:its.length=kvs.length:=by rw[<-rv.length,bi,Na]
 have zl:all.length<=sizeLine:=by rw[la,<-Na];simpa using hz
 have at_:∀(j:Nat) (p:nS×Vl),all[j]?=some p->∃t,ts[j]?=some t:=λj p e=>by have:=(bI.mp e).1;exact⟨ts[j],bC (by lia)⟩
 refine uT (knd:=nK X.prog X.w) (all:=all) (λj=>(ks[j]?).getD .none) (λj=>(ts[j]?).getD 0) (I.ok.hd hc) g1 (λj v e=>?_) (by rw[bz,li,la]) (λj p e=>?_) (λj p e=>?_) zl λh' tk hD keep=>?_
 .have e':its[j]?=some v:=by simpa using e
  have hj:=(bI.mp e').1;have Oz:j<ts.length:=by lia
  obtain⟨w,e4,e5⟩:=rv.get (i:=j) (x:=V.ref ts[j]) (by rw[bJ,bC Oz];rfl);rw[e']at e4;cases e4;show v=Value.ref ((ts[j]?).getD 0);rw[bC Oz];exact e5
 .obtain⟨t,et⟩:=at_ j p e;obtain⟨u,e4,e5,_⟩:=h3 j t p et e;show s.heap.IsTuple ((ts[j]?).getD 0) #[(ks[j]?).getD .none,p.2];rw[et,e4];exact e5
 .obtain⟨t,et⟩:=at_ j p e;obtain⟨u,e4,_,e6⟩:=h3 j t p et e;show(nK X.prog X.w).is p.1 ((ks[j]?).getD .none)=true;rw[e4];exact e6
 .rw[merged_nil_of_nodup all (by rw[Eu h2];exact Pz)]at hD;have fr:=I.lA.fresh (bw s.heap.objs.size);exact⟨.ref s.heap.objs.size,_,I.laid (t':=tk) (o:=.dK kvs) keep (bw _) (IY (by rw[<-la];exact zl) (dX.mpr (bQ (bG I.big))) h2 hD),rfl,q _ fr⟩
def LU:R2:=λx y H Q=>∃a v,x=.ref a/\AU H a y (some v)/\Q v H
def B0(hu:X.A.units+1<cLine):JK X LU:=by
 intro value Nc MV s Y H x y o i Q I rx ry h hs;obtain⟨a,v,rfl,g,q⟩:=h;obtain rfl:o=Value.ref a:=rx;have hT:=zY I g;have h2:wpAny (model X.prog X.w) X.A (getItem (.ref a) i) (EP X MV Y Q) X.xe s:=C9 hu I g ry λw' s3 I3 OE=>⟨v,H,I3,OE,q⟩;unfold subscriptTail;refine bh ?_;rw[i9 hT.not_modules];refine bh (gK hT iw.lookup ?_);have fin:wpAny (model X.prog X.w) X.A (subscripted Nc false (.ref a) i) (λr s₃=>wpAny (model X.prog X.w) X.A (letTemporaryGo value (.ref a) r>>=λ_=>pure r) (EP X MV Y Q) X.xe s₃) X.xe s:=by rw[hs];exact wpAny_operating (cz h2 (λr s₃ h₃=>bh (jh (bj h₃))) λ_ _ x=>x)
 first
  | exact bj (bh fin)
  | exact bh (bj (bh fin))
  | exact bh fin
variable {prog:Pg}{w:Wo}{A:Ar}{E:QQX}{a:Addr}{U:Type}{k:Str}{tk:Tok}
section
variable {R:U→Vl→Prop}{D:T0 (Str × U)}
def sW(T:KTD.TabOf R s.heap a D):s.TypeIs (.ref a) "dict":=let⟨_,o,_,_,ho,hc,_⟩:=T;⟨o,ho,hc.1⟩
def BJ{Q:Option Vl->Sd->Prop}(T:KTD.TabOf R s.heap a D)(h1:∀d v,KTD.datumAt k D=some d->R d v->Q (some v) {s with toks:=s.toks+1})(h2:KTD.datumAt k D=none->Q none {s with toks:=s.toks+1}):
  wpAny (model prog w) A (dictGet a (.str k tk)) Q E s:=by
 obtain⟨_,o,es,ep,ho,hc,hd,hr⟩:=T;have hq:Q (findBy (λk v=>v.isStr k) es k) {s with toks:=s.toks+1}:=by
  have hf:findBy (λk v=>v.isStr k) es k=(es.toList.find? λe=>e.key.isStr k).map (·.val):=by obtain⟨l⟩:=es;simp[findBy]
  rw[hf];cases hat:KTD.datumAt k D with
  | none=>rw[hr.find_none hat];exact h2 hat
  | some d=>obtain⟨v,hv,hfl⟩:=hr.find_some hat;rw[hv];exact h1 d v hat hfl
 have Oe:(es.all λe=>isExactStrKey e.key)=true:=by
  obtain⟨l⟩:=es
  simpa using hr.exact
 unfold dictGet
 try with_reducible refine cE ?_
 refine bh (ka (bh (KTD.kt_dictFind_strs (s:={s with toks:=s.toks+1}) ho hd Oe ?_)));rw[findBy_of_findIdx?]at hq;cases hi:es.findIdx? λe=>e.key.isStr k with
 | none=>rw[hi]at hq;exact bj hq
 | some i=>rw[hi]at hq;exact bh (wpAny_dictEntries (s:={s with toks:=s.toks+1}) ho hd (bj hq))
def Ip{Q:QQX}(T:KTD.TabOf R s.heap a D)(h:Q (.bool (KTD.datumAt k D).isSome) {s with toks:=s.toks+1}):wpAny (model prog w) A (compareOp .In (.str k tk) (.ref a)) Q E s:=by
 have hT:=sW T;show wpAny _ _ (do return .bool (<-contains (.ref a) (.str k tk))) Q E s;refine bh ?_;unfold contains
 try with_reducible refine cE ?_
 refine bh (gK hT hW.lookup ?_);show wpAny _ _ (if (some (Value.builtin "dict.__contains__")==some Value.none)=true then _ else _) _ E s;rw[bv (by rw[beq_builtin_none];exact bN)];refine bh (wpAny_callSpecialUnlessNone?_slot (name:=Str.ofString "__contains__") hT hW (cq hW hT entry_dict_contains ?_ (args_dict_contains _ _)));show wpAny _ _ (dictGet a (.str k tk)>>=_) _ _ s;refine bh (BJ T (λd v ha _=>?_) λhn=>?_)
 .rw[ha]at h;show wpAny _ _ (ret (.bool true)) _ _ _;exact bj ⟨_,rfl,cW (bj h)⟩
 .rw[hn]at h;show wpAny _ _ (Builtin.Dict.pendingKey? a (.str k tk)>>=_) _ _ _;exact bh (wpAny_pendingKey_other T.1 (bj ⟨_,rfl,cW (bj h)⟩))
def DV{Q:QQX}{d:U}(T:KTD.TabOf R s.heap a D)(hd:KTD.datumAt k D=some d)(h:∀v,R d v->Q v {s with toks:=s.toks+1}):wpAny (model prog w) A (getItem (.ref a) (.str k tk)) Q E s:=by
 have hT:=sW T;unfold getItem
 try with_reducible refine cE ?_
 refine bh (ik hT (by decide) ?_);refine bh (cH (name:=Str.ofString "__getitem__") hT jN (cq jN hT entry_dict_getitem ?_ (args_dict_getitem _ _)));show wpAny _ _ (dictGet a (.str k tk)>>=_) _ _ s;refine bh (BJ T (λd' v ha hv=>bj ⟨v,rfl,bj (h v ?_)⟩) λhn=>?_)
 .rw[hd]at ha;cases ha;exact hv
 .rw[hd]at hn;cases hn
end
def Fu(K:mZ)(mg:QQZ)(x:Str)(F:T0 (Str×QQQ)):Prop:=∃a o es ep,mg x=some (.ref a)/\(a==sysModules)=false/\K.lookup a=some o/\o.ExactDict/\o.data=.dict es ep/\
 KTD.Rows (λ(ss:QQQ) v=>∃t,v=Value.ref t/\p9 K (λ_=>none) t (ss.map V.str)) es.toList F
variable {x:Str}{F:T0 (Str × QQQ)}
def BZ{K:mZ}{t:Addr}{xs:T0 V}{H:Hp}(h:p9 K (λ_=>none) t xs):p9 K H t xs:=by
 rcases h with(h|⟨o,h⟩)|h
 .cases h
 .cases h
 .exact .inr h
def zR{K:mZ}{mg:QQZ}(T:Fu K mg x F):∃a,mg x=some (.ref a)/\∀h:Heap,K.In h->KTD.TabOf (λ(ss:QQQ) v=>∃t,v=Value.ref t/\p9 K (λ_=>none) t (ss.map V.str)) h a F:=by obtain⟨a,o,es,ep,h1,h2,h3,h4,h5,h6⟩:=T;exact⟨a,h1,λh hk=>⟨h2,o,es,ep,hk a o h3,h4,h5,h6⟩⟩
noncomputable def L'(x:Str):It:=⟨λi _=>i<x.cps.size,λi H v H'=>H'=H/\∃c,x.cps[i]?=some c/\v=.str ⟨#[c]⟩,λi _=>i=x.cps.size⟩
def zm{P:Pg}{w:Wo}{K:mZ}{tg:Expr}{ty:String}{x:Str}{t:Tok}(it:Addr)(W:∀A':Ar,A'.handled=none->Walks P w A' it [it] [it] x.cps.size (SignAt x) (λi h=>h.IsStrIter it ty x t i)) (hself:∀(A:Ar) (i:Nat) (s:Sd) (Q:QQX) (E:QQX),s.heap.IsStrIter it ty x t i->Q (.ref it) s->wpAny (model P w) A (pyIter (.ref it)) Q E s) (hn:["enumerate","zip","dict_itemiterator","dict_reverseitemiterator","odict_iterator","itertools.zip_longest","itertools.pairwise"].contains ty=false):wG P w K tg (L' x) [it] it (λi h=>h.IsStrIter it ty x t i) where
 mem:=by simp
 obj:=λi h st b hb=>by
  obtain rfl:b=it:=by simpa using hb
  obtain⟨o,e,c,d⟩:=st;exact⟨o,e,λv z=>by rw[d]at z;cases z⟩
 keep:=λi h h' st k=>by obtain⟨o,e,r⟩:=st;exact⟨o,k it (by simp) o e,r⟩
 item:=by intro X hP hw hK hc i MV s Y H E I hf st hg;subst hP hw hK;obtain⟨f0,f1,f2,f3,f4,f5⟩:=hf it (by simp);refine(W X.A (I.ok.hd hc)).item i s _ _ hg st λv h' tk hv MY kp=>?_;obtain⟨c,u,e1,e2⟩:=hv;have I1:Inv X MV Y H {s with heap:=h',toks:=tk}:=I.turned (t':=tk) (λb o hb e=>kp b o (by simpa using hb) e) f0 f1 f3 f4 f5;obtain⟨o,e,cl,d⟩:=id MY;exact⟨v,rfl,Ab (s:={s with heap:=h',toks:=tk}) e cl d hn ⟨.str ⟨#[c]⟩,H,I1,⟨u,e2⟩,⟨rfl,c,e1,rfl⟩,MY,λb hb=>(hf b hb).1⟩⟩
 done:=by intro X hP hw hK hc i MV s Y H E I hf st hg;subst hP hw hK;obtain⟨f0,f1,f2,f3,f4,f5⟩:=hf it (by simp);obtain rfl:i=x.cps.size:=hg;exact(W X.A (I.ok.hd hc)).done s _ _ st λh' tk kp=>⟨rfl,I.turned (t':=tk) (λb o hb e=>kp b o (by simpa using hb) e) f0 f1 f3 f4 f5⟩
 self:=hself
variable {tg:Expr}
def Gj{l:Expr}{tl:TE}(hc:X.calm=true)(hl:PE X l tl):PI X tg l (λY H R=>tl Y H λx H1=>(∃a,x=.ref a/\(((∃xs,qM X.K H1 a xs)/\R (K5 X.K a) H1)\/((∃xs,p9 X.K H1 a xs)/\R (Lm X.K a) H1)))\/∃z,x=.str z/\R (L' z) H1):=by
 intro MV s Y H R I h;refine o6 (hl MV s Y H _ I h) λv s1 zz=>x5 zz λx H1 I1 r1 q1=>?_;rcases q1 with⟨a,e,q1⟩|⟨z,e,q⟩
 .subst e;cases r1;rcases q1 with⟨⟨xs,hq⟩,q⟩|⟨⟨xs,hq⟩,q⟩
  .obtain⟨its,rv,p,hz⟩:=I1.list hq;refine eG p.isList ?_;refine⟨s1.heap.objs.size,[s1.heap.objs.size],_,_,H1,rfl,I1.kept (t':=s1.toks) λb o e=>bp _ e,Ck a _,⟨_,bD _ rfl,rfl,rfl⟩,λb hb=>?_,q⟩;obtain rfl:b=s1.heap.objs.size:=by simpa using hb
   exact I1.lQ (bw _) (I1.lA.fresh (bw _))
  .obtain⟨its,rv,p,hz⟩:=I1.tuple hq;refine fh (show s1.heap.IsTuple a its.toArray from p) ?_;refine⟨s1.heap.objs.size,[s1.heap.objs.size],_,_,H1,rfl,I1.kept (t':=s1.toks) λb o e=>bp _ e,As a _,⟨_,bD _ rfl,rfl,rfl⟩,λb hb=>?_,q⟩;obtain rfl:b=s1.heap.objs.size:=by simpa using hb
   exact I1.lQ (bw _) (I1.lA.fresh (bw _))
 .subst e;obtain⟨t,rfl⟩:=r1;have fp:∀b∈[s1.heap.objs.size],ut X MV H1 b:=λb hb=>by
   obtain rfl:b=s1.heap.objs.size:=by simpa using hb
   exact I1.lQ (bw _) (I1.lA.fresh (bw _))
  cases ha:z.cps.all (·<128)
  .refine wpAny_pyIter_wide ha ?_;exact⟨s1.heap.objs.size,[s1.heap.objs.size],_,_,H1,rfl,I1.kept (t':=s1.toks) λb o e=>bp _ e,zm _ (λA' hA=>Walks.strWide hA _ z t) (λA i s Q E st h=>wpAny_pyIter_striter_wide st h) (by decide),⟨_,bD _ rfl,rfl,rfl⟩,fp,q⟩
  .refine wpAny_pyIter_ascii ha ?_;exact⟨s1.heap.objs.size,[s1.heap.objs.size],_,_,H1,rfl,I1.kept (t':=s1.toks) λb o e=>bp _ e,zm _ (λA' hA=>Walks.strAscii hA _ z t) (λA i s Q E st h=>wpAny_pyIter_striter_ascii st h) (by decide),⟨_,bD _ rfl,rfl,rfl⟩,fp,q⟩
end L2
namespace L2
inductive Fw{α0:Sort u}{α1:Sort v}(p:α0->α1->Prop):Prop
 | mk (a0:α0) (a1:α1) (h:p a0 a1):Fw p
inductive Bf{α0:Sort u}{α1:Sort v}{α2:Sort w}(p:α0->α1->α2->Prop):Prop
 | mk (a0:α0) (a1:α1) (a2:α2) (h:p a0 a1 a2):Bf p
def x7{α:Sort u}{β:Sort v}{γ:Sort w}{p q r s:α->β->γ->Prop}{C:Prop}(h:Bf λa b c=>p a b c/\q a b c/\r a b c/\s a b c)(f:∀a b c,p a b c->q a b c->r a b c->s a b c->C):C:=by obtain⟨a,b,c,h1,h2,h3,h4⟩:=h;exact f a b c h1 h2 h3 h4
def F8{α:Sort u}{β:Sort v}{γ:Sort w}{p q r s s1 s2 s3:α->β->γ->Prop}{C:Prop}(h:Bf λa b c=>p a b c/\q a b c/\r a b c/\s a b c/\s1 a b c/\s2 a b c/\s3 a b c)(f:∀a b c,p a b c->q a b c->r a b c->s a b c->s1 a b c->s2 a b c->s3 a b c->C):C:=by obtain⟨a,b,c,h1,h2,h3,h4,h5,h6,h7⟩:=h;exact f a b c h1 h2 h3 h4 h5 h6 h7
inductive Fz{α0:Sort u}{α1:Sort v}{α2:Sort w}{α3:Sort u1}(p:α0->α1->α2->α3->Prop):Prop
 | mk (a0:α0) (a1:α1) (a2:α2) (a3:α3) (h:p a0 a1 a2 a3):Fz p
inductive KY{α0:Sort u}{α1:Sort v}{α2:Sort w}{α3:Sort u1}{α4:Sort u2}(p:α0->α1->α2->α3->α4->Prop):Prop
 | mk (a0:α0) (a1:α1) (a2:α2) (a3:α3) (a4:α4) (h:p a0 a1 a2 a3 a4):KY p
inductive Lw{α0:Sort u}{α1:Sort v}{α2:Sort w}{α3:Sort u1}{α4:Sort u2}{α5:Sort u3}(p:α0->α1->α2->α3->α4->α5->Prop):Prop
 | mk (a0:α0) (a1:α1) (a2:α2) (a3:α3) (a4:α4) (a5:α5) (h:p a0 a1 a2 a3 a4 a5):Lw p
inductive Mu{α0:Sort u}{α1:Sort v}{α2:Sort w}{α3:Sort u1}{α4:Sort u2}{α5:Sort u3}{α6:Sort u4}(p:α0->α1->α2->α3->α4->α5->α6->Prop):Prop
 | mk (a0:α0) (a1:α1) (a2:α2) (a3:α3) (a4:α4) (a5:α5) (a6:α6) (h:p a0 a1 a2 a3 a4 a5 a6):Mu p
end L2
namespace L2
open PySem
end L2
namespace L3
open L2
inductive D where
 | lw|bl (b:Bool)|int (i:Int)|str (x:Str)|tup (ds:List D)|ref (a:Addr)|ty (n:String)
 | rl (ds:List D)
def FF(K:mZ)(H:Hp)(a:Addr)(xs:T0 V):Prop:=(∃o,H a=some (.frz o (.lst xs)))\/
 ∃(o:Obj) (its:Array Vl) (n:Nat),K.lookup a=some o/\o.cls=.type "list"/\o.dict=none/\o.data=.seq its n/\its.size<=sizeLine/\nj xs its.toList
def FF.sq{K:mZ}{H:Hp}{a:Addr}{xs:T0 V}(h:FF K H a xs):qM K H a xs:=by
 rcases h with⟨o,h⟩|h
 .exact .inl (.inr ⟨o,h⟩)
 .exact .inr h
mutual
def nR(K:mZ)(H:Hp):D->V->Prop
 | .lw,v=>v=.lw
 | .bl b,v=>v=.bl b
 | .int i,v=>v=.int i
 | .str x,v=>v=.str x
 | .ref a,v=>v=.ref a
 | .ty n,v=>v=.ty n
 | .tup ds,v=>∃a xs,v=.ref a/\p9 K H a xs/\mS K H ds xs
 | .rl ds,v=>∃a xs,v=.ref a/\FF K H a xs/\mS K H ds xs
def mS(K:mZ)(H:Hp):T0 D->T0 V->Prop
 | [],xs=>xs=[]
 | d::ds,xs=>∃x r,xs=x::r/\nR K H d x/\mS K H ds r
end
structure nA(K:mZ)(H H':Hp):Prop where
 t:∀a xs,p9 K H a xs->p9 K H' a xs
 f:∀a o xs,H a=some (.frz o (.lst xs))->H' a=some (.frz o (.lst xs))
def nA.refl{K:mZ}{H:Hp}:nA K H H:=⟨λ_ _ h=>h,λ_ _ _ h=>h⟩
def nA.trans{K:mZ}{H H1 H2:Hp}(a:nA K H H1)(b:nA K H1 H2):nA K H H2:=⟨λc xs h=>b.t c xs (a.t c xs h),λc o xs h=>b.f c o xs (a.f c o xs h)⟩
def nA.upd{K:mZ}{H:Hp}{p:Addr}{o:HO}(h:∀xs,¬Rd H p (.tup xs))(h':∀u xs,H p≠some (.frz u (.lst xs))):nA K H (upd H p o):=⟨λa xs q=>by
 rcases q with q|q
 .have ne:a≠p:=λz=>h xs (z ▸ q);rcases q with q|⟨u,q⟩
  .exact .inl (.inl (by rw[m7 ne];exact q))
  .exact .inl (.inr ⟨u,by rw[m7 ne];exact q⟩)
 .exact .inr q,λa u xs q=>by
 have ne:a≠p:=λz=>h' u xs (z ▸ q);rw[m7 ne];exact q⟩
def nA.new{K:mZ}{H:Hp}{p:Addr}{o:HO}(h:H p=none):nA K H (L2.upd H p o):=.upd (λxs q=>by
 rcases q with q|⟨u,q⟩<;>(rw[h]at q;cases q)) λu xs q=>by rw[h]at q;cases q
def FF.mono{K:mZ}{H H':Hp}{a:Addr}{xs:T0 V}(e:nA K H H')(h:FF K H a xs):FF K H' a xs:=by
 rcases h with⟨o,h⟩|h
 .exact .inl ⟨o,e.f a o xs h⟩
 .exact .inr h
mutual
theorem nR.mono{K:mZ}{H H':Hp}(e:nA K H H'):∀{d:D} {v:V},nR K H d v->nR K H' d v
 | .lw,_,h=>h
 | .bl _,_,h=>h
 | .int _,_,h=>h
 | .str _,_,h=>h
 | .ref _,_,h=>h
 | .ty _,_,h=>h
 | .tup ds,v,h=>by unfold nR at h ⊢;obtain⟨a,xs,e1,e2,e3⟩:=h;exact⟨a,xs,e1,e.t _ _ e2,mS.mono e e3⟩
 | .rl ds,v,h=>by unfold nR at h ⊢;obtain⟨a,xs,e1,e2,e3⟩:=h;exact⟨a,xs,e1,e2.mono e,mS.mono e e3⟩
theorem mS.mono{K:mZ}{H H':Hp}(e:nA K H H'):∀{ds:T0 D} {xs:T0 V},mS K H ds xs->mS K H' ds xs
 | [],_,h=>h
 | d::ds,xs,h=>by unfold mS at h ⊢;obtain⟨x,r,e1,e2,e3⟩:=h;exact⟨x,r,e1,nR.mono e e2,mS.mono e e3⟩
end
variable {K:mZ}{H H':Hp}
def mS.nil:mS K H [] []:=by unfold mS;rfl
def mS.cons{d:D}{ds:T0 D}{x:V}{xs:T0 V}(a:nR K H d x)(b:mS K H ds xs):mS K H (d::ds) (x::xs):=by unfold mS;exact⟨x,xs,rfl,a,b⟩
def mS.inv{d:D}{ds:T0 D}{xs:T0 V}(h:mS K H (d::ds) xs):∃x r,xs=x::r/\nR K H d x/\mS K H ds r:=by unfold mS at h;exact h
def mS.nil_inv{xs:T0 V}(h:mS K H [] xs):xs=[]:=by unfold mS at h;exact h
theorem mS.length:∀{ds:T0 D} {xs:T0 V},mS K H ds xs->ds.length=xs.length
 | [],_,h=>by rw[h.nil_inv];rfl
 | d::ds,_,h=>by obtain⟨x,r,rfl,_,e⟩:=h.inv;simp[mS.length e]
theorem mS.get:∀{ds:T0 D} {xs:T0 V} {i:Nat} {d:D},mS K H ds xs->ds[i]?=some d->∃x,xs[i]?=some x/\nR K H d x
 | [],_,_,_,_,e=>by simp at e
 | d::ds,_,0,_,h,e=>by obtain⟨x,r,rfl,a,_⟩:=h.inv;simp at e;subst e;exact⟨x,by simp,a⟩
 | d::ds,_,i+1,_,h,e=>by obtain⟨x,r,rfl,_,b⟩:=h.inv;obtain⟨y,e1,e2⟩:=mS.get b (by simpa using e);exact⟨y,by simpa using e1,e2⟩
theorem mS.append:∀{ds es:T0 D} {xs ys:T0 V},mS K H ds xs->mS K H es ys->mS K H (ds++es) (xs++ys)
 | [],_,_,_,h,g=>by rw[h.nil_inv];exact g
 | d::ds,_,_,_,h,g=>by obtain⟨x,r,rfl,a,b⟩:=h.inv;exact .cons a (mS.append b g)
theorem mS.take:∀{ds:T0 D} {xs:T0 V} (n:Nat),mS K H ds xs->mS K H (ds.take n) (xs.take n)
 | _,_,0,_=>by simp only[List.take_zero];exact .nil
 | [],_,n+1,h=>by rw[h.nil_inv];exact .nil
 | d::ds,_,n+1,h=>by obtain⟨x,r,rfl,a,b⟩:=h.inv;exact .cons a (mS.take n b)
theorem mS.drop:∀{ds:T0 D} {xs:T0 V} (n:Nat),mS K H ds xs->mS K H (ds.drop n) (xs.drop n)
 | _,_,0,h=>h
 | [],_,n+1,h=>by rw[h.nil_inv];exact .nil
 | d::ds,_,n+1,h=>by obtain⟨x,r,rfl,a,b⟩:=h.inv;exact mS.drop n b
def mS.snoc{ds:T0 D}{xs:T0 V}{d:D}{x:V}(h:mS K H ds xs)(a:nR K H d x):mS K H (ds++[d]) (xs++[x]):=h.append (.cons a .nil)
theorem mS.ints:∀{ns:T0 Int},mS K H (ns.map D.int) (ns.map V.int)
 | []=>.nil
 | n::r=>.cons (by unfold nR;rfl) mS.ints
def nR.tup{ds:T0 D}{a:Addr}{xs:T0 V}(q:p9 K H a xs)(h:mS K H ds xs):nR K H (.tup ds) (.ref a):=by unfold nR;exact⟨a,xs,rfl,q,h⟩
def nR.lm{ds:T0 D}{v:V}(h:nR K H (.tup ds) v):∃a xs,v=.ref a/\p9 K H a xs/\mS K H ds xs:=by unfold nR at h;exact h
def nR.lC{ds:T0 D}{v:V}(h:nR K H (.rl ds) v):∃a xs,v=.ref a/\FF K H a xs/\mS K H ds xs:=by unfold nR at h;exact h
def nR.int{i:Int}:nR K H (.int i) (.int i):=by unfold nR;rfl
def nR.bl{i:Bool}:nR K H (.bl i) (.bl i):=by unfold nR;rfl
def nR.str{i:Str}:nR K H (.str i) (.str i):=by unfold nR;rfl
def nR.ref{i:Addr}:nR K H (.ref i) (.ref i):=by unfold nR;rfl
def nR.lw:nR K H .lw .lw:=by unfold nR;rfl
def nR.int_inv{i:Int}{v:V}(h:nR K H (.int i) v):v=.int i:=by unfold nR at h;exact h
def nR.lh{i:Bool}{v:V}(h:nR K H (.bl i) v):v=.bl i:=by unfold nR at h;exact h
def nR.str_inv{i:Str}{v:V}(h:nR K H (.str i) v):v=.str i:=by unfold nR at h;exact h
def nR.k8{i:Addr}{v:V}(h:nR K H (.ref i) v):v=.ref i:=by unfold nR at h;exact h
def nR.lU{i:String}{v:V}(h:nR K H (.ty i) v):v=.ty i:=by unfold nR at h;exact h
def nR.lg{v:V}(h:nR K H .lw v):v=.lw:=by unfold nR at h;exact h
inductive qp where
 | lst (ds:List D)
 | ins (C:Addr) (fs:List (Str×D))
 | dk (kvs:List (nS×D))
 | exc (φ:Heap->Prop)
 | fd (ob:Obj) (kvs:List (nS×D))
abbrev Mp:=Addr->Option qp
noncomputable def mN(M:Mp)(a:Addr)(c:qp):Mp:=λb=>if b=a then some c else M b
def mM{M:Mp}{a:Addr}{c:qp}:mN M a c a=some c:=by unfold mN;rw[bA rfl]
def nv{M:Mp}{a b:Addr}{c:qp}(h:b≠a):mN M a c b=M b:=by unfold mN;rw[bv h]
def nN{M:Mp}{a:Addr}{c d:qp}:mN (mN M a c) a d=mN M a d:=by funext b;unfold mN;split<;>rfl
def JF{M:Mp}{a b:Addr}{c:qp}(h:M a=some c)(h':M b=none):a≠b:=by intro e;subst e;rw[h]at h';cases h'
def wb(K:mZ)(H:Hp)(fs:T0 (Str×D))(vs:T0 (Str×V)):Prop:=vs.map (·.1)=fs.map (·.1)/\mS K H (fs.map (·.2)) (vs.map (·.2))
def r6(K:mZ)(H:Hp)(a:Addr):qp->Prop
 | .lst ds=>∃xs,H a=some (.lst xs)/\mS K H ds xs
 | .ins C fs=>∃dx vs,H a=some (.ins C dx vs)/\Cls K C/\(∀f,f∈fs.map (·.1)->pP K C f)/\wb K H fs vs
 | .dk kvs=>∃vs,H a=some (.dK vs)/\vs.map (·.1)=kvs.map (·.1)/\mS K H (kvs.map (·.2)) (vs.map (·.2))
 | .exc φ=>H a=some (.ext φ)
 | .fd ob kvs=>∃vs,H a=some (.frz ob (.dK vs))/\vs.map (·.1)=kvs.map (·.1)/\mS K H (kvs.map (·.2)) (vs.map (·.2))
def HM(K:mZ)(H:Hp)(M:Mp):Prop:=∀a c,M a=some c->r6 K H a c
variable {M:Mp}
def wb.mono{fs:T0 (Str×D)}{vs:T0 (Str×V)}(e:nA K H H')(h:wb K H fs vs):wb K H' fs vs:=⟨h.1,h.2.mono e⟩
def r6.keep{a:Addr}{c:qp}(e:nA K H H')(k:H' a=H a)(h:r6 K H a c):r6 K H' a c:=by
 cases c with
 | lst ds=>obtain⟨xs,e1,e2⟩:=h;exact⟨xs,by rw[k];exact e1,e2.mono e⟩
 | ins C fs=>obtain⟨dx,vs,e1,c,n,e2⟩:=h;exact⟨dx,vs,by rw[k];exact e1,c,n,e2.mono e⟩
 | dk kvs=>obtain⟨vs,e1,e2,e3⟩:=h;exact⟨vs,by rw[k];exact e1,e2,e3.mono e⟩
 | exc C=>exact k.trans h
 | fd ob kvs=>obtain⟨vs,e1,e2,e3⟩:=h;exact⟨vs,by rw[k];exact e1,e2,e3.mono e⟩
def r6.there{a:Addr}{c:qp}(h:r6 K H a c):∃o,H a=some o/\(∀xs,¬Rd H a (.tup xs))/\∀u xs,H a≠some (.frz u (.lst xs)):=by
 have go:∀o,H a=some o->(∀xs,o≠.tup xs)->(∀u v,o≠.frz u v)->∃o,H a=some o/\(∀xs,¬Rd H a (.tup xs))/\∀u xs,H a≠some (.frz u (.lst xs)):=λo e n1 n2=>⟨o,e,λxs q=>by
  rcases q with q|⟨u,q⟩
  .rw[e]at q;exact n1 xs (bH q)
  .rw[e]at q;exact n2 u _ (bH q),λu xs q=>by rw[e]at q;exact n2 u _ (bH q)⟩
 cases c with
 | lst ds=>obtain⟨xs,e1,e2⟩:=h;exact go _ e1 (λ_ z=>by cases z) λ_ _ z=>by cases z
 | ins C fs=>obtain⟨dx,vs,e1,e2⟩:=h;exact go _ e1 (λ_ z=>by cases z) λ_ _ z=>by cases z
 | dk kvs=>obtain⟨vs,e1,e2,e3⟩:=h;exact go _ e1 (λ_ z=>by cases z) λ_ _ z=>by cases z
 | exc C=>exact go _ h (λ_ z=>by cases z) λ_ _ z=>by cases z
 | fd ob kvs=>obtain⟨vs,e1,_⟩:=h;exact⟨_,e1,λxs q=>by rcases q with q|⟨u,q⟩<;>(rw[e1]at q;cases q),λu xs q=>by rw[e1]at q;cases q⟩
def HM.fresh(h:HM K H M){p:Addr}(n:H p=none):M p=none:=by
 cases e:M p with
 | none=>rfl
 | some c=>obtain⟨o,q,_⟩:=(h p c e).there;rw[n]at q;cases q
def HM.keep(h:HM K H M)(e:nA K H H')(k:∀a c,M a=some c->H' a=H a):HM K H' M:=λa c q=>(h a c q).keep e (k a c q)
def HM.add(h:HM K H M){p:Addr}{o:HO}(n:H p=none):HM K (upd H p o) M:=h.keep (.new n) λa c q=>by obtain⟨u,e,_⟩:=(h a c q).there;rw[m7 (nu e n)]
def HM.new(h:HM K H M){p:Addr}{o:HO}{c:qp}(n:H p=none)(ok:r6 K (upd H p o) p c):HM K (upd H p o) (mN M p c):=λa d q=>by
 by_cases e:a=p
 .subst e;rw[mM]at q;cases q;exact ok
 .rw[nv e]at q;exact h.add n a d q
def HM.put(h:HM K H M){p:Addr}{o:HO}{c c0:qp}(e0:M p=some c0)(ok:nA K H (upd H p o)->r6 K (upd H p o) p c):HM K (upd H p o) (mN M p c)/\nA K H (upd H p o):=by
 obtain⟨u,eu,nt,nf⟩:=(h p c0 e0).there;have x:nA K H (upd H p o):=.upd nt nf;refine⟨λa d q=>?_,x⟩;by_cases e:a=p
 .subst e;rw[mM]at q;cases q;exact ok x
 .rw[nv e]at q;exact(h a d q).keep x (m7 e)
abbrev St:=L2.St
abbrev qD:=T0 (Option D)
abbrev DK:=D->Mp->Prop
abbrev T3:=qD->Mp->DK->Prop
abbrev wI:=qD->Mp->(Bool->Mp->Prop)->Prop
abbrev rN:=qD->Mp->(T0 D->Mp->Prop)->Prop
structure zS where
 nx:qD->Mp->Prop
 rt:DK
 bk:qD->Mp->Prop:=λ_ _=>False
 ct:qD->Mp->Prop:=λ_ _=>False
abbrev ui:=zS->qD->Mp->Prop
def u6(K:mZ)(H:Hp)(Y:St)(U:qD):Prop:=∀(i:Nat) (d:D),U[i]?=some (some d)->∃v,Y[i]?=some (some v)/\nR K H d v
def u6.mono{K:mZ}{H H':Hp}{Y:St}{U:qD}(e:nA K H H')(h:u6 K H Y U):u6 K H' Y U:=λi d q=>by obtain⟨v,e1,e2⟩:=h i d q;exact⟨v,e1,e2.mono e⟩
def u6.set{K:mZ}{H:Hp}{Y:St}{U:qD}{i:Nat}{d:D}{v:V}(h:u6 K H Y U)(hv:nR K H d v)(hi:i<Y.length):u6 K H (Y.set i (some v)) (U.set i (some d)):=λj e q=>by
 by_cases hj:j=i
 .subst hj;rw[fi hi];by_cases hl:j<U.length
  .rw[fi hl]at q;cases q;exact⟨v,rfl,hv⟩
  .rw[dn (by simpa using hl)]at q;cases q
 .rw[gI (bQ hj)]at q ⊢;exact h j e q
def lo(K:mZ)(t:T3):TE:=λY H Q'=>Bf λU M Q=>u6 K H Y U/\HM K H M/\t U M Q/\∀v H' d M',nR K H' d v->HM K H' M'->nA K H H'->Q d M'->Q' v H'
def JG(K:mZ)(t:wI):TT:=λY H Q'=>Bf λU M Q=>u6 K H Y U/\HM K H M/\t U M Q/\∀b H' M',HM K H' M'->nA K H H'->Q b M'->Q' b H'
def Mh(K:mZ)(t:rN):TA:=λY H Q'=>Bf λU M Q=>u6 K H Y U/\HM K H M/\t U M Q/\∀vs H' ds M',mS K H' ds vs->HM K H' M'->nA K H H'->Q ds M'->Q' vs H'
def LN(K:mZ)(t:ui):TS:=λD' Y H=>Bf λU M D=>u6 K H Y U/\HM K H M/\t D U M/\(∀σ' H' δ' M',u6 K H' σ' δ'->HM K H' M'->nA K H H'->σ'.length=Y.length->D.nx δ' M'->D'.nx σ' H')/\
 (∀v H' d M',nR K H' d v->HM K H' M'->nA K H H'->D.rt d M'->D'.rt v H')/\(∀σ' H' δ' M',u6 K H' σ' δ'->HM K H' M'->nA K H H'->σ'.length=Y.length->D.bk δ' M'->D'.bk σ' H')/\
 (∀σ' H' δ' M',u6 K H' σ' δ'->HM K H' M'->nA K H H'->σ'.length=Y.length->D.ct δ' M'->D'.ct σ' H')
def E3(X:Cx)(e:Expr)(t:T3):Prop:=PE X e (lo X.K t)
def B3(X:Cx)(e:Expr)(t:wI):Prop:=PT X e (JG X.K t)
def A3(X:Cx)(es:T0 Expr)(t:rN):Prop:=PA X es (Mh X.K t)
def S3(X:Cx)(st:Stmt)(t:ui):Prop:=PS X st (LN X.K t)
def Ee(X:Cx)(st:T0 Stmt)(t:ui):Prop:=xU X st (LN X.K t)
def PE.mono{X:Cx}{e:Expr}{t t':TE}(h:PE X e t)(m:∀Y H Q,t' Y H Q->t Y H Q):PE X e t':=λMV s Y H Q I q=>h MV s Y H Q I (m Y H Q q)
def PT.mono{X:Cx}{e:Expr}{t t':TT}(h:PT X e t)(m:∀Y H Q,t' Y H Q->t Y H Q):PT X e t':=λMV s Y H Q I q=>h MV s Y H Q I (m Y H Q q)
def PA.mono{X:Cx}{e:T0 Expr}{t t':TA}(h:PA X e t)(m:∀Y H Q,t' Y H Q->t Y H Q):PA X e t':=λpos MV s Y H Q I q=>h pos MV s Y H Q I (m Y H Q q)
def PS.mono{X:Cx}{e:Stmt}{t t':TS}(h:PS X e t)(m:∀D Y H,t' D Y H->t D Y H):PS X e t':=λMV s Y H D I q=>h MV s Y H D I (m D Y H q)
def xU.mono{X:Cx}{e:T0 Stmt}{t t':TS}(h:xU X e t)(m:∀D Y H,t' D Y H->t D Y H):xU X e t':=λMV s Y H D I q=>h MV s Y H D I (m D Y H q)
def PS.lX{X:Cx}{e:Stmt}{t t':TS}(h:PS X e t)(m:∀D Y H,Y.length=X.N.length->t' D Y H->t D Y H):PS X e t':=λMV s Y H D I q=>h MV s Y H D I (m D Y H I.len q)
def sH{K:mZ}{H H1:Hp}{Q':VK}{Q:DK}(x:nA K H H1)(f:∀v H' d M',nR K H' d v->HM K H' M'->nA K H H'->Q d M'->Q' v H'):∀v H' d M',nR K H' d v->HM K H' M'->nA K H1 H'->Q d M'->Q' v H':=
 λv H' d M' a b c e=>f v H' d M' a b (x.trans c) e
variable {X:Cx}{pos:Pos}
def v3(i:Nat):T3:=λU M Q=>(U.getD i none).elim False λd=>Q d M
def Ct{U:qD}{i:Nat}{P:D->Prop}(h:(U.getD i none).elim False P):∃d,U[i]?=some (some d)/\P d:=by
 cases e:U[i]? with
 | none=>rw[dJ,e]at h;exact h.elim
 | some o=>
  rw[dJ,e]at h;cases o with
  | none=>exact h.elim
  | some d=>exact⟨d,rfl,h⟩
def HK(i:Nat){x:Str}(h:PE X (.Name x pos) (Jz i)):E3 X (.Name x pos) (v3 i):=PE.mono h λY H Q' zz=>x7 zz λU M Q hs hm ht k=>by obtain⟨d,e,q⟩:=Ct ht;obtain⟨v,e1,e2⟩:=hs i d e;exact⟨v,e1,k v H d M e2 hm .refl q⟩
def c3(d:D):T3:=λ_ M Q=>Q d M
def mJ{i j}:E3 X (.Constant (.int i) j pos) (c3 (.int i)):=PE.mono Iy λY H Q' zz=>x7 zz λU M Q hs hm ht k=>k _ H _ M .int hm .refl ht
def uK{i j}:E3 X (.Constant (.bool i) j pos) (c3 (.bl i)):=PE.mono Ky λY H Q' zz=>x7 zz λU M Q hs hm ht k=>k _ H _ M .bl hm .refl ht
def mV{i j}:E3 X (.Constant (.str i) j pos) (c3 (.str i)):=PE.mono Jy λY H Q' zz=>x7 zz λU M Q hs hm ht k=>k _ H _ M .str hm .refl ht
def Be{j}:E3 X (.Constant .none j pos) (c3 .lw):=PE.mono Io λY H Q' zz=>x7 zz λU M Q hs hm ht k=>k _ H _ M .lw hm .refl ht
def Hx{x:Str}{n:String}(hg:Gl X x)(hm:X.mg x=none)(hv:bootBuiltins x=some (.type n))(hn:x≠"__name__":=by decide)(hd:ve x:=by decide):E3 X (.Name x pos) (c3 (.ty n)):=
 PE.mono (FX (v:=.ty n) hg hm hv rfl hn hd) λY H Q' zz=>x7 zz λU M Q hs hm ht k=>k _ H _ M (by unfold nR;rfl) hm .refl ht
noncomputable def md(M:Mp)(a:Addr):Option (T0 D):=match M a with
 | some (.lst ds)=>some ds
 | _=>none
noncomputable def tf(x:Str)(n:Int):Str:=⟨(List.replicate n.toNat x.cps).foldl (·++·) #[]⟩
def Ls(op:Operator)(x y:D)(M:Mp)(Q:DK):Prop:=match op,x,y with
 | .Add,.int i,.int j=>Q (.int (i+j)) M
 | .Add,.str i,.str j=>i.length+j.length<=sizeLine/\Q (.str (i++j)) M
 | .Add,.tup i,.tup j=>i≠[]/\i.length+j.length<=sizeLine/\Q (.tup (i++j)) M
 | .Add,.ref a,.ref b=>(md M a).elim False λi=>(md M b).elim False λj=>i.length+j.length<=sizeLine/\∀p,M p=none->Q (.ref p) (mN M p (.lst (i++j)))
 | .Add,.rl i,.ref b=>(md M b).elim False λj=>i.length+j.length<=sizeLine/\∀p,M p=none->Q (.ref p) (mN M p (.lst (i++j)))
 | .Sub,.int i,.int j=>Q (.int (i - j)) M
 | .Mult,.int i,.int j=>xZ i j/\Q (.int (i*j)) M
 | .Mult,.str i,.int j=>(j<4096/\-4096<j/\i.length<4096)/\Q (.str (tf i j)) M
 | .FloorDiv,.int i,.int j=>J6 i j/\Q (.int (i / j)) M
 | .Mod,.int i,.int j=>0<j/\Q (.int (i % j)) M
 | _,_,_=>False
def o3(op:Operator)(ta tb:T3):T3:=λU M Q=>ta U M λx M1=>tb U M1 λy M2=>Ls op x y M2 Q
def Up(K:mZ)(H:Hp)(Q':VK)(Q:DK):Prop:=∀v H' d M',nR K H' d v->HM K H' M'->nA K H H'->Q d M'->Q' v H'
variable {ta tb:T3}
section
def mL{K:mZ}{H:Hp}{M:Mp}{a:Addr}{ds:T0 D}(hm:HM K H M)(h:md M a=some ds):∃xs,qM K H a xs/\mS K H ds xs/\Rd H a (.lst xs):=by
 unfold md at h;cases e:M a with
 | none=>rw[e]at h;cases h
 | some c=>
  rw[e]at h;have ok:=hm a c e;cases c with
  | lst es=>cases h;obtain⟨xs,e1,e2⟩:=ok;exact⟨xs,.inl (.inl e1),e2,.inl e1⟩
  | ins _ _=>cases h
  | dk _=>cases h
  | exc _=>cases h
  | fd _ _=>cases h
def ny{α:Type}{o:Option α}{P:α->Prop}(h:o.elim False P):∃a,o=some a/\P a:=by
 cases o with
 | none=>exact h.elim
 | some a=>exact⟨a,rfl,h⟩
def BE:rH X (binaryOp .Add) (λx y H Q=>∃l b xs zs,x=.ref l/\y=.ref b/\qM X.K H l xs/\qM X.K H b zs/\xs.length+zs.length<=sizeLine/\∀p,H p=none->Q (.ref p) (upd H p (.lst (xs++zs)))):=by
 intro MV s Y H x y v u Q I rx ry h;obtain⟨l,b,xs,zs,rfl,rfl,hH,hB,hz,q⟩:=h;cases rx;cases ry;obtain⟨its,r,⟨⟨c1,d1,t1,sl1⟩,n,g1,e1,_,f1⟩,_⟩:=I.list hH;obtain⟨NV,r2,⟨⟨c2,d2,t2,sl2⟩,m,g2,e2,_,f2⟩,_⟩:=I.list hB;simp only at e1 f1 e2 f2;subst e1 f1 e2 f2;have hl:=r.length;have O5:=r2.length;refine jD ⟨_,g1,rfl⟩ ⟨_,g2,rfl⟩ noFill_list_add seq_list_add PySem.F.slot_list_add PySem.F.entry_list_add (PySem.F.args_list_add_2 _ _) (list_addW l b its.toArray NV.toArray n m d1 d2 sl1 sl2 (by rw[bz,bz];lia)) ⟨g1,g2,?_⟩;have ea:its.toArray++NV.toArray=(its++NV).toArray:=by simp
 rw[ea];exact⟨.ref _,_,I.lnew (t':=s.toks) (r.append r2) (by rw[bF];lia),rfl,q _ I.fresh⟩
def BI(x:Array Nat):∀k,((List.replicate k x).foldl (·++·) #[]:Array Nat).size=k*x.size:=by
 have go:∀(k:Nat) (acc:Array Nat),((List.replicate k x).foldl (·++·) acc).size=acc.size+k*x.size:=by
  intro k;induction k with
  | zero=>intro acc;simp
  | succ k ih=>intro acc;rw[dY,dD,ih,Array.size_append,kT];lia
 intro k;rw[go];simp
def GG:rH X (binaryOp .Mult) (λx y H Q=>∃i j,x=.str i/\y=.int j/\(j<4096/\-4096<j/\i.length<4096)/\Q (.str (tf i j)) H):=by
 intro MV s Y H x y v u Q I rx ry h;obtain⟨i,j,rfl,rfl,⟨h1,h2,h3⟩,q⟩:=h;obtain⟨t,rfl⟩:=rx;obtain⟨t',rfl⟩:=ry;refine PySem.P.mul_str ?_ ?_ ?_ ?_
 .rw[cB (by lia),cB (by lia)];rfl
 .intro h0 _;have:(4096:Int)<=(2 ^ 63 - 1) / j:=by
   have:(4096:Int)*j<=2 ^ 63 - 1:=by lia
   exact(Int.le_ediv_iff_mul_le (by lia)).mpr this
  lia
 .intro h0 _;have hm:i.length*j.toNat<=4096*4096:=kK (by lia) (by lia);have hz:=b7;unfold Builtin.Str.tooLong;exact cB (by lia)
 .by_cases h0:j<1
  .rw[bA h0];have e:tf i j=Str.empty:=by unfold tf;rw[show j.toNat=0 by lia];rfl
   rw[e]at q;exact⟨by decide,⟨.str Str.empty,H,I.tok _,⟨_,rfl⟩,q⟩⟩
  .rw[bv h0];by_cases hj:(j==1||i.length==0)=true
   .rw[bA hj];have e:tf i j=i:=by
     have NC:j=1\/i.length=0:=by simpa using hj
     unfold tf;rcases NC with z|z
     .subst z;show(⟨#[]++i.cps⟩:Str)=i;simp
     .have ec:i.cps=#[]:=Array.size_eq_zero_iff.mp z;have er:∀k:Nat,((List.replicate k (#[]:Array Nat)).foldl (·++·) #[]:Array Nat)=#[]:=by
       intro k;induction k with
       | zero=>rfl
       | succ k ih=>rw[dY,dD];simpa using ih
      rw[ec,er,<-ec]
    rw[e]at q;exact⟨.str i,H,I,⟨t,rfl⟩,q⟩
   .rw[bv hj];refine⟨?_,⟨.str _,H,I.tok _,⟨_,rfl⟩,q⟩⟩;have hz:=b7;have hm:j.toNat*i.length<=4096*4096:=kK (by lia) (by lia);show((List.replicate j.toNat i.cps).foldl (·++·) #[]:Array Nat).size<=_;rw[BI];have OO:j.toNat*i.cps.size<=4096*4096:=hm;lia
def R3(K:mZ)(f:D->D->Mp->DK->Prop):R2:=λvx vy H Q'=>Fz λx y M Q=>nR K H x vx/\nR K H y vy/\HM K H M/\f x y M Q/\Up K H Q' Q
def MF(op:Operator):rH X (binaryOp op) (R3 X.K (Ls op)):=by
 intro MV s Y H vx vy v u Q' I rx ry h;obtain⟨x,y,M,Q,hx,hy,hm,q,k⟩:=h;unfold Ls at q;split at q
 .cases hx.int_inv;cases hy.int_inv;exact IP MV s Y H _ _ v u Q' I rx ry ⟨_,_,rfl,rfl,k _ _ _ _ .int hm .refl q⟩
 .cases hx.str_inv;cases hy.str_inv;exact AK MV s Y H _ _ v u Q' I rx ry ⟨_,_,rfl,rfl,q.1,k _ _ _ _ .str hm .refl q.2⟩
 .rename_i i j;obtain⟨q1,q2,q3⟩:=q;obtain⟨a,xs,rfl,ha,Pd⟩:=hx.lm;obtain⟨b,ys,rfl,hb,NI⟩:=hy.lm;have l1:=Pd.length;have l2:=NI.length;refine Gh MV s Y H _ _ v u Q' I rx ry ⟨a,b,xs,ys,rfl,rfl,ha,hb,λz=>q1 (by rw[z]at l1;exact dW.mp l1),by lia,λz=>?_,λz p hp=>?_⟩
  .refine k _ _ _ _ (.tup ha ?_) hm .refl q3;rw[z]at NI;have e0:j=[]:=dW.mp (by simpa using NI.length);rw[e0,b5];exact Pd
  .have e:nA X.K H (upd H p (.tup (xs++ys))):=.new hp;exact k _ _ _ _ (.tup (.of mY) ((Pd.append NI).mono e)) (hm.add hp) e q3
 .obtain⟨i,ei,q⟩:=ny q;obtain⟨j,ej,q1,q2⟩:=ny q;cases hx.k8;cases hy.k8;obtain⟨xs,rx',PV,_⟩:=mL hm ei;obtain⟨ys,ry',hys,_⟩:=mL hm ej;have l1:=PV.length;have l2:=hys.length;refine BE MV s Y H _ _ v u Q' I rx ry ⟨_,_,xs,ys,rfl,rfl,rx',ry',by lia,λp hp=>?_⟩;have e:nA X.K H (upd H p (.lst (xs++ys))):=.new hp;exact k _ _ _ _ .ref (hm.new (c:=.lst (i++j)) hp ⟨_,mY,(PV.append hys).mono e⟩) e (q2 p (hm.fresh hp))
 .obtain⟨j,ej,q1,q2⟩:=ny q;obtain⟨l,xs,rfl,rx',PV⟩:=hx.lC;cases hy.k8;obtain⟨ys,ry',hys,_⟩:=mL hm ej;have l1:=PV.length;have l2:=hys.length;refine BE MV s Y H _ _ v u Q' I rx ry ⟨_,_,xs,ys,rfl,rfl,rx'.sq,ry',by lia,λp hp=>?_⟩;have e:nA X.K H (upd H p (.lst (xs++ys))):=.new hp;exact k _ _ _ _ .ref (hm.new (c:=.lst (_++j)) hp ⟨_,mY,(PV.append hys).mono e⟩) e (q2 p (hm.fresh hp))
 .cases hx.int_inv;cases hy.int_inv;exact IC MV s Y H _ _ v u Q' I rx ry ⟨_,_,rfl,rfl,k _ _ _ _ .int hm .refl q⟩
 .cases hx.int_inv;cases hy.int_inv;exact HR MV s Y H _ _ v u Q' I rx ry ⟨_,_,rfl,rfl,q.1,k _ _ _ _ .int hm .refl q.2⟩
 .cases hx.str_inv;cases hy.int_inv;exact GG MV s Y H _ _ v u Q' I rx ry ⟨_,_,rfl,rfl,q.1,k _ _ _ _ .str hm .refl q.2⟩
 .cases hx.int_inv;cases hy.int_inv;exact Gn MV s Y H _ _ v u Q' I rx ry ⟨_,_,rfl,rfl,q.1,k _ _ _ _ .int hm .refl q.2⟩
 .cases hx.int_inv;cases hy.int_inv;exact IX MV s Y H _ _ v u Q' I rx ry ⟨_,_,rfl,rfl,q.1,k _ _ _ _ .int hm .refl q.2⟩
 .exact q.elim
variable {a b:Expr}
def wN{f:D->D->Mp->DK->Prop}:∀Y H Q',lo X.K (λU M Q=>ta U M λx M1=>tb U M1 λy M2=>f x y M2 Q) Y H Q'->JT (R3 X.K f) (lo X.K ta) (lo X.K tb) Y H Q':=λY H Q' zz=>x7 zz λU M Q hs hm ht k=>⟨U,M,_,hs,hm,ht,λv H1 x M1 hx MX e1 q1=>⟨U,M1,_,hs.mono e1,MX,q1,λu H2 y M2 hy Nj e2 q2=>⟨x,y,M2,Q,hx.mono e2,hy,Nj,q2,sH (e1.trans e2) k⟩⟩⟩
def mU{op:Operator}(ha:E3 X a ta)(hb:E3 X b tb):E3 X (.BinOp a op b pos) (o3 op ta tb):=PE.mono (Kd (MF op) ha hb) wN
end
noncomputable def oC(f:D->D->Option Bool):T0 D->T0 D->Option Bool
 | x::a,y::b=>(f x y).bind λp=>(oC f a b).map λq=>p&&q
 | _,_=>some true
noncomputable def vM(M:Mp):Nat->D->D->Option Bool
 | 0,_,_=>none
 | n+1,x,y=>match x,y with
  | .lw,.lw=>some true
  | .bl a,.bl b=>some (a==b)
  | .int a,.int b=>some (a==b)
  | .str a,.str b=>some (a==b)
  | .lw,.bl _=>some false
  | .lw,.int _=>some false
  | .lw,.str _=>some false
  | .bl _,.lw=>some false
  | .bl _,.str _=>some false
  | .int _,.lw=>some false
  | .int _,.str _=>some false
  | .str _,.lw=>some false
  | .str _,.bl _=>some false
  | .str _,.int _=>some false
  | .tup a,.tup b=>(oC (vM M n) a b).map λp=>p&&a.length==b.length
  | .ref a,.ref b=>(md M a).bind λi=>(md M b).bind λj=>if i.length=j.length then oC (vM M n) i j else some false
  | _,_=>none
variable {MV:T0 (Addr × Obj)}{Y:St}{s:Sd}
theorem sY{f:D->D->Option Bool}:∀{ds es:T0 D} {xs:T0 V} {b:Bool},mS X.K H ds xs->mS X.K H es xs->(∀x y v b,nR X.K H x v->nR X.K H y v->f x y=some b->b=true)->oC f ds es=some b->b=true
 | [],[],_,_,_,_,_,e=>(bH e).symm
 | [],_::_,_,_,h,g,_,_=>by have h1:=h.length;have h2:=g.length;rw[<-h1]at h2;simp at h2
 | _::_,[],_,_,h,g,_,_=>by have h1:=h.length;have h2:=g.length;rw[<-h1]at h2;simp at h2
 | d::ds,e::es,xs,b,h,g,k,q=>by
  obtain⟨x,r,rfl,h1,h2⟩:=h.inv;obtain⟨x',r',e',g1,g2⟩:=g.inv;cases e';unfold oC at q;cases p1:f d e with
  | none=>rw[p1]at q;cases q
  | some b1=>
   rw[p1]at q;cases p2:oC f ds es with
   | none=>rw[p2]at q;cases q
   | some b2=>rw[p2]at q;have q':(b1&&b2)=b:=bH q;rw[<-q',k _ _ _ _ h1 g1 p1,sY h2 g2 k p2];rfl
theorem tK(I:Inv X MV Y H s)(hm:HM X.K H M):∀(n:Nat) (x y:D) (v:V) (b:Bool),nR X.K H x v->nR X.K H y v->vM M n x y=some b->b=true
 | 0,_,_,_,_,_,_,e=>by cases e
 | n+1,x,y,v,b,hx,hy,e=>by
  unfold vM at e;split at e
  .exact(bH e).symm
  .rw[hx.lh]at hy;cases hy.lh;exact(bH e).symm.trans (by simp)
  .rw[hx.int_inv]at hy;cases hy.int_inv;exact(bH e).symm.trans (by simp)
  .rw[hx.str_inv]at hy;cases hy.str_inv;exact(bH e).symm.trans (by simp)
  .rw[hx.lg]at hy;cases hy.lh
  .rw[hx.lg]at hy;cases hy.int_inv
  .rw[hx.lg]at hy;cases hy.str_inv
  .rw[hx.lh]at hy;cases hy.lg
  .rw[hx.lh]at hy;cases hy.str_inv
  .rw[hx.int_inv]at hy;cases hy.lg
  .rw[hx.int_inv]at hy;cases hy.str_inv
  .rw[hx.str_inv]at hy;cases hy.lg
  .rw[hx.str_inv]at hy;cases hy.lh
  .rw[hx.str_inv]at hy;cases hy.int_inv
  .obtain⟨a,xs,rfl,h1,h2⟩:=hx.lm;obtain⟨a',ys,e',g1,g2⟩:=hy.lm;cases e';rw[I.lE g1 h1]at g2;cases p:oC (vM M n) _ _ with
   | none=>rw[p]at e;cases e
   | some b1=>rw[p]at e;have e':=bH e;rw[<-e',sY h2 g2 (tK I hm n) p,h2.length,g2.length];simp
  .rw[hx.k8]at hy;cases hy.k8;cases p:md M _ with
   | none=>rw[p]at e;cases e
   | some i=>rw[p]at e;have e:(if i.length=i.length then oC (vM M n) i i else some false)=some b:=e;rw[bA rfl]at e;obtain⟨xs,_,h2,_⟩:=mL hm p;exact sY h2 h2 (tK I hm n) e
  .cases e
theorem vQ{f:D->D->Option Bool}{A:Ar}:∀{ds es:T0 D} {xs ys:T0 V} {us ws:T0 Vl} {b:Bool},oC f ds es=some b->mS X.K H ds xs->mS X.K H es ys->nj xs us->nj ys ws->
  (∀x y b vx vy u w,f x y=some b->nR X.K H x vx->nR X.K H y vy->nE vx u->nE vy w->SeqAt.EqAt A s u w b)->
  ∃e:Nat->Bool,(∀j (h1:j<us.length) (h2:j<ws.length),SeqAt.EqAt A s us[j] ws[j] (e j))/\(List.range (min us.length ws.length)).all e=b
 | [],es,xs,ys,us,ws,b,q,hx,hy,rx,ry,k=>by
  have e1:=hx.nil_inv;subst e1;cases rx;refine⟨λ_=>true,λj h1=>absurd h1 (by simp),?_⟩;have q':some true=some b:=by cases es<;>exact q
  simpa using(bH q')
 | d::ds,[],xs,ys,us,ws,b,q,hx,hy,rx,ry,k=>by
  have e1:=hy.nil_inv;subst e1;cases ry;refine⟨λ_=>true,λj _ h2=>absurd h2 (by simp),?_⟩;have q':some true=some b:=q
  simpa using(bH q')
 | d::ds,e::es,xs,ys,us,ws,b,q,hx,hy,rx,ry,k=>by
  obtain⟨x,r,rfl,h1,h2⟩:=hx.inv;obtain⟨y,r',rfl,g1,g2⟩:=hy.inv;cases rx with
  | cons r1 r2=>
   cases ry with
   | cons t1 t2=>
    unfold oC at q;cases p1:f d e with
    | none=>rw[p1]at q;cases q
    | some b1=>
     rw[p1]at q;cases p2:oC f ds es with
     | none=>rw[p2]at q;cases q
     | some b2=>
      rw[p2]at q;have q':(b1&&b2)=b:=bH q;obtain⟨e',he,ha⟩:=vQ p2 h2 g2 r2 t2 k;refine⟨λj=>match j with|0=>b1|j+1=>e' j,λj l1 l2=>?_,?_⟩
      .cases j with
       | zero=>exact k _ _ _ _ _ _ _ p1 h1 g1 r1 t1
       | succ j=>exact he j (by simpa using l1) (by simpa using l2)
      .rw[<-q',<-ha];simp only[bR];rw[Nat.succ_min_succ,List.range_succ_eq_map,eU,iK];rfl
theorem uk(I:Inv X MV Y H s)(hm:HM X.K H M):∀(n:Nat) (A:Ar) (x y:D) (b:Bool) (vx vy:V) (u w:Vl),A.units+n<cLine->vM M n x y=some b->nR X.K H x vx->nR X.K H y vy->nE vx u->nE vy w->
  SeqAt.RcAt A s u w b/\SeqAt.EqAt A s u w b/\SeqAt.RcNeAt A s u w (!b)
 | 0,_,_,_,_,_,_,_,_,_,e,_,_,_,_=>by cases e
 | n+1,A,x,y,b,vx,vy,u,w,hu,e,hx,hy,rx,ry=>by
  have PB:A.units<cLine:=by lia
  have hui:A.in1.units+n<cLine:=by show A.units+1+n<cLine;lia
  unfold vM at e;split at e
  .cases hx.lg;cases hy.lg;cases rx;cases ry;cases e;exact⟨.none_none,.same _,.none_none⟩
  .cases hx.lh;cases hy.lh;cases rx;cases ry;cases e;exact⟨.bool_bool _ _,.bool_bool _ _,.bool_bool _ _⟩
  .cases hx.int_inv;cases hy.int_inv;obtain⟨t,rfl⟩:=rx;obtain⟨t',rfl⟩:=ry;cases e;exact⟨.int_int _ _ _ _,.int_int _ _ _ _,.int_int _ _ _ _⟩
  .cases hx.str_inv;cases hy.str_inv;obtain⟨t,rfl⟩:=rx;obtain⟨t',rfl⟩:=ry;cases e;exact⟨.str_str _ _ _ _,.str_str _ _ _ _,.str_str _ _ _ _⟩
  .cases hx.lg;cases hy.lh;cases rx;cases ry;cases e;exact⟨.none_bool _,.none_bool _,.none_bool _⟩
  .cases hx.lg;cases hy.int_inv;cases rx;obtain⟨t',rfl⟩:=ry;cases e;exact⟨.none_int _ _,.none_int _ _,.none_int _ _⟩
  .cases hx.lg;cases hy.str_inv;cases rx;obtain⟨t',rfl⟩:=ry;cases e;exact⟨.none_str _ _,.none_str _ _,.none_str _ _⟩
  .cases hx.lh;cases hy.lg;cases rx;cases ry;cases e;exact⟨.bool_none _,.bool_none _,.bool_none _⟩
  .cases hx.lh;cases hy.str_inv;cases rx;obtain⟨t',rfl⟩:=ry;cases e;exact⟨.bool_str _ _ _,.bool_str _ _ _,.bool_str _ _ _⟩
  .cases hx.int_inv;cases hy.lg;obtain⟨t,rfl⟩:=rx;cases ry;cases e;exact⟨.int_none _ _,.int_none _ _,.int_none _ _⟩
  .cases hx.int_inv;cases hy.str_inv;obtain⟨t,rfl⟩:=rx;obtain⟨t',rfl⟩:=ry;cases e;exact⟨.int_str _ _ _ _,.int_str _ _ _ _,.int_str _ _ _ _⟩
  .cases hx.str_inv;cases hy.lg;obtain⟨t,rfl⟩:=rx;cases ry;cases e;exact⟨.str_none _ _,.str_none _ _,.str_none _ _⟩
  .cases hx.str_inv;cases hy.lh;obtain⟨t,rfl⟩:=rx;cases ry;cases e;exact⟨.str_bool _ _ _,.str_bool _ _ _,.str_bool _ _ _⟩
  .cases hx.str_inv;cases hy.int_inv;obtain⟨t,rfl⟩:=rx;obtain⟨t',rfl⟩:=ry;cases e;exact⟨.str_int _ _ _ _,.str_int _ _ _ _,.str_int _ _ _ _⟩
  .rename_i da db;obtain⟨a1,xs,rfl,h1,h2⟩:=hx.lm;obtain⟨a2,ys,rfl,g1,g2⟩:=hy.lm;cases rx;cases ry;obtain⟨us,r1,p1,_⟩:=I.tuple h1;obtain⟨ws,r2,p2,_⟩:=I.tuple g1;cases p:oC (vM M n) da db with
   | none=>rw[p]at e;cases e
   | some b1=>
    have e0:=e;rw[p]at e;have e':(b1&&da.length==db.length)=b:=bH e;obtain⟨f,hf,ha⟩:=vQ (A:=A.in1) (s:=s) p h2 g2 r1 r2 λx y b vx vy u w q1 q2 q3 q4 q5=>(uk I hm n A.in1 x y b vx vy u w hui q1 q2 q3 q4 q5).2.1;have hb:((List.range (min us.toArray.size ws.toArray.size)).all f&&us.toArray.size==ws.toArray.size)=b:=by rw[bz,bz,ha,<-e',<-r1.length,<-r2.length,h2.length,g2.length]
    have hf':∀j (l1:j<us.toArray.size) (l2:j<ws.toArray.size),SeqAt.EqAt A.in1 s us.toArray[j] ws.toArray[j] (f j):=λj l1 l2=>by simpa using hf j (by simpa using l1) (by simpa using l2)
    have c1:SeqAt.RcAt A s (.ref a1) (.ref a2) b:=by rw[<-hb];exact .tuples p1 p2 PB hf'
    have c3:SeqAt.RcNeAt A s (.ref a1) (.ref a2) (!b):=by have:=SeqAt.RcNeAt.tuples p1 p2 PB hf';rw[hb]at this;exact this
    refine⟨c1,?_,c3⟩;by_cases ea:a1=a2
    .subst ea;have:b=true:=tK I hm (n+1) (.tup da) (.tup db) (.ref a1) b hx hy (by unfold vM;exact e0);rw[this];exact .same _
    .exact .of_refs ea c1
  .cases hx.k8;cases hy.k8;cases rx;cases ry;rename_i a1 a2;have e0:=e;cases p:md M a1 with
   | none=>rw[p]at e;cases e
   | some i=>
    cases p':md M a2 with
    | none=>rw[p,p']at e;cases e
    | some j=>
     rw[p,p']at e;have e:(if i.length=j.length then oC (vM M n) i j else some false)=some b:=e;obtain⟨xs,q1,h2,_⟩:=mL hm p;obtain⟨ys,q2,g2,_⟩:=mL hm p';obtain⟨us,r1,p1,_⟩:=I.list q1;obtain⟨ws,r2,p2,_⟩:=I.list q2;have fin:SeqAt.RcAt A s (.ref a1) (.ref a2) b/\SeqAt.RcNeAt A s (.ref a1) (.ref a2) (!b):=by
      by_cases hl:i.length=j.length
      .rw[bA hl]at e;obtain⟨f,hf,ha⟩:=vQ (A:=A.in1) (s:=s) e h2 g2 r1 r2 λx y b vx vy u w q1 q2 q3 q4 q5=>(uk I hm n A.in1 x y b vx vy u w hui q1 q2 q3 q4 q5).2.1;have hsz:us.toArray.size=ws.toArray.size:=by rw[bz,bz,<-r1.length,<-r2.length,<-h2.length,<-g2.length];exact hl
       have hf':∀j (l1:j<us.toArray.size) (l2:j<ws.toArray.size),SeqAt.EqAt A.in1 s us.toArray[j] ws.toArray[j] (f j):=λj l1 l2=>by simpa using hf j (by simpa using l1) (by simpa using l2)
       have hb:(List.range us.toArray.size).all f=b:=by rw[<-ha];rw[bz,bz]at hsz;rw[bz,<-hsz,kU]
       rw[<-hb];exact⟨.lists p1.isList p2.isList hsz PB hf',.lists p1.isList p2.isList hsz PB hf'⟩
      .rw[bv hl]at e;cases e;have hsz:(us.toArray.size != ws.toArray.size)=true:=by
        rw[bz,bz,<-r1.length,<-r2.length,<-h2.length,<-g2.length]
        simpa using hl
       exact⟨.lists_lengths p1.isList p2.isList hsz PB,.lists_lengths p1.isList p2.isList hsz PB⟩
     refine⟨fin.1,?_,fin.2⟩;by_cases ea:a1=a2
     .subst ea;have:b=true:=tK I hm (n+1) (.ref a1) (.ref a1) (.ref a1) b .ref .ref (by unfold vM;exact e0);rw[this];exact .same _
     .exact .of_refs ea fin.1
  .cases e
noncomputable def qA:D->Bool
 | .lw=>true
 | .bl _=>true
 | .int _=>true
 | .str _=>true
 | _=>false
noncomputable def Hr:D->D->Bool
 | .lw,.lw=>true
 | .bl a,.bl b=>a==b
 | .bl a,.int b=>(if a then 1 else 0)==b
 | .int a,.bl b=>a==(if b then 1 else 0)
 | .int a,.int b=>a==b
 | .str a,.str b=>a==b
 | _,_=>false
noncomputable def inD(x:D)(ds:T0 D):Bool:=ds.any λy=>Hr y x
noncomputable def AL(M:Mp):D->Option (T0 D)
 | .tup ds=>some ds
 | .ref a=>md M a
 | .rl ds=>some ds
 | _=>none
noncomputable def wF(i j:Str):Bool:=!(Builtin.Str.occurrences j i 0 j.length 1).isEmpty
def JE(Pu:Bool)(x y:D)(M:Mp)(Q:DK):Prop:=match x,y with
 | .str i,.str j=>Q (.bl (if Pu then !wF i j else wF i j)) M
 | _,_=>(AL M y).elim False λds=>qA x=true/\ds.all qA=true/\Q (.bl (if Pu then !inD x ds else inD x ds)) M
def Gy(op:CmpOp)(x y:D)(M:Mp)(Q:DK):Prop:=match op with
 | .Eq=>(vM M 9 x y).elim False λb=>Q (.bl b) M
 | .NotEq=>(vM M 9 x y).elim False λb=>Q (.bl (!b)) M
 | .Lt=>match x,y with|.int i,.int j=>Q (.bl (decide (i<j))) M|_,_=>False
 | .LtE=>match x,y with|.int i,.int j=>Q (.bl (decide (i<=j))) M|_,_=>False
 | .Gt=>match x,y with|.int i,.int j=>Q (.bl (decide (j<i))) M|_,_=>False
 | .GtE=>match x,y with|.int i,.int j=>Q (.bl (decide (j<=i))) M|_,_=>False
 | .Is=>match y with|.lw=>Q (.bl (match x with|.lw=>true|_=>false)) M|_=>False
 | .IsNot=>match y with|.lw=>Q (.bl (match x with|.lw=>false|_=>true)) M|_=>False
 | .In=>JE false x y M Q
 | .NotIn=>JE true x y M Q
def k3(op:CmpOp)(ta tb:T3):T3:=λU M Q=>ta U M λx M1=>tb U M1 λy M2=>Gy op x y M2 Q
def uf{d:D}{v:V}(h:nR K H d v)(f:qA d=true):sR v=true:=by
 cases d with
 | lw=>rw[h.lg];rfl
 | bl _=>rw[h.lh];rfl
 | int _=>rw[h.int_inv];rfl
 | str _=>rw[h.str_inv];rfl
 | _=>cases f
def Ca{d e:D}{v w:V}(h:nR K H d v)(g:nR K H e w)(f:qA d=true)(f':qA e=true):Fy v w=Hr d e:=by
 cases d with
 | lw=>
  rw[h.lg];cases e with
  | lw=>rw[g.lg];rfl
  | bl _=>rw[g.lh];rfl
  | int _=>rw[g.int_inv];rfl
  | str _=>rw[g.str_inv];rfl
  | _=>cases f'
 | bl _=>
  rw[h.lh];cases e with
  | lw=>rw[g.lg];rfl
  | bl _=>rw[g.lh];rfl
  | int _=>rw[g.int_inv];rfl
  | str _=>rw[g.str_inv];rfl
  | _=>cases f'
 | int _=>
  rw[h.int_inv];cases e with
  | lw=>rw[g.lg];rfl
  | bl _=>rw[g.lh];rfl
  | int _=>rw[g.int_inv];rfl
  | str _=>rw[g.str_inv];rfl
  | _=>cases f'
 | str _=>
  rw[h.str_inv];cases e with
  | lw=>rw[g.lg];rfl
  | bl _=>rw[g.lh];rfl
  | int _=>rw[g.int_inv];rfl
  | str _=>rw[g.str_inv];rfl
  | _=>cases f'
 | _=>cases f
theorem yD:∀{ds:T0 D} {xs:T0 V},mS K H ds xs->ds.all qA=true->xs.all sR=true
 | [],_,h,_=>by rw[h.nil_inv];rfl
 | d::ds,_,h,f=>by obtain⟨x,r,rfl,h1,h2⟩:=h.inv;rw[eU,cO]at f ⊢;exact⟨uf h1 f.1,yD h2 f.2⟩
theorem E6{e:D}{w:V}(g:nR K H e w)(f':qA e=true):∀{ds:T0 D} {xs:T0 V},mS K H ds xs->ds.all qA=true->inV w xs=inD e ds
 | [],_,h,_=>by rw[h.nil_inv];rfl
 | d::ds,_,h,f=>by obtain⟨x,r,rfl,h1,h2⟩:=h.inv;rw[eU,cO]at f;show(Fy x w||inV w r)=(Hr d e||inD e ds);rw[Ca h1 g f.1 f',E6 g f' h2 f.2]
def vC(hm:HM K H M){y:D}{v:V}{ds:T0 D}(h:nR K H y v)(q:AL M y=some ds):∃p xs,v=.ref p/\(qM K H p xs\/p9 K H p xs)/\mS K H ds xs:=by
 cases y with
 | tup es=>cases q;obtain⟨a,xs,rfl,h1,h2⟩:=h.lm;exact⟨a,xs,rfl,.inr h1,h2⟩
 | ref a=>cases h.k8;obtain⟨xs,h1,h2,_⟩:=mL hm q;exact⟨a,xs,rfl,.inl h1,h2⟩
 | rl es=>cases q;obtain⟨a,xs,rfl,h1,h2⟩:=h.lC;exact⟨a,xs,rfl,.inl h1.sq,h2⟩
 | _=>cases q
variable {c:Expr}{tc:T3}
section
def Cr(op:CmpOp)(hu:X.A.units+9<cLine):rH X (compareOp op) (R3 X.K (Gy op)):=by
 intro MV s Y H vx vy v u Q' I rx ry h;obtain⟨x,y,M,Q,hx,hy,hm,q,k⟩:=h;have bk:∀b,Q (.bl b) M->EP X MV Y Q' (.bool b) s:=λb q=>⟨.bl b,H,I,rfl,k _ _ _ _ .bl hm .refl q⟩;have inn:∀Pu:Bool,((AL M y).elim False λds=>qA x=true/\ds.all qA=true/\Q (.bl (if Pu then !inD x ds else inD x ds)) M)->L4 X.K Pu vx vy H Q':=λPu q=>by obtain⟨ds,e,f1,f2,q⟩:=ny q;obtain⟨p,xs,rfl,h1,h2⟩:=vC hm hy e;refine⟨p,xs,rfl,h1,uf hx f1,yD h2 f2,?_⟩;rw[E6 hx f1 h2 f2];exact k _ _ _ _ .bl hm .refl q
 cases op with
 | Eq=>obtain⟨b,e,q⟩:=ny q;exact(uk I hm 9 X.A x y b vx vy v u hu e hx hy rx ry).1 _ _ _ _ (bk b q)
 | NotEq=>obtain⟨b,e,q⟩:=ny q;exact(uk I hm 9 X.A x y b vx vy v u hu e hx hy rx ry).2.2 _ _ _ _ (bk _ q)
 | Lt=>
  cases x<;>first|exact q.elim|skip
  cases y<;>first|exact q.elim|skip
  cases hx.int_inv;cases hy.int_inv;exact JU MV s Y H _ _ v u Q' I rx ry ⟨_,_,rfl,rfl,k _ _ _ _ .bl hm .refl q⟩
 | LtE=>
  cases x<;>first|exact q.elim|skip
  cases y<;>first|exact q.elim|skip
  cases hx.int_inv;cases hy.int_inv;exact J3 MV s Y H _ _ v u Q' I rx ry ⟨_,_,rfl,rfl,k _ _ _ _ .bl hm .refl q⟩
 | Gt=>
  cases x<;>first|exact q.elim|skip
  cases y<;>first|exact q.elim|skip
  cases hx.int_inv;cases hy.int_inv;exact Kv MV s Y H _ _ v u Q' I rx ry ⟨_,_,rfl,rfl,k _ _ _ _ .bl hm .refl q⟩
 | GtE=>
  cases x<;>first|exact q.elim|skip
  cases y<;>first|exact q.elim|skip
  cases hx.int_inv;cases hy.int_inv;exact Kr MV s Y H _ _ v u Q' I rx ry ⟨_,_,rfl,rfl,k _ _ _ _ .bl hm .refl q⟩
 | Is=>
  cases y<;>first|exact q.elim|skip
  cases hy.lg;refine Jp MV s Y H _ _ v u Q' I rx ry ⟨rfl,k _ _ _ _ ?_ hm .refl q⟩;cases x with
  | lw=>rw[hx.lg];exact .bl
  | bl _=>rw[hx.lh];exact .bl
  | int _=>rw[hx.int_inv];exact .bl
  | str _=>rw[hx.str_inv];exact .bl
  | tup _=>obtain⟨a,xs,rfl,_⟩:=hx.lm;exact .bl
  | ref _=>rw[hx.k8];exact .bl
  | ty _=>rw[hx.lU];exact .bl
  | rl _=>obtain⟨a,xs,rfl,_⟩:=hx.lC;exact .bl
 | IsNot=>
  cases y<;>first|exact q.elim|skip
  cases hy.lg;refine Gf MV s Y H _ _ v u Q' I rx ry ⟨rfl,k _ _ _ _ ?_ hm .refl q⟩;cases x with
  | lw=>rw[hx.lg];exact .bl
  | bl _=>rw[hx.lh];exact .bl
  | int _=>rw[hx.int_inv];exact .bl
  | str _=>rw[hx.str_inv];exact .bl
  | tup _=>obtain⟨a,xs,rfl,_⟩:=hx.lm;exact .bl
  | ref _=>rw[hx.k8];exact .bl
  | ty _=>rw[hx.lU];exact .bl
  | rl _=>obtain⟨a,xs,rfl,_⟩:=hx.lC;exact .bl
 | In=>
  have q:JE false x y M Q:=q;unfold JE at q;split at q
  .cases hx.str_inv;cases hy.str_inv;exact Cm MV s Y H _ _ v u Q' I rx ry ⟨_,_,rfl,rfl,k _ _ _ _ .bl hm .refl q⟩
  .exact Cv MV s Y H _ _ v u Q' I rx ry (inn false q)
 | NotIn=>
  have q:JE true x y M Q:=q;unfold JE at q;split at q
  .cases hx.str_inv;cases hy.str_inv;exact yx MV s Y H _ _ v u Q' I rx ry ⟨_,_,rfl,rfl,k _ _ _ _ .bl hm .refl q⟩
  .exact yu MV s Y H _ _ v u Q' I rx ry (inn true q)
variable {a b:Expr}
def pW{op:CmpOp}(hu:X.A.units+9<cLine)(ha:E3 X a ta)(hb:E3 X b tb)(hm:behindInMarks op b=false:=by first|exact uj _|with_unfolding_all rfl):E3 X (.Compare a [op] [b] pos) (k3 op ta tb):=PE.mono (yw (Cr op hu) ha hb hm) wN
def b3(t:T3):wI:=λU M Q=>t U M λd M1=>match d with|.bl c=>Q c M1|_=>False
def vP{e:Expr}{t:T3}(h:E3 X e t)(he:∀Ny,isTrue e X.env Ny=(do let v<-Ny;standAt e.pos;holding [v] (truthy v)):=by intro _;rfl):B3 X e (b3 t):=PT.mono (HS h he) λY H Q' zz=>x7 zz λU M Q hs hm ht k=>
 ⟨U,M,_,hs,hm,ht,λv H1 d M1 hd MX e1 q1=>by
  cases d with
  | bl c=>exact⟨c,hd.lh,k c H1 M1 MX e1 q1⟩
  | _=>exact q1.elim⟩
def nC{op:CmpOp}(hu:X.A.units+9<cLine)(ha:E3 X a ta)(hb:E3 X b tb)(hm:behindInMarks op b=false:=by first|exact uj _|with_unfolding_all rfl):B3 X (.Compare a [op] [b] pos) (b3 (k3 op ta tb)):=PT.mono (vq (Cr op hu) ha hb hm) λY H Q' zz=>x7 zz λU M Q hs hm ht k=>
 wN Y H _ ⟨U,M,_,hs,hm,ht,λv H1 d M1 hd MX e1 q1=>by
  cases d with
  | bl c=>exact⟨c,hd.lh,k c H1 M1 MX e1 q1⟩
  | _=>exact q1.elim⟩
end
variable {tA tB:wI}{Nb:T0 Expr}
section
variable {a b:Expr}
def Lx(t u:wI):wI:=λU M Q=>t U M λc M1=>if c=true then u U M1 Q else Q false M1
def ME(t u:wI):wI:=λU M Q=>t U M λc M1=>if c=true then Q true M1 else u U M1 Q
def LX(t:wI):wI:=λU M Q=>t U M λc M1=>Q (!c) M1
def W3(X:Cx)(e:Expr)(t:wI):Prop:=PW X e (JG X.K t)
def PW.mono{X:Cx}{e:Expr}{t t':TT}(h:PW X e t)(m:∀Y H Q,t' Y H Q->t Y H Q):PW X e t':=λwh MV s Y H Q I q=>h wh MV s Y H Q I (m Y H Q q)
def W3.b3{e:Expr}{t:wI}(h:W3 X e t):B3 X e t:=PW.pt h
def tN(h:B3 X a tA):W3 X (.BoolOp .And [a] pos) tA:=GV h
def Ji(h:B3 X a tA):W3 X (.BoolOp .Or [a] pos) tA:=HN h
def vR(ha:B3 X a tA)(hb:W3 X (.BoolOp .And (b::Nb) pos) tB):W3 X (.BoolOp .And (a::b::Nb) pos) (Lx tA tB):=PW.mono (HG ha hb) λY H Q' zz=>x7 zz λU M Q hs hm ht k=>
 ⟨U,M,_,hs,hm,ht,λc H1 M1 MX e1 q1=>by
  cases c with
  | true=>exact(bA rfl).mpr ⟨U,M1,Q,hs.mono e1,MX,(bA rfl).mp q1,λb H' M' x1 x2 x3=>k b H' M' x1 (e1.trans x2) x3⟩
  | false=>exact(bv bN).mpr (k false H1 M1 MX e1 ((bv bN).mp q1))⟩
def Fo(ha:B3 X a tA)(hb:W3 X (.BoolOp .Or (b::Nb) pos) tB):W3 X (.BoolOp .Or (a::b::Nb) pos) (ME tA tB):=PW.mono (KS ha hb) λY H Q' zz=>x7 zz λU M Q hs hm ht k=>
 ⟨U,M,_,hs,hm,ht,λc H1 M1 MX e1 q1=>by
  cases c with
  | true=>exact(bA rfl).mpr (k true H1 M1 MX e1 ((bA rfl).mp q1))
  | false=>exact(bv bN).mpr ⟨U,M1,Q,hs.mono e1,MX,(bv bN).mp q1,λb H' M' x1 x2 x3=>k b H' M' x1 (e1.trans x2) x3⟩⟩
def uB(ha:B3 X a tA):B3 X (.UnaryOp .Not a pos) (LX tA):=PT.mono (Jr ha) λY H Q' zz=>x7 zz λU M Q hs hm ht k=>⟨U,M,_,hs,hm,ht,λc H1 M1 MX e1 q1=>k _ H1 M1 MX e1 q1⟩
def J5(ta tb:T3):T3:=λU M Q=>ta U M λd M1=>match d with|.bl c=>if c=true then tb U M1 Q else Q (.bl false) M1|_=>False
def D6{op}(h:E3 X a ta):E3 X (.BoolOp op [a] pos) ta:=Jf h
def AQ(ha:E3 X a ta)(hb:E3 X (.BoolOp .And (b::Nb) pos) tb):E3 X (.BoolOp .And (a::b::Nb) pos) (J5 ta tb):=PE.mono (Iw ha hb) λY H Q' zz=>x7 zz λU M Q hs hm ht k=>
 ⟨U,M,_,hs,hm,ht,λv H1 d M1 hd MX e1 q1=>by
  cases d with
  | bl c=>
   refine⟨c,hd.lh,?_⟩;cases c with
   | true=>exact(bA rfl).mpr ⟨U,M1,Q,hs.mono e1,MX,(bA rfl).mp q1,sH e1 k⟩
   | false=>exact(bv bN).mpr (k _ H1 _ M1 .bl MX e1 ((bv bN).mp q1))
  | _=>exact q1.elim⟩
def Ln(x y:D)(M:Mp)(Q:DK):Prop:=match x,y with
 | .tup ds,.int i=>(ug ds i).elim False λd=>Q d M
 | .ref a,.int i=>(md M a).elim False λds=>(ug ds i).elim False λd=>Q d M
 | .rl ds,.int i=>(ug ds i).elim False λd=>Q d M
 | .str z,.int i=>z.length<=sizeLine/\(ug z.cps.toList i).elim False λc=>Q (.str ⟨#[c]⟩) M
 | _,_=>False
def i3(ta tb:T3):T3:=λU M Q=>ta U M λx M1=>tb U M1 λy M2=>Ln x y M2 Q
def yJ{K:mZ}{H:Hp}{ds:T0 D}{xs:T0 V}{i:Int}{d:D}(h:mS K H ds xs)(e:ug ds i=some d):∃v,ug xs i=some v/\nR K H d v:=by
 unfold ug at e ⊢;rw[<-h.length];cases q:Hg ds.length i with
 | none=>rw[q]at e;cases e
 | some j=>rw[q]at e;exact h.get e
def MU:JK X (R3 X.K Ln):=by
 intro value Nc MV s Y H vx vy v u Q' I rx ry h hs;obtain⟨x,y,M,Q,hx,hy,hm,q,k⟩:=h;unfold Ln at q;split at q
 .obtain⟨d,e,q⟩:=ny q;obtain⟨p,xs,rfl,h1,h2⟩:=hx.lm;cases hy.int_inv;obtain⟨w,e1,e2⟩:=yJ h2 e;exact I0 value Nc MV s Y H _ _ v u Q' I rx ry ⟨p,xs,_,w,rfl,rfl,h1,e1,k _ _ _ _ e2 hm .refl q⟩ hs
 .obtain⟨ds,e0,q⟩:=ny q;obtain⟨d,e,q⟩:=ny q;cases hx.k8;cases hy.int_inv;obtain⟨xs,h1,h2,_⟩:=mL hm e0;obtain⟨w,e1,e2⟩:=yJ h2 e;exact Bl value Nc MV s Y H _ _ v u Q' I rx ry ⟨_,xs,_,w,rfl,rfl,h1,e1,k _ _ _ _ e2 hm .refl q⟩ hs
 .obtain⟨d,e,q⟩:=ny q;obtain⟨p,xs,rfl,h1,h2⟩:=hx.lC;cases hy.int_inv;obtain⟨w,e1,e2⟩:=yJ h2 e;exact Bl value Nc MV s Y H _ _ v u Q' I rx ry ⟨p,xs,_,w,rfl,rfl,h1.sq,e1,k _ _ _ _ e2 hm .refl q⟩ hs
 .obtain⟨q1,q⟩:=q;obtain⟨c,e,q⟩:=ny q;cases hx.str_inv;cases hy.int_inv;exact JB value Nc MV s Y H _ _ v u Q' I rx ry ⟨_,_,c,rfl,rfl,q1,e,k _ _ _ _ .str hm .refl q⟩ hs
 .exact q.elim
def nc(ha:E3 X a ta)(hb:E3 X b tb)(hs:tY b:=by exact λ_ _=>rfl):E3 X (.Subscript a b pos) (i3 ta tb):=PE.mono (Cb MU ha hb hs) wN
noncomputable def qC(ds:T0 D)(lo hi:Option Int):T0 D:=(ds.drop (HT.oP ds.length 0 lo)).take (HT.oP ds.length ds.length hi - HT.oP ds.length 0 lo)
def yF{K:mZ}{H:Hp}{ds:T0 D}{xs:T0 V}{l h:Option Int}(q:mS K H ds xs):mS K H (qC ds l h) (vJ xs l h):=by unfold qC vJ;rw[q.length];exact(q.drop _).take _
abbrev JD:=qD->Mp->(Option Int->Mp->Prop)->Prop
def MN(K:mZ)(t:JD):TO:=λY H Q'=>Bf λU M Q=>u6 K H Y U/\HM K H M/\t U M Q/\∀o H' M',HM K H' M'->nA K H H'->Q o M'->Q' o H'
def O3(X:Cx)(e:Option Expr)(t:JD):Prop:=PO X e (MN X.K t)
def FO:JD:=λ_ M Q=>Q none M
def JN(t:T3):JD:=λU M Q=>t U M λd M1=>match d with|.int i=>Q (some i) M1|_=>False
def PO.mono{X:Cx}{e:Option Expr}{t t':TO}(h:PO X e t)(m:∀Y H Q,t' Y H Q->t Y H Q):PO X e t':=λMV s Y H Q I q=>h MV s Y H Q I (m Y H Q q)
def qL:O3 X none FO:=PO.mono Ga λY H Q' zz=>x7 zz λU M Q hs hm ht k=>k none H M hm .refl ht
def qN{e:Expr}{t:T3}(h:E3 X e t):O3 X (some e) (JN t):=PO.mono (G2 h) λY H Q' zz=>x7 zz λU M Q hs hm ht k=>
 ⟨U,M,_,hs,hm,ht,λv H1 d M1 hd MX e1 q1=>by
  cases d with
  | int i=>exact⟨i,hd.int_inv,k (some i) H1 M1 MX e1 q1⟩
  | _=>exact q1.elim⟩
def Ms(x:D)(lo hi:Option Int)(M:Mp)(Q:DK):Prop:=match x with
 | .tup ds=>Q (.tup (qC ds lo hi)) M
 | .ref a=>(md M a).elim False λds=>∀p,M p=none->Q (.ref p) (mN M p (.lst (qC ds lo hi)))
 | .rl ds=>∀p,M p=none->Q (.ref p) (mN M p (.lst (qC ds lo hi)))
 | _=>False
def s3(te:T3)(tl th:JD):T3:=λU M Q=>te U M λx M1=>tl U M1 λl M2=>th U M2 λu M3=>Ms x l u M3 Q
def Lk(K:mZ):V->Option Int->Option Int->Hp->VK->Prop:=λvx l u H Q'=>Bf λx M Q=>nR K H x vx/\HM K H M/\Ms x l u M Q/\Up K H Q' Q
def Gu{ds:T0 D}{lo hi:Option Int}(h:HT.oP ds.length 0 lo=0/\HT.oP ds.length ds.length hi=ds.length):qC ds lo hi=ds:=by unfold qC;rw[h.1,h.2,kL,kW,dN]
def MH:Kz X (Lk X.K):=by
 intro MV s Y H vx v vl vu l u sl Q' I rx hsl pl pu h;obtain⟨x,M,Q,hx,hm,q,k⟩:=h;cases x with
 | tup ds=>
  have q2:Q (.tup (qC ds l u)) M:=q;obtain⟨a,xs,rfl,h1,h2⟩:=hx.lm;by_cases q1:HT.oP ds.length 0 l=0/\HT.oP ds.length ds.length u=ds.length
  .rw[Gu q1]at q2;exact HL MV s Y H _ v vl vu l u sl Q' I rx hsl pl pu ⟨a,xs,rfl,h1,by rw[<-h2.length];exact q1,k _ _ _ _ hx hm .refl q2⟩
  refine Jw MV s Y H _ v vl vu l u sl Q' I rx hsl pl pu ⟨a,xs,rfl,h1,by rw[<-h2.length];exact q1,λp hp=>?_⟩;have e:nA X.K H (upd H p (.tup (vJ xs l u))):=.new hp;exact k _ _ _ _ (.tup (.of mY) ((yF h2).mono e)) (hm.add hp) e q2
 | ref a=>obtain⟨ds,e0,q⟩:=ny q;cases hx.k8;obtain⟨xs,h1,h2,_⟩:=mL hm e0;refine Br MV s Y H _ v vl vu l u sl Q' I rx hsl pl pu ⟨a,xs,rfl,h1,λp hp=>?_⟩;have e:nA X.K H (upd H p (.lst (vJ xs l u))):=.new hp;exact k _ _ _ _ .ref (hm.new (c:=.lst (qC ds l u)) hp ⟨_,mY,(yF h2).mono e⟩) e (q p (hm.fresh hp))
 | rl ds=>obtain⟨a,xs,rfl,h1,h2⟩:=hx.lC;refine Br MV s Y H _ v vl vu l u sl Q' I rx hsl pl pu ⟨a,xs,rfl,h1.sq,λp hp=>?_⟩;have e:nA X.K H (upd H p (.lst (vJ xs l u))):=.new hp;exact k _ _ _ _ .ref (hm.new (c:=.lst (qC ds l u)) hp ⟨_,mY,(yF h2).mono e⟩) e (q p (hm.fresh hp))
 | _=>exact q.elim
def pV{e:Expr}{te:T3}{lo hi:Option Expr}{tl th:JD}{p2:Pos}(he:E3 X e te)(hl:O3 X lo tl)(hu:O3 X hi th):E3 X (.Subscript e (.Slice lo hi none p2) pos) (s3 te tl th):=PE.mono (DB MH he hl hu) λY H Q' zz=>x7 zz λU M Q hs hm ht k=>⟨U,M,_,hs,hm,ht,λv H1 x M1 hx MX e1 q1=>⟨U,M1,_,hs.mono e1,MX,q1,λl H2 M2 Nj e2 q2=>⟨U,M2,_,hs.mono (e1.trans e2),Nj,q2,λu H3 M3 OP e3 q3=>⟨x,M3,Q,hx.mono (e2.trans e3),OP,q3,sH (e1.trans (e2.trans e3)) k⟩⟩⟩⟩
def vH:rN:=λ_ M Q=>Q [] M
def sX(ta:T3)(tr:rN):rN:=λU M Q=>ta U M λx M1=>tr U M1 λxs M2=>Q (x::xs) M2
def rc:A3 X [] vH:=PA.mono Jm λY H Q' zz=>x7 zz λU M Q hs hm ht k=>k [] H [] M .nil hm .refl ht
noncomputable def pk{e:Expr}{es:T0 Expr}{te:T3}{t:rN}(ha:E3 X e te)(hr:A3 X es t)(hs:xw X e es:=by rfl):A3 X (e::es) (sX te t):=PA.mono (G9 ha hr hs) λY H Q' zz=>x7 zz λU M Q hs hm ht k=>⟨U,M,_,hs,hm,ht,λv H1 x M1 hx MX e1 q1=>⟨U,M1,_,hs.mono e1,MX,q1,λvs H2 xs M2 PV Nj e2 q2=>k _ H2 _ M2 (.cons (hx.mono e2) PV) Nj (e1.trans e2) q2⟩⟩
def LF(t:rN):T3:=λU M Q=>t U M λds M1=>ds.length<=sizeLine/\Q (.tup ds) M1
def LQ(t:rN):T3:=λU M Q=>t U M λds M1=>ds.length<=sizeLine/\∀p,M1 p=none->Q (.ref p) (mN M1 p (.lst ds))
def nX{x1}{es:T0 Expr}{t:rN}(h:A3 X es t):E3 X (.Tuple es x1 pos) (LF t):=PE.mono (Ju h) λY H Q' zz=>x7 zz λU M Q hs hm ht k=>
 ⟨U,M,_,hs,hm,ht,λvs H1 ds M1 Od MX e1 q1=>⟨by rw[<-Od.length];exact q1.1,λp hp=>by
  have e:nA X.K H1 (upd H1 p (.tup vs)):=.new hp;exact k _ _ _ M1 (.tup (.of mY) (Od.mono e)) (MX.add hp) (e1.trans e) q1.2⟩⟩
def qm{es:T0 Expr}{t:rN}(h:A3 X es t):E3 X (.List es pos) (LQ t):=PE.mono (Jg h) λY H Q' zz=>x7 zz λU M Q hs hm ht k=>
 ⟨U,M,_,hs,hm,ht,λvs H1 ds M1 Od MX e1 q1=>⟨by rw[<-Od.length];exact q1.1,λp hp=>by
  have e:nA X.K H1 (upd H1 p (.lst vs)):=.new hp;exact k _ _ _ _ .ref (MX.new (c:=.lst ds) hp ⟨_,mY,Od.mono e⟩) (e1.trans e) (q1.2 p (MX.fresh hp))⟩⟩
def C'(t u:ui):ui:=λD U M=>t {D with nx:=u D} U M
def Ku:ui:=λD U M=>D.nx U M
def nk:Ee X [] Ku:=xU.mono GB λD' Y H zz=>F8 zz λU M D hs hm ht k1 k2 k3 k4=>k1 Y H U M hs hm .refl rfl ht
def mI{st:Stmt}{Nb:T0 Stmt}{t u:ui}(h1:S3 X st t)(h2:Ee X Nb u):Ee X (st::Nb) (C' t u):=xU.mono (Ds h1 h2) λD' Y H zz=>F8 zz λU M D hs hm ht k1 k2 k3 k4=>
 ⟨U,M,{D with nx:=u D},hs,hm,ht,λσ1 H1 δ1 M1 hs1 MX e1 l1 q1=>⟨δ1,M1,D,hs1,MX,q1,λσ' H' δ' M' x1 x2 x3 x4 x5=>k1 σ' H' δ' M' x1 x2 (e1.trans x3) (x4.trans l1) x5,λv H' d M' x1 x2 x3 x4=>k2 v H' d M' x1 x2 (e1.trans x3) x4,λσ' H' δ' M' x1 x2 x3 x4 x5=>k3 σ' H' δ' M' x1 x2 (e1.trans x3) (x4.trans l1) x5,λσ' H' δ' M' x1 x2 x3 x4 x5=>k4 σ' H' δ' M' x1 x2 (e1.trans x3) (x4.trans l1) x5⟩,k2,k3,k4⟩
def mK{st:Stmt}{t:ui}(h1:S3 X st t):Ee X [st] t:=xU.mono (Gw h1) λD' Y H h=>h
def Kx(te:T3):ui:=λD U M=>te U M λ_ M1=>D.nx U M1
def mX{e:Expr}{te:T3}(he:E3 X e te)(OK:swapsWith e none pos.line X.env=pure false:=by rfl):S3 X (.Expr e pos) (Kx te):=PS.mono (GY he OK) λD' Y H zz=>F8 zz λU M D hs hm ht k1 k2 k3 k4=>⟨U,M,_,hs,hm,ht,λv H1 d M1 hd MX e1 q1=>k1 Y H1 U M1 (hs.mono e1) MX e1 rfl q1⟩
def LH(te:T3):ui:=λD U M=>te U M D.rt
def mT{e:Expr}{te:T3}(he:E3 X e te):S3 X (.Return (some e) pos) (LH te):=PS.mono (HI he) λD' Y H zz=>F8 zz λU M D hs hm ht k1 k2 k3 k4=>⟨U,M,_,hs,hm,ht,λv H1 d M1 hd MX e1 q1=>k2 v H1 d M1 hd MX e1 q1⟩
def IG(c:wI)(t u:ui):ui:=λD U M=>c U M λb M1=>if b=true then t D U M1 else u D U M1
def n9{c:Expr}{as bs:T0 Stmt}{tc:wI}{t u:ui}(hc:B3 X c tc)(ha:Ee X as t)(hb:Ee X bs u):S3 X (.If c as bs pos) (IG tc t u):=PS.mono (Kk hc ha hb) λD' Y H zz=>F8 zz λU M D hs hm ht k1 k2 k3 k4=>
 ⟨U,M,_,hs,hm,ht,λb H1 M1 MX e1 q1=>by
  have up:∀t:ui,t D U M1->LN X.K t D' Y H1:=λt q=>⟨U,M1,D,hs.mono e1,MX,q,λσ' H' δ' M' x1 x2 x3 x4 x5=>k1 σ' H' δ' M' x1 x2 (e1.trans x3) x4 x5,λv H' d M' x1 x2 x3 x4=>k2 v H' d M' x1 x2 (e1.trans x3) x4,λσ' H' δ' M' x1 x2 x3 x4 x5=>k3 σ' H' δ' M' x1 x2 (e1.trans x3) x4 x5,λσ' H' δ' M' x1 x2 x3 x4 x5=>k4 σ' H' δ' M' x1 x2 (e1.trans x3) x4 x5⟩
  cases b with
  | true=>exact(bA rfl).mpr (up t ((bA rfl).mp q1))
  | false=>exact(bv bN).mpr (up u ((bv bN).mp q1))⟩
def IU:ui:=λ_ _ _=>False
def zE{st:Stmt}:S3 X st IU:=PS.mono Ej λD' Y H ⟨U,M,D,hs,hm,ht,_⟩=>ht
abbrev y9:=D->qD->Mp->(qD->Mp->Prop)->Prop
def Lb(K:mZ)(g:y9):TG:=λv Y H Q'=>Fz λd U M Q=>nR K H d v/\u6 K H Y U/\HM K H M/\g d U M Q/\∀σ' H' δ' M',u6 K H' σ' δ'->HM K H' M'->nA K H H'->σ'.length=Y.length->Q δ' M'->Q' σ' H'
def G3(X:Cx)(e:Expr)(g:y9):Prop:=PG X e (Lb X.K g)
def PG.lX{X:Cx}{e:Expr}{t t':TG}(h:PG X e t)(m:∀v Y H Q,Y.length=X.N.length->t' v Y H Q->t v Y H Q):PG X e t':=λMV s Y H v u Q I r q=>h MV s Y H v u Q I r (m v Y H Q I.len q)
def rA(i:Nat):y9:=λd U M Q=>Q (U.set i (some d)) M
def BY{i:Nat}{x:Str}(hN:X.N.Nodup)(hi:X.N[i]?=some x)(hx:Dk X.env.scope x)(hf:DW X x:=by first|exact .inl rfl|exact .inr rfl|assumption):G3 X (.Name x pos) (rA i):=
 PG.lX (F4 hN hi hx hf) λv Y H Q' hl ⟨d,U,M,Q,hd,hs,hm,ht,k⟩=>k _ H _ M (hs.set hd (by rw[hl];exact(bI.mp hi).1)) hm .refl (by simp) ht
abbrev zU:=T0 D->qD->Mp->(qD->Mp->Prop)->Prop
def Lv(K:mZ)(g:zU):G7:=λvs Y H Q'=>Fz λds U M Q=>mS K H ds vs/\u6 K H Y U/\HM K H M/\g ds U M Q/\∀σ' H' δ' M',u6 K H' σ' δ'->HM K H' M'->nA K H H'->σ'.length=Y.length->Q δ' M'->Q' σ' H'
def K8(X:Cx)(es:T0 Expr)(g:zU):Prop:=FB X es (Lv X.K g)
def FB.mono{X:Cx}{e:T0 Expr}{t t':G7}(h:FB X e t)(m:∀v Y H Q,t' v Y H Q->t v Y H Q):FB X e t':=λMV s Y H v u Q I r q=>h MV s Y H v u Q I r (m v Y H Q q)
def PG.mono{X:Cx}{e:Expr}{t t':TG}(h:PG X e t)(m:∀v Y H Q,t' v Y H Q->t v Y H Q):PG X e t':=λMV s Y H v u Q I r q=>h MV s Y H v u Q I r (m v Y H Q q)
def Ks:zU:=λds U M Q=>match ds with|[]=>Q U M|_=>False
def I9(t:y9)(u:zU):zU:=λds U M Q=>match ds with|d::r=>t d U M λδ' M'=>u r δ' M' Q|[]=>False
def pz:K8 X [] Ks:=FB.mono Gd λvs Y H Q' ⟨ds,U,M,Q,hd,hs,hm,ht,k⟩=>by
 cases ds with
 | nil=>exact⟨hd.nil_inv,k Y H U M hs hm .refl rfl ht⟩
 | cons _ _=>exact ht.elim
def ng{e:Expr}{es:T0 Expr}{t:y9}{u:zU}(h1:G3 X e t)(h2:K8 X es u)(hs:(assignEach (e::es) X.env).map (·.2)=assign e X.env::(assignEach es X.env).map (·.2):=by rfl):K8 X (e::es) (I9 t u):=
 FB.mono (EL h1 h2 hs) λvs Y H Q' ⟨ds,U,M,Q,hd,hs,hm,ht,k⟩=>by
 cases ds with
 | nil=>exact ht.elim
 | cons d r=>obtain⟨x,xr,rfl,hx,hr⟩:=hd.inv;exact⟨x,xr,rfl,d,U,M,_,hx,hs,hm,ht,λσ1 H1 δ1 M1 hs1 MX e1 l1 q1=>⟨r,δ1,M1,Q,hr.mono e1,hs1,MX,q1,λσ' H' δ' M' x1 x2 x3 x4 x5=>k σ' H' δ' M' x1 x2 (e1.trans x3) (x4.trans l1) x5⟩⟩
def Kq(n:Nat)(t:zU):y9:=λd U M Q=>match d with|.tup ds=>ds.length=n/\t ds U M Q|_=>False
def ql{es:T0 Expr}{k:Nat}{t:zU}{n:Nat}(hc:X.calm=true)(h:K8 X es t)(hn:(assignEach es X.env).length=n:=by rfl)(NG:(assignEach es X.env).findIdx? (·.1)=none:=by rfl):G3 X (.Tuple es k pos) (Kq n t):=
 PG.mono (HJ hc h hn NG) λv Y H Q' ⟨d,U,M,Q,hd,hs,hm,ht,k⟩=>by
 cases d with
 | tup ds=>obtain⟨a,xs,rfl,h1,h2⟩:=hd.lm;exact⟨a,xs,rfl,h1,by rw[<-h2.length];exact ht.1,ds,U,M,Q,h2,hs,hm,ht.2,k⟩
 | _=>exact ht.elim
def Ig(te:T3)(g:y9):ui:=λD U M=>te U M λx M1=>g x U M1 D.nx
def Iu{i:Nat}{x:Str}{e:Expr}{te:T3}{Nq:Pos}(hN:X.N.Nodup)(hi:X.N[i]?=some x)(hx:Dk X.env.scope x)(he:E3 X e te)(OK:swapsWith e (some (.Name x Nq)) pos.line X.env=pure false:=by rfl)
  (hf:DW X x:=by first|exact .inl rfl|exact .inr rfl|assumption):S3 X (.Assign [.Name x Nq] e pos) (Ig te (rA i)):=PS.lX (IJ hN hi hx he OK hf) λD' Y H hl zz=>F8 zz λU M D hs hm ht k1 k2 k3 k4=>
 ⟨U,M,_,hs,hm,ht,λv H1 d M1 hd MX e1 q1=>k1 _ H1 _ M1 ((hs.mono e1).set hd (by rw[hl];exact(bI.mp hi).1)) MX e1 (by simp) q1⟩
end
abbrev pJ:=T0 D->Mp->DK->Prop
def IT(K:mZ)(sp:pJ):Sp:=λvs H Q' _=>Bf λds M Q=>mS K H ds vs/\HM K H M/\sp ds M Q/\Up K H Q' Q
noncomputable def um(N:QQQ)(ds:T0 D):qD:=ds.map some++List.replicate (N.length - ds.length) none
def CN{K:mZ}{H:Hp}{N:QQQ}{ds:T0 D}{vs:T0 V}(h:mS K H ds vs):u6 K H (L2.sF N vs) (um N ds):=λi d q=>by
 unfold um at q;unfold L2.sF;by_cases hi:i<ds.length
 .rw[dQ (by simpa using hi),bJ]at q;cases e:ds[i]? with
  | none=>rw[e]at q;cases q
  | some d'=>rw[e]at q;cases q;obtain⟨v,e1,e2⟩:=h.get e;refine⟨v,?_,e2⟩;rw[dQ (by rw[bi,<-h.length];exact hi),bJ,e1];rfl
 .rw[eD (by simpa using hi),iQ]at q;split at q<;>cases q
variable {P:Pg}{w:Wo}{mg:QQZ}{base:Heap}
abbrev GD(P:Pg)(w:Wo)(K:mZ)(mg:QQZ)(base:Heap)(k:Nat)(f:Addr)(fd:FuncData)(ps:QQQ)(sp:pJ):Prop:=wd P w K mg base FC k f fd ps (IT K sp)
variable {k:Nat}{f C:Addr}{fd:FuncData}{ps:QQQ}{sp:pJ}{x m fn:Str}{p MZ:Pos}{e o:Expr}{es:T0 Expr}{t:rN}
def xC(sp:pJ)(t:rN):T3:=λU M Q=>t U M λds M1=>sp ds M1 Q
def FK(F:GD X.prog X.w X.K X.mg X.base k f fd ps sp)(hr:oE k X.A)(hg:Gl X x)(hm:X.mg x=some (.ref f))(hk:W.keepIn X.K (.ref f)=true)(hb:qY X.K fd ps [])(ha:A3 X (e::es) t) (Nx:ve x:=by decide) (he:xw X e es:=by rfl) (Np:y6 X pos es:=by rfl):
  E3 X (.Call (.Name x p) (e::es) [] pos) (xC sp t):=PE.mono (Gi F hr hg hm hk hb .nil (Cg (X:=X)) ha Nx he Np) λY H Q' zz=>x7 zz λU M Q hs hm ht k=>
 ⟨U,M,_,hs,hm,ht,λvs H1 ds M1 hd MX e1 q1=>⟨ds,M1,Q,by rw[b5];exact hd,MX,q1,sH e1 k⟩⟩
def C3(X:Cx)(f:Vl)(r:pJ):Prop:=sQ X f λvs H Q'=>∃ds M Q,mS X.K H ds vs/\HM X.K H M/\r ds M Q/\Up X.K H Q' Q
def mR{id:String}{r:pJ}(hc:C3 X (.builtin id) r)(hg:Gl X x)(hm:X.mg x=none)(hv:bootBuiltins x=some (.builtin id))(ha:A3 X (e::es) t)(hn:x≠"__name__":=by decide)(Nx:ve x:=by decide)
  (he:xw X e es:=by rfl) (Np:y6 X pos es:=by rfl):E3 X (.Call (.Name x p) (e::es) [] pos) (xC r t):=
 PE.mono (Dx hc hg hm hv ha hn Nx he Np) λY H Q' zz=>x7 zz λU M Q hs hm ht k=>⟨U,M,_,hs,hm,ht,λvs H1 ds M1 hd MX e1 q1=>⟨ds,M1,Q,hd,MX,q1,sH e1 k⟩⟩
def pf{T:String}{r:pJ}(hc:C3 X (.type T) r)(hg:Gl X x)(hm:X.mg x=none)(hv:bootBuiltins x=some (.type T))(ha:A3 X (e::es) t)(hn:x≠"__name__":=by decide)(Nx:ve x:=by decide)
  (he:xw X e es:=by rfl) (Np:y6 X pos es:=by rfl):E3 X (.Call (.Name x p) (e::es) [] pos) (xC r t):=
 PE.mono (CI hc hg hm hv ha hn Nx he Np) λY H Q' zz=>x7 zz λU M Q hs hm ht k=>⟨U,M,_,hs,hm,ht,λvs H1 ds M1 hd MX e1 q1=>⟨ds,M1,Q,hd,MX,q1,sH e1 k⟩⟩
def J1(ds:T0 D)(M:Mp)(Q:DK):Prop:=match ds with
 | [.str z]=>z.length<=sizeLine/\Q (.int z.length) M
 | [.tup es]=>Q (.int es.length) M
 | [.ref a]=>(md M a).elim False λes=>Q (.int es.length) M
 | [.rl es]=>Q (.int es.length) M
 | _=>False
def nQ{K:mZ}{H:Hp}{d:D}{vs:T0 V}(h:mS K H [d] vs):∃v,vs=[v]/\nR K H d v:=by obtain⟨x,r,rfl,a,b⟩:=h.inv;rw[b.nil_inv];exact⟨x,rfl,a⟩
def vm{K:mZ}{H:Hp}{d e:D}{vs:T0 V}(h:mS K H [d,e] vs):∃v u,vs=[v,u]/\nR K H d v/\nR K H e u:=by obtain⟨x,r,rfl,a,b⟩:=h.inv;obtain⟨y,rfl,c⟩:=nQ b;exact⟨x,y,rfl,a,c⟩
def nU:C3 X (.builtin "len") J1:=by
 intro MV s Y H vs us Q' I rv h;obtain⟨ds,M,Q,hd,hm,q,k⟩:=h;unfold J1 at q;split at q
 .obtain⟨v,rfl,hv⟩:=nQ hd;cases hv.str_inv;exact yS MV s Y H _ us Q' I rv ⟨_,rfl,q.1,k _ _ _ _ .int hm .refl q.2⟩
 .obtain⟨v,rfl,hv⟩:=nQ hd;obtain⟨a,xs,rfl,h1,h2⟩:=hv.lm;exact rh MV s Y H _ us Q' I rv ⟨a,xs,rfl,.inr h1,k _ _ _ _ (by rw[<-h2.length];exact .int) hm .refl q⟩
 .obtain⟨v,rfl,hv⟩:=nQ hd;obtain⟨es,e0,q⟩:=ny q;cases hv.k8;obtain⟨xs,h1,h2,_⟩:=mL hm e0;exact rh MV s Y H _ us Q' I rv ⟨_,xs,rfl,.inl h1,k _ _ _ _ (by rw[<-h2.length];exact .int) hm .refl q⟩
 .obtain⟨v,rfl,hv⟩:=nQ hd;obtain⟨a,xs,rfl,h1,h2⟩:=hv.lC;exact rh MV s Y H _ us Q' I rv ⟨a,xs,rfl,.inl h1.sq,k _ _ _ _ (by rw[<-h2.length];exact .int) hm .refl q⟩
 .exact q.elim
def KH(ds:T0 D)(M:Mp)(Q:DK):Prop:=match ds with
 | [.int i,.int j]=>Q (.int (if j<i then j else i)) M
 | _=>False
def IH(hc:X.calm=true):C3 X (.builtin "min") KH:=by
 intro MV s Y H vs us Q' I rv h;obtain⟨ds,M,Q,hd,hm,q,k⟩:=h;unfold KH at q;split at q
 .obtain⟨v,u,rfl,hv,hw⟩:=vm hd;cases hv.int_inv;cases hw.int_inv;exact Cn hc MV s Y H _ us Q' I rv ⟨_,_,rfl,k _ _ _ _ .int hm .refl q⟩
 .exact q.elim
def E2(ds:T0 D)(M:Mp)(Q:DK):Prop:=match ds with
 | [.tup es]=>Q (.tup es) M
 | [.ref a]=>(md M a).elim False λes=>Q (.tup es) M
 | [.rl es]=>Q (.tup es) M
 | _=>False
def D9:C3 X (.type "tuple") E2:=by
 intro MV s Y H vs us Q' I rv h;obtain⟨ds,M,Q,hd,hm,q,k⟩:=h;unfold E2 at q;split at q
 .obtain⟨v,rfl,hv⟩:=nQ hd;obtain⟨a,xs,rfl,h1,h2⟩:=id hv.lm;exact qR MV s Y H _ us Q' I rv ⟨a,xs,rfl,.inr ⟨h1,k _ _ _ _ hv hm .refl q⟩⟩
 .obtain⟨v,rfl,hv⟩:=nQ hd;obtain⟨es,e0,q⟩:=ny q;cases hv.k8;obtain⟨xs,h1,h2,_⟩:=mL hm e0;refine qR MV s Y H _ us Q' I rv ⟨_,xs,rfl,.inl ⟨h1,λl hl=>?_⟩⟩;have e:nA X.K H (upd H l (.tup xs)):=.new hl;exact k _ _ _ _ (.tup (.of mY) (h2.mono e)) (hm.add hl) e q
 .obtain⟨v,rfl,hv⟩:=nQ hd;obtain⟨a,xs,rfl,h1,h2⟩:=hv.lC;refine qR MV s Y H _ us Q' I rv ⟨_,xs,rfl,.inl ⟨h1.sq,λl hl=>?_⟩⟩;have e:nA X.K H (upd H l (.tup xs)):=.new hl;exact k _ _ _ _ (.tup (.of mY) (h2.mono e)) (hm.add hl) e q
 .exact q.elim
def HA(ds:T0 D)(M:Mp)(Q:DK):Prop:=match ds with
 | [d]=>(AL M d).elim False λes=>∀p,M p=none->Q (.ref p) (mN M p (.lst es))
 | _=>False
def xV:C3 X (.type "list") HA:=by
 intro MV s Y H vs us Q' I rv h;obtain⟨ds,M,Q,hd,hm,q,k⟩:=h;unfold HA at q;split at q
 .obtain⟨v,rfl,hv⟩:=nQ hd;obtain⟨es,e0,q⟩:=ny q;obtain⟨p,xs,rfl,h1,h2⟩:=vC hm hv e0;refine yC MV s Y H _ us Q' I rv ⟨p,xs,rfl,h1,λl hl=>?_⟩;have e:nA X.K H (upd H l (.lst xs)):=.new hl;exact k _ _ _ _ .ref (hm.new (c:=.lst es) hl ⟨_,mY,h2.mono e⟩) e (q l (hm.fresh hl))
 .exact q.elim
theorem tD{K:mZ}{H:Hp}{f:Str}:∀{fs:T0 (Str×D)} {vs:T0 (Str×V)},wb K H fs vs->(∀d,fs.lookup f=some d->∃v,vs.lookup f=some v/\nR K H d v)/\(fs.lookup f=none->vs.lookup f=none)
 | [],[],_=>⟨λd e=>by simp at e,λ_=>rfl⟩
 | [],_::_,h=>by have:=h.1;simp at this
 | _::_,[],h=>by have:=h.1;simp at this
 | (g,d)::fs,(g',v)::vs,h=>by
  have h1:g'=g/\vs.map (·.1)=fs.map (·.1):=by
   have:=h.1
   simpa using this
  obtain⟨x,r,e,a,b⟩:=h.2.inv;have e':v::vs.map (·.2)=x::r:=e;cases e';obtain⟨i1,i2⟩:=tD (f:=f) (fs:=fs) (vs:=vs) ⟨h1.2,b⟩;rw[h1.1];refine⟨λd' e=>?_,λe=>?_⟩
  .rw[cf]at e ⊢;cases q:f==g with
   | true=>rw[q]at e;cases e;exact⟨v,rfl,a⟩
   | false=>rw[q]at e;exact i1 d' e
  .rw[cf]at e ⊢;cases q:f==g with
   | true=>rw[q]at e;cases e
   | false=>rw[q]at e;exact i2 e
theorem BD{f:Str}{d:D}:∀{fs:T0 (Str×D)},fs.lookup f=some d->f∈fs.map (·.1)
 | [],h=>by simp at h
 | (g,e)::r,h=>by
  rw[cf]at h;cases q:f==g with
  | true=>
   have z:f=g:=by simpa using q
   rw[z,cb];exact bM
  | false=>rw[q]at h;simp[BD h]
def C4(o:Option qp)(F:Addr->T0 (Str×D)->Prop):Prop:=match o with
 | some (.ins C fs)=>F C fs
 | _=>False
def mW{o:Option qp}{F:Addr->T0 (Str×D)->Prop}{C:Addr}{fs:T0 (Str×D)}(e:o=some (.ins C fs))(h:F C fs):C4 o F:=by rw[e];exact h
def vX{o:Option qp}{F:Addr->T0 (Str×D)->Prop}(h:C4 o F):∃C fs,o=some (.ins C fs)/\F C fs:=by
 unfold C4 at h;split at h
 .exact⟨_,_,rfl,h⟩
 .exact h.elim
def LV(f:Str)(ta:T3):T3:=λU M Q=>ta U M λx M1=>match x with
 | .ref a=>C4 (M1 a) λ_ fs=>(fs.lookup f).elim False λd=>Q d M1
 | _=>False
def sT{f:Str}(he:E3 X o ta)(hb:attributeBase o f X.env (eval o X.env)=eval o X.env:=by rfl):E3 X (.Attribute o f pos) (LV f ta):=PE.mono (IS he hb) λY H Q' zz=>x7 zz λU M Q hs hm ht k=>
 ⟨U,M,_,hs,hm,ht,λv H1 d M1 hd MX e1 q1=>by
  cases d with
  | ref a=>cases hd.k8;obtain⟨C,fs,e,q1⟩:=vX q1;obtain⟨d,e2,q⟩:=ny q1;obtain⟨dx,vs,h1,cl,na,fo⟩:=MX a _ e;obtain⟨v,e3,hv⟩:=(tD fo).1 d e2;exact⟨a,C,dx,vs,v,rfl,h1,cl,na f (BD e2),e3,k v H1 d M1 hv MX e1 q⟩
  | _=>exact q1.elim⟩
noncomputable def vN(f:Str)(v:D):T0 (Str×D)->T0 (Str×D)
 | []=>[(f,v)]
 | (g,u)::r=>if g=f then(g,v)::r else(g,u)::vN f v r
theorem BR{K:mZ}{H:Hp}{f:Str}{d:D}{v:V}(hv:nR K H d v):∀{fs:T0 (Str×D)} {vs:T0 (Str×V)},wb K H fs vs->wb K H (vN f d fs) (ra f v vs)
 | [],[],_=>⟨rfl,.cons hv .nil⟩
 | [],_::_,h=>by have:=h.1;simp at this
 | _::_,[],h=>by have:=h.1;simp at this
 | (g,e)::fs,(g',u)::vs,h=>by
  have h1:g'=g/\vs.map (·.1)=fs.map (·.1):=by
   have:=h.1
   simpa using this
  obtain⟨x,r,e1,a,b⟩:=h.2.inv;have e':u::vs.map (·.2)=x::r:=e1;cases e';obtain⟨hg,ht⟩:=h1;subst hg;rw[show vN f d ((g',e)::fs)=(if g'=f then(g',d)::fs else(g',e)::vN f d fs)from rfl,show ra f v ((g',u)::vs)=(if g'=f then(g',v)::vs else(g',u)::ra f v vs)from rfl];by_cases q:g'=f
  .rw[bA q,bA q];exact⟨by simpa using ht,.cons hv b⟩
  .rw[bv q,bv q];obtain⟨i1,i2⟩:=BR hv (fs:=fs) (vs:=vs) ⟨ht,b⟩;exact⟨by simpa using i1,.cons a i2⟩
theorem zK{f:Str}{d:D}:∀{fs:T0 (Str×D)} {g:Str},g∈(vN f d fs).map (·.1)->g=f\/g∈fs.map (·.1)
 | [],g,h=>.inl (by simpa [vN]using h)
 | (k,e)::r,g,h=>by
  rw[show vN f d ((k,e)::r)=(if k=f then(k,d)::r else(k,e)::vN f d r)from rfl]at h;by_cases q:k=f
  .rw[bA q]at h;exact .inr (by simpa using h)
  .rw[bv q]at h;rw[cb,bq]at h;rcases h with h|h
   .exact .inr (by simp[h])
   .rcases zK h with z|z
    .exact .inl z
    .exact .inr (by simp;right;simpa using z)
def Kp(K:mZ)(f:Str)(ta tv:T3):ui:=λD U M=>tv U M λy M1=>ta U M1 λx M2=>match x with
 | .ref a=>C4 (M2 a) λC fs=>pP K C f/\fs.length<1000/\D.nx U (mN M2 a (.ins C (vN f y fs)))
 | _=>False
def oF{f:Str}{value:Expr}{tv:T3}{Nq:Pos}(ha:E3 X o ta)(hv:E3 X value tv)(OK:swapsWith value (some (.Attribute o f Nq)) pos.line X.env=pure false:=by rfl):S3 X (.Assign [.Attribute o f Nq] value pos) (Kp X.K f ta tv):=
 PS.mono (II ha hv OK) λD' Y H zz=>F8 zz λU M D hs hm ht k1 k2 k3 k4=>
 ⟨U,M,_,hs,hm,ht,λy H1 dy M1 hy MX e1 q1=>⟨U,M1,_,hs.mono e1,MX,q1,λv H2 d M2 hd Nj e2 q2=>by
  cases d with
  | ref a=>
   cases hd.k8;obtain⟨C,fs,e,q2⟩:=vX q2;obtain⟨na,hl,q⟩:=q2;obtain⟨dx,vs,h1,cl,nn,fo⟩:=Nj a _ e;have Na:vs.length=fs.length:=by have:=de List.length fo.1;simpa using this
   refine⟨a,C,dx,vs,rfl,h1,cl,na,by lia,?_⟩;obtain⟨OP,e3⟩:=Nj.put (p:=a) (o:=.ins C dx (ra f y vs)) (c:=.ins C (vN f dy fs)) e λx=>⟨dx,_,mY,cl,λg hg=>by
    rcases zK hg with z|z
    .rw[z];exact na
    .exact nn g z,BR ((hy.mono e2).mono x) (fo.mono x)⟩
   exact k1 Y _ U _ (hs.mono (e1.trans (e2.trans e3))) OP (e1.trans (e2.trans e3)) rfl q
  | _=>exact q2.elim⟩⟩
def Hy(C:Addr)(sp:pJ)(t:rN):T3:=λU M Q=>t U M λds M1=>∀x,M1 x=none->sp (.ref x::ds) (mN M1 x (.ins C [])) λd M2=>d=.lw/\Q (.ref x) M2
def EJ{K:mZ}{H:Hp}{M:Mp}{xa dx:Addr}(hm:HM K H M)(cl:Cls K C)(h1:H xa=none)(h2:H dx=none)(ne:dx≠xa):HM K (upd (upd H dx (.own xa)) xa (.ins C dx [])) (mN M xa (.ins C []))/\nA K H (upd (upd H dx (.own xa)) xa (.ins C dx [])):=by
 have Oh:upd H dx (.own xa) xa=none:=by rw[m7 (bQ ne)];exact h1
 exact⟨(hm.add (p:=dx) (o:=.own xa) h2).new Oh ⟨dx,[],mY,cl,λg hg=>by simp at hg,rfl,.nil⟩,nA.trans (.new h2) (.new Oh)⟩
def G0(cl:Cls X.K C)(Mk':Mk X.K C f)(F:GD X.prog X.w X.K X.mg X.base k f fd ps sp)(hr:oE (k+1) X.A)(hg:Gl X x)(hm:X.mg x=some (.ref C))(hb:qY X.K fd ps [])(ha:A3 X (e::es) t) (Nx:ve x:=by decide) (he:xw X e es:=by rfl) (Np:y6 X pos es:=by rfl):
  E3 X (.Call (.Name x p) (e::es) [] pos) (Hy C sp t):=PE.mono (FJ Mk' F hr hg hm hb .nil (Cg (X:=X)) ha Nx he Np) λY H Q' zz=>x7 zz λU M Q hs hm ht k=>
 ⟨U,M,_,hs,hm,ht,λvs H1 ds M1 hd MX e1 q1=>λxa dx n1 n2 ne=>by
  obtain⟨Nj,e2⟩:=EJ MX cl n1 n2 ne;refine⟨.ref xa::ds,_,_,?_,Nj,q1 xa (MX.fresh n1),λv H3 d M3 hd3 OP e3 q3=>?_⟩
  .rw[b5];exact .cons .ref (hd.mono e2)
  .obtain⟨z,q3⟩:=q3;subst z;exact⟨hd3.lg,k _ H3 _ M3 .ref OP (e1.trans (e2.trans e3)) q3⟩⟩
def D7(m:Str)(R:Addr->Sp->Prop)(ta:TE)(t:TA):TE:=λY H Q=>ta Y H λx H1=>∃a C dx fs sp,x=.ref a/\H1 a=some (.ins C dx fs)/\fs.lookup m=none/\R C sp/\t Y H1 λvs H2=>sp (x::vs) H2 Q E0
def yP(P:Pg)(w:Wo)(K:mZ)(mg:QQZ)(base:Heap)(k:Nat)(m:Str)(C:Addr)(sp:Sp):Prop:=Cls K C/\∃f fd ps,tF K C m f/\wd P w K mg base FC k f fd ps sp/\qY K fd ps []
def CH{R:Addr->Sp->Prop}{ta:TE}{pl:Sem Bool}(he:PE X o ta)(hR:∀C sp,R C sp->yP X.prog X.w X.K X.mg X.base k m C sp)(hr:oE k X.A) (ht:eval (.Call (.Attribute o m MZ) [] [] pos) X.env=(do
   let ov<-eval o X.env
   standAt MZ.atName
   let(f,first)<-holding [ov] (getMethod ov m pl)
   callWith pos f first (backTo pos (starEach [] X.env)) (backToKw pos (keywordEach [] X.env))):=by rfl):
  PE X (.Call (.Attribute o m MZ) [] [] pos) (D7 m R ta KC):=by
 intro MV s Y H Q I h;refine kz (pl:=pl) (o6 (he MV s Y H _ I h) λu s1 zz=>?_) ht;obtain⟨x,H1,I1,rx,a,C,dx,fs,sp,ex,ea,l,hRC,q⟩:=zz;obtain⟨c,f,fd,ps,hm,F,hb⟩:=hR C sp hRC;subst ex;obtain rfl:u=Value.ref a:=rx;refine AZ I1 ea c hm l ?_;exact W.callWith_K0 (first:=[.ref a]) I1.lG hm.kp (AX (us:=[.ref a]) (vs:=[.ref a]) F hr hb .nil (Cg (X:=X)) I1 (.cons rfl .nil) (by rw[b5];exact q))
def ES(m:Str)(R:Addr->pJ->Prop)(ta:T3)(t:rN):T3:=λU M Q=>ta U M λx M1=>match x with
 | .ref a=>C4 (M1 a) λC fs=>fs.lookup m=none/\∃sp,R C sp/\t U M1 λds M2=>sp (x::ds) M2 Q
 | _=>False
def Mv(K:mZ)(R:Addr->pJ->Prop):Addr->Sp->Prop:=λC sp'=>∃sp,R C sp/\sp'=IT K sp
def GT{R:Addr->pJ->Prop}:∀Y H Q',lo X.K (ES m R ta t) Y H Q'->D7 m (Mv X.K R) (lo X.K ta) (Mh X.K t) Y H Q':=λY H Q' zz=>x7 zz λU M Q hs hm ht k=>
 ⟨U,M,_,hs,hm,ht,λv H1 d M1 hd MX e1 q1=>by
  cases d with
  | ref a=>cases hd.k8;obtain⟨C,fs,e,q1⟩:=vX q1;obtain⟨hn,sp,hR,q⟩:=q1;obtain⟨dx,vs,h1,cl,na,fo⟩:=MX a _ e;exact⟨a,C,dx,vs,_,rfl,h1,(tD fo).2 hn,⟨sp,hR,rfl⟩,U,M1,_,hs.mono e1,MX,q,λus H2 ds M2 Od Nj e2 q2=>⟨.ref a::ds,M2,Q,.cons .ref Od,Nj,q2,sH (e1.trans e2) k⟩⟩
  | _=>exact q1.elim⟩
def tW{R:Addr->pJ->Prop}{pl:Sem Bool}(he:E3 X o ta)(hR:∀C sp,R C sp->yP X.prog X.w X.K X.mg X.base k m C (IT X.K sp))(hr:oE k X.A) (ht:eval (.Call (.Attribute o m MZ) [] [] pos) X.env=(do
   let ov<-eval o X.env
   standAt MZ.atName
   let(f,first)<-holding [ov] (getMethod ov m pl)
   callWith pos f first (backTo pos (starEach [] X.env)) (backToKw pos (keywordEach [] X.env))):=by rfl):
  E3 X (.Call (.Attribute o m MZ) [] [] pos) (ES m R ta vH):=PE.mono (CH (R:=Mv X.K R) he (λC sp' ⟨sp,h,z⟩=>by rw[z];exact hR C sp h) hr ht) λY H Q' h=>by
 obtain⟨U,M,Q,hs,hm,ht,k⟩:=GT (t:=vH) Y H Q' h;refine⟨U,M,Q,hs,hm,ht,λv H' d M' x1 x2 x3 x4=>?_⟩;obtain⟨a,C,dx,fs,sp,e1,e2,e3,e4,δ',Nn,Q'',y1,y2,y3,y4⟩:=k v H' d M' x1 x2 x3 x4;exact⟨a,C,dx,fs,sp,e1,e2,e3,e4,y4 [] H' [] Nn .nil y2 .refl y3⟩
structure wK(K:mZ)(H1:Hp)(J:It)(ds:List D)(ok:Mp->Prop):Prop where
 go:∀i H M,i<ds.length->HM K H M->ok M->nA K H1 H->J.go i H
 mB:∀i d H M x H',ds[i]?=some d->HM K H M->ok M->nA K H1 H->J.mB i H x H'->nR K H' d x/\HM K H' M/\nA K H H'
 stop:∀H M,HM K H M->ok M->nA K H1 H->J.stop ds.length H
abbrev Dj:=qD->Mp->(T0 D->(Mp->Prop)->Mp->Prop)->Prop
def Mm(K:mZ)(wi:Dj):TI:=λY H R'=>Bf λU M R=>u6 K H Y U/\HM K H M/\wi U M R/\∀J H1 ds ok M1,wK K H1 J ds ok->HM K H1 M1->nA K H H1->ok M1->R ds ok M1->R' J H1
def I3(X:Cx)(tg iter:Expr)(wi:Dj):Prop:=PI X tg iter (Mm X.K wi)
def PI.mono{X:Cx}{tg e:Expr}{t t':TI}(h:PI X tg e t)(m:∀Y H Q,t' Y H Q->t Y H Q):PI X tg e t':=λMV s Y H Q I q=>h MV s Y H Q I (m Y H Q q)
variable {H1:Hp}
def DM{a:Addr}{ds:T0 D}:wK K H1 (K5 K a) ds (λM=>md M a=some ds) where
 go:=λi H M hi hm ok _=>by obtain⟨xs,h1,h2,_⟩:=mL hm ok;obtain⟨x,e,_⟩:=h2.get (bC hi);exact⟨xs,x,h1,e⟩
 mB:=λi d H M x H' hd hm ok _ y=>by obtain⟨xs,h1,h2,_⟩:=mL hm ok;obtain⟨e,y⟩:=y;subst e;obtain⟨x',e,hx⟩:=h2.get hd;have:=y xs h1;rw[e]at this;cases this;exact⟨hx,hm,.refl⟩
 stop:=λH M hm ok _=>by obtain⟨xs,h1,h2,_⟩:=mL hm ok;exact⟨xs,h1,by rw[h2.length];exact bw _⟩
def Ha{a:Addr}{ds:T0 D}{xs:T0 V}(h1:p9 K H1 a xs)(h2:mS K H1 ds xs):wK K H1 (Lm K a) ds (λ_=>True) where
 go:=λi H M hi hm ok e1=>by obtain⟨x,e,_⟩:=h2.get (bC hi);exact⟨xs,x,e1.t _ _ h1,e⟩
 mB:=λi d H M x H' hd hm ok e1 y=>by obtain⟨e,y⟩:=y;subst e;obtain⟨x',e,hx⟩:=h2.get hd;have:=y xs (e1.t _ _ h1);rw[e]at this;cases this;exact⟨hx.mono e1,hm,.refl⟩
 stop:=λH M hm ok e1=>⟨xs,e1.t _ _ h1,by rw[h2.length];exact bw _⟩
def Jt{a:Addr}{ds:T0 D}{xs:T0 V}(h1:FF K H1 a xs)(h2:mS K H1 ds xs):wK K H1 (K5 K a) ds (λ_=>True) where
 go:=λi H M hi hm ok e1=>by obtain⟨x,e,_⟩:=h2.get (bC hi);exact⟨xs,x,(h1.mono e1).sq,e⟩
 mB:=λi d H M x H' hd hm ok e1 y=>by obtain⟨e,y⟩:=y;subst e;obtain⟨x',e,hx⟩:=h2.get hd;have:=y xs (h1.mono e1).sq;rw[e]at this;cases this;exact⟨hx.mono e1,hm,.refl⟩
 stop:=λH M hm ok e1=>⟨xs,(h1.mono e1).sq,by rw[h2.length];exact bw _⟩
def CQ{n:Nat}{lo:Int}:wK K H1 (K6 lo n) ((List.range n).map λi=>D.int (lo+(i:Nat))) (λ_=>True) where
 go:=λi H M hi hm ok e1=>by
  have z:i<n:=by simpa using hi
  exact z
 mB:=λi d H M x H' hd hm ok e1 y=>by
  obtain⟨e,y⟩:=y;subst e;subst y;have hi:i<n:=by
   have:=(bI.mp hd).1
   simpa using this
  have hd':d=D.int (lo+(i:Nat)):=by rw[bJ,gU hi]at hd;exact(bH hd).symm
  subst hd';exact⟨.int,hm,.refl⟩
 stop:=λH M hm ok e1=>by show n<=_;simp
variable {scope:Scope}{ix:T0 (Option Nat)}{N':QQQ}{iter NQ:Expr}{NA:T0 Expr}{wi:Dj}{g:y9}{tt:wI}{te:T3}{tg:Expr}
def Kl(t:T3):Dj:=λU M R=>t U M λx M1=>match x with
 | .tup ds=>R ds (λ_=>True) M1
 | .ref a=>(md M1 a).elim False λds=>R ds (λM=>md M a=some ds) M1
 | .rl ds=>R ds (λ_=>True) M1
 | .str z=>R (z.cps.toList.map λc=>D.str ⟨#[c]⟩) (λ_=>True) M1
 | _=>False
def FV{K:mZ}{H1:Hp}{z:Str}:wK K H1 (L' z) (z.cps.toList.map λc=>D.str ⟨#[c]⟩) (λ_=>True) where
 go:=λi H M hi hm ok _=>by
  show i<z.cps.size
  simpa using hi
 mB:=λi d H M x H' hd hm ok _ y=>by obtain⟨e,c,e1,e2⟩:=y;subst e e2;rw[bJ,ci,e1]at hd;cases hd;exact⟨.str,hm,.refl⟩
 stop:=λH M hm ok _=>by show _=z.cps.size;simp
def oq{l:Expr}{t:T3}(h:E3 X l t)(hc:X.calm=true:=by rfl):I3 X tg l (Kl t):=PI.mono (Gj hc h) λY H R' zz=>x7 zz λU M R hs hm ht k=>
 ⟨U,M,_,hs,hm,ht,λv H1 d M1 hd MX e1 q1=>by
  cases d with
  | tup ds=>obtain⟨a,xs,rfl,h1,h2⟩:=hd.lm;exact .inl ⟨a,rfl,.inr ⟨⟨xs,h1⟩,k _ H1 ds _ M1 (Ha h1 h2) MX e1 trivial q1⟩⟩
  | ref a=>cases hd.k8;obtain⟨ds,e0,q⟩:=ny q1;obtain⟨xs,h1,h2,_⟩:=mL MX e0;exact .inl ⟨a,rfl,.inl ⟨⟨xs,h1⟩,k _ H1 ds _ M1 DM MX e1 e0 q⟩⟩
  | str z=>exact .inr ⟨z,hd.str_inv,k _ H1 _ _ M1 FV MX e1 trivial q1⟩
  | rl ds=>obtain⟨a,xs,rfl,h1,h2⟩:=hd.lC;exact .inl ⟨a,rfl,.inl ⟨⟨xs,h1.sq⟩,k _ H1 ds _ M1 (Jt h1 h2) MX e1 trivial q1⟩⟩
  | _=>exact q1.elim⟩
def Ki(t:rN):Dj:=λU M R=>t U M λds M1=>match ds with
 | [.int j]=>(-(2 ^ 62)<=j/\j<2 ^ 62)/\R ((List.range j.toNat).map λi=>D.int (0+(i:Nat))) (λ_=>True) M1
 | [.int i,.int j]=>(-(2 ^ 62)<=i/\i<2 ^ 62/\-(2 ^ 62)<=j/\j<2 ^ 62)/\R ((List.range (j - i).toNat).map λn=>D.int (i+(n:Nat))) (λ_=>True) M1
 | _=>False
def qi{a:Expr}{ta:rN}(hg:Gl X "range")(hm:X.mg "range"=none)(ha:A3 X [a] ta)(hs:starEach [a] X.env=[(false,eval a X.env)]:=by rfl):I3 X tg (.Call (.Name "range" p) [a] [] pos) (Ki λU M Q=>ta U M λds M1=>ds.length=1/\Q ds M1):=
 PI.mono (CO hg hm ha hs) λY H R' zz=>x7 zz λU M R hs hm ht k=>⟨U,M,_,hs,hm,ht,λvs H1 ds M1 hd MX e1 q1=>by
  obtain⟨hl,q1⟩:=q1;split at q1
  .obtain⟨v,rfl,hv⟩:=nQ hd;cases hv.int_inv;exact⟨_,rfl,q1.1.1,q1.1.2,k _ H1 _ _ M1 CQ MX e1 trivial q1.2⟩
  .simp at hl
  .exact q1.elim⟩
def yL(g:y9)(tb:ui)(ok:Mp->Prop)(E:zS):T0 D->qD->Mp->Prop
 | [],U,M=>E.nx U M
 | d::r,U,M=>g d U M λδ2 M2=>tb {E with nx:=λδ' M'=>ok M'/\yL g tb ok E r δ' M',ct:=λδ' M'=>ok M'/\yL g tb ok E r δ' M',bk:=E.nx} δ2 M2
def Iq(wi:Dj)(g:y9)(tb:ui):ui:=λE U M=>wi U M λds ok M1=>yL g tb ok E ds U M1
def pY{iter:Expr}{body:T0 Stmt}{wi:Dj}{g:y9}{tb:ui}(hp:PassesOwn (model X.prog X.w) X.A X.env X.xe)(hc:X.calm=true)(hi:I3 X tg iter wi)(hg:G3 X tg g)(hb:Ee X body tb) (hs:∀x,foldedSetIterable iter X.env x=pure x:=by intro _;rfl):S3 X (.For tg iter body [] pos) (Iq wi g tb):=PS.mono (HP hp hc hi hg hb hs) λD' Y H zz=>F8 zz λU M E hs hm ht k1 k2 k3 k4=>
 ⟨U,M,_,hs,hm,ht,λJ H1 ds ok M1 S MX e1 ok1 q1=>by
  refine⟨λi m σ' H'=>m=ds.length - i/\i<=ds.length/\∃δ' M',u6 X.K H' σ' δ'/\HM X.K H' M'/\ok M'/\nA X.K H1 H'/\σ'.length=Y.length/\yL g tb ok E (ds.drop i) δ' M',⟨ds.length,by simp,cF _,U,M1,hs.mono e1,MX,ok1,.refl,rfl,by simpa using q1⟩,?_⟩
  rintro i m σ' H' ⟨rfl,hi,δ',M',NB,OO,PX,e',l',q'⟩
  by_cases Nd:i<ds.length
  .rw[dh Nd]at q';refine .inr ⟨S.go i H' M' Nd OO PX e',λσ2 H2=>∃δ2 M2,u6 X.K H2 σ2 δ2/\HM X.K H2 M2/\ok M2/\nA X.K H1 H2/\σ2.length=Y.length/\yL g tb ok E (ds.drop (i+1)) δ2 M2,λσ2 H2 z=>⟨ds.length - (i+1),by lia,rfl,Nd,z⟩,λx H2 y=>?_⟩;obtain⟨hx,Nj,e2⟩:=S.mB i ds[i] H' M' x H2 (bC Nd) OO PX e' y;refine⟨ds[i],δ',M',_,hx,NB.mono e2,Nj,q',λσ3 H3 δ3 M3 x1 x2 x3 x4 x5=>?_⟩;refine⟨δ3,M3,_,x1,x2,x5,λσ4 H4 δ4 M4 y1 y2 y3 y4 y5=>?_,λv H4 d M4 y1 y2 y3 y4=>?_,λσ4 H4 δ4 M4 y1 y2 y3 y4 y5=>?_,λσ4 H4 δ4 M4 y1 y2 y3 y4 y5=>?_⟩
   .exact⟨δ4,M4,y1,y2,y5.1,e'.trans (e2.trans (x3.trans y3)),by rw[y4,x4,l'],y5.2⟩
   .exact k2 v H4 d M4 y1 y2 (e1.trans (e'.trans (e2.trans (x3.trans y3)))) y4
   .exact k1 σ4 H4 δ4 M4 y1 y2 (e1.trans (e'.trans (e2.trans (x3.trans y3)))) (by rw[y4,x4,l']) y5
   .exact⟨δ4,M4,y1,y2,y5.1,e'.trans (e2.trans (x3.trans y3)),by rw[y4,x4,l'],y5.2⟩
  .have e:i=ds.length:=by lia
   subst e;rw[kj]at q';exact .inl ⟨S.stop H' M' OO PX e',k1 σ' H' δ' M' NB OO (e1.trans e') l' q'⟩⟩
noncomputable def Gg(ix:T0 (Option Nat))(U:qD):qD:=ix.map λo=>o.bind λi=>(U[i]?).join
def GK{K:mZ}{H:Hp}{Y:St}{U:qD}{ix:T0 (Option Nat)}(h:u6 K H Y U):u6 K H (GN ix Y) (Gg ix U):=λi d q=>by
 unfold Gg at q;unfold GN;rw[bJ]at q ⊢;cases e:ix[i]? with
 | none=>rw[e]at q;cases q
 | some o=>
  rw[e]at q;cases o with
  | none=>cases q
  | some j=>
   have q':(U[j]?).join=some d:=bH q;have e4:U[j]?=some (some d):=by
    cases r:U[j]? with
    | none=>rw[r]at q';cases q'
    | some w=>rw[r]at q';exact de some q'
   obtain⟨v,e5,hv⟩:=h j d e4;refine⟨v,?_,hv⟩;show some ((Y[j]?).join)=some (some v);rw[e5];rfl
def rC(g:y9)(tt:wI)(te:T3)(ok:Mp->Prop)(Q:DK):T0 D->T0 D->qD->Mp->Prop
 | [],acc,_,M=>acc.length<=sizeLine/\∀p,M p=none->Q (.ref p) (mN M p (.lst acc))
 | d::r,acc,U,M=>acc.length<sizeLine/\g d U M λδ2 M2=>tt δ2 M2 λb M3=>if b=true then te δ2 M3 λy M4=>ok M4/\rC g tt te ok Q r (acc++[y]) δ2 M4 else ok M3/\rC g tt te ok Q r acc δ2 M3
def ER(ix:T0 (Option Nat))(wi:Dj)(g:y9)(tt:wI)(te:T3):T3:=λU M Q=>wi U M λds ok M1=>rC g tt te ok Q ds [] (Gg ix U) M1
def F3(X:Cx)(NA:T0 Expr)(t:wI):Prop:=PF X NA (JG X.K t)
def PF.mono{X:Cx}{e:T0 Expr}{t t':TT}(h:PF X e t)(m:∀Y H Q,t' Y H Q->t Y H Q):PF X e t':=λMV s Y H Q I q=>h MV s Y H Q I (m Y H Q q)
def xD:wI:=λ_ M Q=>Q true M
def oJ:F3 X [] xD:=PF.mono HX λY H Q' zz=>x7 zz λU M Q hs hm ht k=>k true H M hm .refl ht
def Eh{c:Expr}{t:wI}(h:B3 X c t):F3 X [c] t:=Ia h
def BH:∀Y H Q',lo X.K (ER ix wi g tt te) Y H Q'->EW ix (Mm X.K wi) (Lb X.K g) (JG X.K tt) (lo X.K te) Y H Q':=λY H Q' zz=>x7 zz λU M Q hs hm ht k=>
 ⟨U,M,_,hs,hm,ht,λJ H1 ds ok M1 S MX e1 ok1 q1=>by
  refine⟨λi m ys σ' H'=>m=ds.length - i/\i<=ds.length/\∃δ' M' acc,u6 X.K H' σ' δ'/\HM X.K H' M'/\mS X.K H' acc ys/\ok M'/\nA X.K H1 H'/\rC g tt te ok Q (ds.drop i) acc δ' M',⟨ds.length,by simp,cF _,Gg ix U,M1,[],GK (hs.mono e1),MX,.nil,ok1,.refl,by simpa using q1⟩,?_⟩
  rintro i m ys σ' H' ⟨rfl,hi,δ',M',acc,NB,OO,Pd,PX,e',q'⟩
  by_cases Nd:i<ds.length
  .rw[dh Nd]at q';obtain⟨hz,q'⟩:=q';refine .inr ⟨S.go i H' M' Nd OO PX e',by rw[<-Pd.length];exact hz,λx H2 y=>?_⟩;obtain⟨hx,Nj,e2⟩:=S.mB i ds[i] H' M' x H2 (bC Nd) OO PX e' y;refine⟨ds[i],δ',M',_,hx,NB.mono e2,Nj,q',λσ3 H3 δ3 M3 x1 x2 x3 x4 x5=>?_⟩;refine⟨δ3,M3,_,x1,x2,x5,λb H4 M4 y2 y3 y5=>?_⟩;cases b with
   | true=>rw[bA rfl]at y5 ⊢;refine⟨δ3,M4,_,x1.mono y3,y2,y5,λv H5 d M5 z1 z2 z3 z4=>⟨ds.length - (i+1),by lia,rfl,Nd,δ3,M5,acc++[d],x1.mono (y3.trans z3),z2,(Pd.mono (e2.trans (x3.trans (y3.trans z3)))).snoc z1,z4.1,e'.trans (e2.trans (x3.trans (y3.trans z3))),z4.2⟩⟩
   | false=>rw[bv bN]at y5 ⊢;exact⟨ds.length - (i+1),by lia,rfl,Nd,δ3,M4,acc,x1.mono y3,y2,Pd.mono (e2.trans (x3.trans y3)),y5.1,e'.trans (e2.trans (x3.trans y3)),y5.2⟩
  .have e:i=ds.length:=by lia
   subst e;rw[kj]at q';refine .inl ⟨S.stop H' M' OO PX e',by rw[<-Pd.length];exact q'.1,λp hp=>?_⟩;have e5:nA X.K H' (upd H' p (.lst ys)):=.new hp;exact k _ _ _ _ .ref (OO.new (c:=.lst acc) hp ⟨_,mY,Pd.mono e5⟩) (e1.trans (e'.trans e5)) (q'.2 p (OO.fresh hp))⟩
def oG(hc:X.calm=true)(S:nZ X scope ix N')(hi:I3 X tg iter wi)(hg:∀{C s0 H0 ex},G3 (X.comp scope N' C s0 H0 ex) tg g)(ht:∀{C s0 H0 ex},F3 (X.comp scope N' C s0 H0 ex) NA tt)(he:∀{C s0 H0 ex},E3 (X.comp scope N' C s0 H0 ex) NQ te) (hs:∀x,foldedSetIterable iter X.env x=pure x:=by intro _;rfl):E3 X (.ListComp NQ [⟨tg,iter,NA,0⟩] scope pos) (ER ix wi g tt te):=PE.mono (FW (g:=Lb X.K g) (tt:=JG X.K tt) (te:=lo X.K te) hc S hi (λ_ _ _ _=>hg) (λ_ _ _ _=>ht) (λ_ _ _ _=>he) hs) BH
def qy{i:Nat}{x:Str}{px OJ:Pos}(hN:X.N.Nodup)(hix:X.N[i]?=some x)(hx:Dk X.env.scope x)(hc:X.calm=true)(S:nZ X scope ix N')(hi:I3 X tg iter wi)(hg:∀{C s0 H0 ex},G3 (X.comp scope N' C s0 H0 ex) tg g)(ht:∀{C s0 H0 ex},F3 (X.comp scope N' C s0 H0 ex) NA tt) (he:∀{C s0 H0 ex},E3 (X.comp scope N' C s0 H0 ex) NQ te) (OK:swapsWith (.ListComp NQ [⟨tg,iter,NA,0⟩] scope pos) (some (.Name x px)) OJ.line X.env=pure true:=by rfl)
  (hf:DW X x:=by first|exact .inl rfl|exact .inr rfl|assumption) (hs:∀x,foldedSetIterable iter X.env x=pure x:=by intro _;rfl):
  S3 X (.Assign [.Name x px] (.ListComp NQ [⟨tg,iter,NA,0⟩] scope pos) OJ) (Ig (ER ix wi g tt te) (rA i)):=PS.lX (Bc (g:=Lb X.K g) (tt:=JG X.K tt) (te:=lo X.K te) hN hix hx hc S hi (λ_ _ _ _=>hg) (λ_ _ _ _=>ht) (λ_ _ _ _=>he) OK hf hs) λD' Y H hl zz=>F8 zz λU M D hs hm ht k1 k2 k3 k4=>
 BH Y H _ ⟨U,M,_,hs,hm,ht,λv H1 d M1 hd MX e1 q1=>k1 _ H1 _ M1 ((hs.mono e1).set hd (by rw[hl];exact(bI.mp hix).1)) MX e1 (by simp) q1⟩
def MD{A:Ar}{k:Nat}(hr:oE k A):A.units+9<cLine:=by have:=hr.units;lia
noncomputable def AV(sc:Scope)(N:QQQ)(scope:Scope)(ix:T0 (Option Nat))(N':QQQ):Bool:=
 (scope.kind==.function)&&(scope.names.all λy=>!(y.2==.cell))&&(scope.names.all λy=>!(y.2==.local)||(scope.names.lookup y.1==some .local))&&
 (scope.names.all λy=>!(y.2==.free)||(sc.names.lookup y.1==some .cell)||(sc.names.lookup y.1==some .free))&&(ix.length==N'.length)&&
 ((ix.zip N').all λp=>match p.1 with|none=>true|some i=>(N[i]?==some p.2)&&(scope.names.lookup p.2==some .free))
def KO{X:Cx}{scope:Scope}{ix:T0 (Option Nat)}{N':QQQ}(h:AV X.env.scope X.N scope ix N'=true):nZ X scope ix N':=by
 unfold AV at h;simp only[cO]at h;obtain⟨⟨⟨⟨⟨h1,h2⟩,h3⟩,h4⟩,h5⟩,h6⟩:=h;refine⟨by simpa using h1,λy hy e=>?_,λy hy e=>?_,λy hy e=>?_,by simpa using h5,λj i x e1 e2=>?_⟩
 .have:=cD.mp h2 y hy;rw[e]at this;simp at this
 .have:=cD.mp h3 y hy;rw[e]at this
  simpa using this
 .have:=cD.mp h4 y hy;rw[e]at this
  simpa using this
 .have hm:(some i,x)∈ix.zip N':=by
   have:(ix.zip N')[j]?=some (some i,x):=by rw[List.getElem?_zip_eq_some];exact⟨e1,e2⟩
   exact cJ this
  have:=cD.mp h6 _ hm
  simpa using this
section
variable {a b:Expr}
def BU(op NO:CmpOp)(ta tb tc:T3):T3:=λU M Q=>ta U M λx M1=>tb U M1 λy M2=>Gy op x y M2 λz M3=>match z with
 | .bl k=>if k=true then tc U M3 λw M4=>Gy NO y w M4 Q else Q (.bl false) M3
 | _=>False
def qw{op NO:CmpOp}(hu:X.A.units+9<cLine)(ha:E3 X a ta)(hb:E3 X b tb)(hc:E3 X c tc)(hmk:lastMarks [op,NO] [b,c]=false:=by rfl):
  E3 X (.Compare a [op,NO] [b,c] pos) (BU op NO ta tb tc):=PE.mono (Fg (Cr op hu) (Cr NO hu) ha hb hc hmk) λY H Q' zz=>x7 zz λU M Q hs hm ht k=>
 ⟨U,M,_,hs,hm,ht,λv H1 x M1 hx MX e1 q1=>⟨U,M1,_,hs.mono e1,MX,q1,λu H2 y M2 hy Nj e2 q2=>⟨x,y,M2,_,hx.mono e2,hy,Nj,q2,λw H3 z M3 hz OP e3 q3=>by
  cases z with
  | bl c=>
   refine⟨c,hz.lh,?_⟩;cases c with
   | true=>refine(bA rfl).mpr ⟨U,M3,_,hs.mono (e1.trans (e2.trans e3)),OP,(bA rfl).mp q3,λw' H4 d M4 hd hm4 e4 q4=>⟨y,d,M4,Q,hy.mono (e3.trans e4),hd,hm4,q4,sH (e1.trans (e2.trans (e3.trans e4))) k⟩⟩
   | false=>exact(bv bN).mpr (k _ H3 _ M3 .bl OP (e1.trans (e2.trans e3)) ((bv bN).mp q3))
  | _=>exact q3.elim⟩⟩⟩
def EC{op NO:CmpOp}(hu:X.A.units+9<cLine)(ha:E3 X a ta)(hb:E3 X b tb)(hc:E3 X c tc)(hmk:lastMarks [op,NO] [b,c]=false:=by rfl):
  B3 X (.Compare a [op,NO] [b,c] pos) (b3 (BU op NO ta tb tc)):=PT.mono (EB (Cr op hu) (Cr NO hu) ha hb hc hmk) λY H Q' zz=>x7 zz λU M Q hs hm ht k=>
 ⟨U,M,_,hs,hm,ht,λv H1 x M1 hx MX e1 q1=>⟨U,M1,_,hs.mono e1,MX,q1,λu H2 y M2 hy Nj e2 q2=>⟨x,y,M2,_,hx.mono e2,hy,Nj,q2,λw H3 z M3 hz OP e3 q3=>by
  cases z with
  | bl c=>
   refine⟨c,hz.lh,?_⟩;cases c with
   | true=>
    refine(bA rfl).mpr ⟨U,M3,_,hs.mono (e1.trans (e2.trans e3)),OP,(bA rfl).mp q3,λw' H4 d M4 hd hm4 e4 q4=>⟨y,d,M4,_,hy.mono (e3.trans e4),hd,hm4,q4,λw5 H5 d5 M5 hd5 hm5 e5 q5=>?_⟩⟩;cases d5 with
    | bl c5=>exact⟨c5,hd5.lh,k c5 H5 M5 hm5 (e1.trans (e2.trans (e3.trans (e4.trans e5)))) q5⟩
    | _=>exact q5.elim
   | false=>exact(bv bN).mpr ⟨false,rfl,k false H3 M3 OP (e1.trans (e2.trans e3)) ((bv bN).mp q3)⟩
  | _=>exact q3.elim⟩⟩⟩
structure Lp(K:mZ)(C:Addr):Prop where
 ha:W.findIn K (.ref C) "__class__"=some (some (.builtin "object.__class__"))
 hn:W.specialIn K (.builtin "object.__class__") "__get__"=some (some (.builtin "getset_descriptor.__get__"))
 htk:W.takesIn K (.builtin "object.__class__")=some true
 hm:W.mroIn K C (.type "object")=some true
noncomputable def An:Option qp->Option Vl
 | some (.lst _)=>some (.type "list")
 | some (.ins C _)=>some (.ref C)
 | some (.dk _)=>some (.type "dict")
 | some (.exc _)=>none
 | some (.fd _ _)=>none
 | none=>none
noncomputable def Me(M:Mp):D->Option Vl
 | .lw=>some (.type "NoneType")
 | .bl _=>some (.type "bool")
 | .int _=>some (.type "int")
 | .str _=>some (.type "str")
 | .tup _=>some (.type "tuple")
 | .ref a=>An (M a)
 | .ty _=>none
 | .rl _=>some (.type "list")
noncomputable def LO:D->Option Vl
 | .ref C=>some (.ref C)
 | .ty n=>some (.type n)
 | _=>none
def HE(K:mZ)(ds:T0 D)(M:Mp)(Q:DK):Prop:=match ds with
 | [x,c]=>(Me M x).elim False λt=>(LO c).elim False λcv=>(∀C,t=.ref C->Lp K C)/\(W.kitOne K t cv).elim False λb=>Q (.bl b) M
 | _=>False
def xB:C3 X (.builtin "isinstance") (HE X.K):=by
 intro MV s Y H vs us Q' I rv h;obtain⟨ds,M,Q,hd,hm,q,k⟩:=h;unfold HE at q;split at q
 .rename_i x c;obtain⟨v,u,rfl,hv,hw⟩:=vm hd;obtain⟨t,et,q⟩:=ny q;obtain⟨cv,ec,hC,q⟩:=ny q;obtain⟨b,eb,qb⟩:=ny q;obtain⟨uv,uw,rfl,Pe,rv2⟩:=BF rv;have ecv:uw=cv:=by
   cases c with
   | ref C=>cases hw.k8;cases ec;exact rv2
   | ty n=>cases hw.lU;cases ec;exact rv2
   | _=>cases ec
  subst ecv;have fin:∀tk,EP X MV Y Q' (.bool b) {s with toks:=tk}:=λtk=>⟨.bl b,H,I.tok tk,rfl,k _ _ _ _ .bl hm .refl qb⟩;cases x with
  | lw=>cases hv.lg;cases et;exact pN I Pe .lw eb fin
  | bl y=>cases hv.lh;cases et;exact pN I Pe (.bl y) eb fin
  | int y=>cases hv.int_inv;cases et;exact pN I Pe (.int y) eb fin
  | str y=>cases hv.str_inv;cases et;exact pN I Pe (.str y) eb fin
  | tup ds=>obtain⟨a,xs,rfl,h1,h2⟩:=hv.lm;cases et;cases Pe;obtain⟨its,r,p,_⟩:=I.tuple h1;obtain⟨o,g1,g2,_⟩:=p;exact dU W.kitx_tuple I.lG ⟨o,g1,g2⟩ eb (λz=>nomatch z) fin
  | ref a=>
   cases hv.k8;have et:An (M a)=some t:=et;cases e:M a with
   | none=>rw[e]at et;cases et
   | some cell=>
    rw[e]at et;have ok:=hm a cell e;cases cell with
    | lst ds=>cases et;obtain⟨xs,e1,_⟩:=ok;exact pN I Pe (.lst e1) eb fin
    | ins C fs=>cases et;obtain⟨dx,vs,e1,cl,_⟩:=ok;obtain⟨i1,i2,i3,i4⟩:=hC C rfl;exact pN I Pe (.ins e1 cl i1 i2 i3 i4) eb fin
    | dk kvs=>cases et;obtain⟨vs,e1,_⟩:=ok;exact pN I Pe (.dK e1) eb fin
    | exc C=>cases et
    | fd _ _=>cases et
  | ty n=>cases et
  | rl ds=>obtain⟨p,xs,rfl,h1,h2⟩:=hv.lC;cases et;cases Pe;obtain⟨its,r,⟨o,n,g1,g2,_⟩,_⟩:=I.list h1.sq;exact dU j4 I.lG ⟨o,g1,g2⟩ eb (λz=>nomatch z) fin
 .exact q.elim
noncomputable def Bj:T0 D->Option (T0 Bool)
 | []=>some []
 | .bl b::r=>(Bj r).map (b::·)
 | _::_=>none
theorem BV{K:mZ}{H:Hp}:∀{ds:T0 D} {bs:T0 Bool} {xs:T0 V} {us:T0 Vl},Bj ds=some bs->mS K H ds xs->nj xs us->us=bs.map Value.bool
 | [],bs,xs,us,e,h,r=>by cases e;have:=h.nil_inv;subst this;cases r;rfl
 | d::ds,bs,xs,us,e,h,r=>by
  cases d with
  | bl b=>
   obtain⟨y,ys,rfl,h1,h2⟩:=h.inv;cases h1.lh;unfold Bj at e;cases q:Bj ds with
   | none=>rw[q]at e;cases e
   | some cs=>
    rw[q]at e;cases e;cases r with
    | cons r1 r2=>cases r1;rw[BV q h2 r2];rfl
  | _=>cases e
def JR(ds:T0 D)(M:Mp)(Q:DK):Prop:=match ds with
 | [.ref a]=>(md M a).elim False λes=>(Bj es).elim False λbs=>Q (.bl (bs.all id)) M
 | _=>False
def Bi(hc:X.calm=true):C3 X (.builtin "all") JR:=by
 intro MV s Y H vs us Q' I rv h;obtain⟨ds,M,Q,hd,hm,q,k⟩:=h;unfold JR at q;split at q
 .rename_i a;obtain⟨v,rfl,hv⟩:=nQ hd;obtain⟨es,e0,q⟩:=ny q;obtain⟨bs,e1,q⟩:=ny q;cases hv.k8;obtain⟨u,rfl,ru⟩:=sJ rv;cases ru;obtain⟨xs,h1,h2,_⟩:=mL hm e0;obtain⟨its,r,pl,hz⟩:=I.list h1;have eits:=BV e1 h2 r;subst eits;have NY:a≠s.heap.objs.size:=by obtain⟨o,_,e,_⟩:=pl;exact bG (bB e)
  refine call_all_walk (eG pl.isList ?_);refine⟨s.heap.objs.size,_,_,_,_,_,λi=>(bs[i]?).getD true,rfl,iv (A:=X.A.in1) (I.ok.hd hc) _ a NY (bs.map Value.bool).toArray,⟨⟨_,bD _ rfl,rfl,rfl⟩,?_⟩,λi v s' Q E hP hQ=>?_,λh' tk hk=>?_⟩
  .obtain⟨o,n,e,c,d,q⟩:=pl;exact⟨o,bp _ e,c,n,q⟩
  .simp only[fD,bJ]at hP;cases e2:bs[i]? with
   | none=>rw[e2]at hP;cases hP
   | some b=>rw[e2]at hP;cases hP;have hQ:Q ((bs[i]?).getD true) s':=hQ;rw[e2]at hQ;exact cW hQ
  .have ea:(List.range (bs.map Value.bool).toArray.size).all (λi=>(bs[i]?).getD true)=bs.all id:=by
    rw[bz,bi];rw[kA,cD,cD];constructor
    .intro z b hb;obtain⟨i,hi,e⟩:=fR hb;have:=z i (cY.mpr hi);rw[bC hi,e]at this;exact this
    .intro z i hi;have Pf:=cY.mp hi;rw[bC Pf];exact z _ (fM Pf)
   rw[ea];refine⟨.bl (bs.all id),H,?_,rfl,k _ _ _ _ .bl hm .refl q⟩;exact I.kept (h':=h') (t':=tk) λb o e=>hk b o (by simpa using bG (bB e)) (bp _ e)
 .exact q.elim
noncomputable def AR(x:D):T0 D->Option Nat
 | []=>none
 | d::r=>if Hr d x=true then some 0 else(AR x r).map (·+1)
theorem Bz{K:mZ}{H:Hp}{e:D}{w:V}(g:nR K H e w)(fe:qA e=true):∀{ds:T0 D} {xs:T0 V} {us:T0 Vl} {j:Nat},mS K H ds xs->nj xs us->ds.all qA=true->AR e ds=some j->
  ∃h:j<us.length,yf w us[j]=true/\∀m (hm:m<us.length),m<j->yf w us[m]=false
 | [],_,_,_,_,_,_,q=>by cases q
 | d::ds,_,us,j,h,r,fl,q=>by
  obtain⟨y,ys,rfl,h1,h2⟩:=h.inv;rw[eU,cO]at fl;cases r with
  | @cons _ u _ us' r1 r2=>
   have eu:yf w u=Hr d e:=by rw[Am r1 (uf h1 fl.1),Ca h1 g fl.1 fe]
   unfold AR at q;by_cases hq:Hr d e=true
   .rw[bA hq]at q;cases q;exact⟨by simp,by simpa [eu]using hq,λm _ hm=>absurd hm (gL m)⟩
   .rw[bv hq]at q;cases q2:AR e ds with
    | none=>rw[q2]at q;cases q
    | some j'=>
     rw[q2]at q;cases q;obtain⟨hl,e1,e2⟩:=Bz g fe h2 r2 fl.2 q2;refine⟨by simpa using hl,by simpa using e1,λm hm Nd=>?_⟩;cases m with
     | zero=>simpa [eu]using hq
     | succ m=>simpa using e2 m (by simpa using hm) (by have z:m+1<j'+1:=Nd;lia)
def Ik(x:D)(ds:T0 D)(M:Mp)(Q:DK):Prop:=match x,ds with
 | .ref a,[y]=>(md M a).elim False λes=>qA y=true/\es.all qA=true/\(AR y es).elim False λj=>Q (.int (j:Nat)) M
 | _,_=>False
def M3(X:Cx)(id:String)(r:D->T0 D->Mp->DK->Prop):Prop:=Mg X id λvx vs H Q'=>∃x ds M Q,nR X.K H x vx/\mS X.K H ds vs/\HM X.K H M/\r x ds M Q/\Up X.K H Q' Q
def Ft:M3 X "list.index" Ik:=by
 intro MV s Y H vx vs v us Q' I rx rv h;obtain⟨x,ds,M,Q,hx,hd,hm,q,k⟩:=h;unfold Ik at q;split at q
 .rename_i a y;obtain⟨es,e0,f1,f2,q⟩:=ny q;obtain⟨j,e1,q⟩:=ny q;cases hx.k8;cases rx;obtain⟨w,rfl,hw⟩:=nQ hd;obtain⟨u,rfl,ru⟩:=sJ rv;obtain⟨xs,h1,h2,rd⟩:=mL hm e0;obtain⟨hz,its,n,r,g⟩:=rd.ok I.lA;obtain⟨hl,p1,p2⟩:=Bz hw f1 h2 r f2 e1;have hlz:its.length<=sizeLine:=by rw[<-r.length];exact hz
  have h63:=ul;refine jg F.slot_list_index ⟨_,g,rfl⟩ F.entry_list_index (F.args_list_index_2 _ _) (SeqAt.list_indexAt a its.toArray n none #[] u (yf w) j (by simpa using hl) (by lia) (by simpa using p1) λm hm Nd=>by simpa using p2 m (by simpa using hm) Nd) ⟨g,?_,?_⟩
  .intro z hz';exact qT ru (uf hw f1) r (yD h2 f2) z (by simpa using hz')
  .exact⟨.int (j:Nat),H,I.tok _,⟨_,rfl⟩,k _ _ _ _ .int hm .refl q⟩
 .exact q.elim
def B8(M:Mp):D->Prop
 | .ref a=>(md M a).isSome=true
 | _=>False
def K1(r:D->T0 D->Mp->DK->Prop)(to:T3)(t:rN):T3:=λU M Q=>to U M λx M1=>B8 M1 x/\t U M1 λds M2=>r x ds M2 Q
def IM{K:mZ}{H:Hp}{M:Mp}{x:D}{v:V}(hm:HM K H M)(h:nR K H x v)(l:B8 M x):Ly K "list" v H:=by
 cases x with
 | ref a=>cases h.k8;obtain⟨ds,e⟩:=fW.mp (show(md M a).isSome=true from l);obtain⟨xs,h1,_⟩:=mL hm e;exact .inl ⟨rfl,xs,h1⟩
 | _=>exact l.elim
def Fc{id:String}{name:Str}{r:D->T0 D->Mp->DK->Prop}(slot:Slot "list" name id)(hty:typeOf (.builtin id)=pure (.type "method_descriptor"))(hm:M3 X id r)(ho:E3 X o ta)(ha:A3 X (e::es) t) (Nu:attributeBase o name X.env (eval o X.env)=eval o X.env:=by rfl)
  (NP:((backTo pos (starEach (e::es) X.env)).all (λx=>!x.1)&&(backToKw pos (keywordEach [] X.env)).all (λx=>x.1.isSome)
   &&decide ((e::es).length+([]:T0 Keyword).length+(if ([]:T0 Keyword).isEmpty then 0 else 1)<30))=true:=by rfl)
  (Nv:(MZ.endLine==pos.line)=true:=by rfl) (hs:xw X e es:=by rfl) (Nl:y6 X pos es:=by rfl):
  E3 X (.Call (.Attribute o name MZ) (e::es) [] pos) (K1 r ta t):=PE.mono (KJ PySem.F.plainAttrs_list slot hty hm ho ha Nu NP Nv hs Nl) λY H Q' zz=>x7 zz λU M Q hs hm ht k=>
 ⟨U,M,_,hs,hm,ht,λv H1 x M1 hx MX e1 q1=>⟨IM MX hx q1.1,U,M1,_,hs.mono e1,MX,q1.2,λvs H2 ds M2 Od Nj e2 q2=>⟨x,ds,M2,Q,hx.mono e2,Od,Nj,q2,sH (e1.trans e2) k⟩⟩⟩
def uL(ho:E3 X o ta)(ha:A3 X (e::es) t) (Nu:attributeBase o "index" X.env (eval o X.env)=eval o X.env:=by rfl)
  (NP:((backTo pos (starEach (e::es) X.env)).all (λx=>!x.1)&&(backToKw pos (keywordEach [] X.env)).all (λx=>x.1.isSome)
   &&decide ((e::es).length+([]:T0 Keyword).length+(if ([]:T0 Keyword).isEmpty then 0 else 1)<30))=true:=by rfl)
  (Nv:(MZ.endLine==pos.line)=true:=by rfl) (hs:xw X e es:=by rfl) (Nl:y6 X pos es:=by rfl):
  E3 X (.Call (.Attribute o "index" MZ) (e::es) [] pos) (K1 Ik ta t):=Fc PySem.F.slot_list_index PySem.F.type_list_index Ft ho ha Nu NP Nv hs Nl
structure DR(K:mZ)(C:Addr)(m:Str)(f:Addr):Prop where
 hg:W.specialIn K (.ref C) "__getattribute__"=some (some (.builtin "type.__getattribute__"))
 rd:W.readsIn K C (.type "type")=true
 fc:W.findCls K (.ref C) (.type "type") m=some (.val (.ref f))
def FU{sp:Sp}{t:TA}{pl:Sem Bool}(cm:DR X.K C m f)(F:wd X.prog X.w X.K X.mg X.base FC k f fd ps sp)(hr:oE k X.A)(hg:Gl X x)(hm:X.mg x=some (.ref C))(hk:W.keepIn X.K (.ref f)=true)(hb:qY X.K fd ps [])(ha:PA X (e::es) t) (Nx:ve x:=by decide) (NG:xw X e es:=by rfl) (Np:y6 X pos es:=by rfl)
  (ht:eval (.Call (.Attribute (.Name x p) m MZ) (e::es) [] pos) X.env=(do
   let ov<-eval (.Name x p) X.env
   standAt MZ.atName
   let(f,first)<-holding [ov] (getMethod ov m pl)
   callWith pos f first (backTo pos (starEach (e::es) X.env)) (backToKw pos (keywordEach [] X.env))):=by rfl):
  PE X (.Call (.Attribute (.Name x p) m MZ) (e::es) [] pos) (λY H Q=>t Y H λvs H1=>sp vs H1 Q E0):=by
 intro MV s Y H Q I h;refine kz (pl:=pl) (vg I hg hm ?_ Nx) ht;refine W.method_cls I.lG cm.hg (W.cls_value I.lG cm.rd cm.fc rfl ?_);refine jC (first:=[]) (h₀:=X.base) I.ok.mod.ml hk (o6 (ha pos MV _ Y H _ (I.tok _) h) λus s2 zz=>x5 zz λvs H2 I2 r q2=>⟨I2.lG,?_⟩) NG Np;exact AX F hr hb .nil (Cg (X:=X)) I2 r (by rw[b5];exact q2)
def F0{pl:Sem Bool}(cm:DR X.K C m f)(F:GD X.prog X.w X.K X.mg X.base k f fd ps sp)(hr:oE k X.A)(hg:Gl X x)(hm:X.mg x=some (.ref C))(hk:W.keepIn X.K (.ref f)=true)(hb:qY X.K fd ps [])(ha:A3 X (e::es) t) (Nx:ve x:=by decide) (NG:xw X e es:=by rfl) (Np:y6 X pos es:=by rfl)
  (ht:eval (.Call (.Attribute (.Name x p) m MZ) (e::es) [] pos) X.env=(do
   let ov<-eval (.Name x p) X.env
   standAt MZ.atName
   let(f,first)<-holding [ov] (getMethod ov m pl)
   callWith pos f first (backTo pos (starEach (e::es) X.env)) (backToKw pos (keywordEach [] X.env))):=by rfl):
  E3 X (.Call (.Attribute (.Name x p) m MZ) (e::es) [] pos) (xC sp t):=PE.mono (FU cm F hr hg hm hk hb ha Nx NG Np ht) λY H Q' zz=>x7 zz λU M Q hs hm ht k=>
 ⟨U,M,_,hs,hm,ht,λvs H1 ds M1 hd MX e1 q1=>⟨ds,M1,Q,hd,MX,q1,sH e1 k⟩⟩
def nJ:bootBuiltins "len"=some (.builtin "len"):=by decide+kernel
def A0:bootBuiltins "min"=some (.builtin "min"):=by decide+kernel
def sI:bootBuiltins "isinstance"=some (.builtin "isinstance"):=by decide+kernel
def Ay:bootBuiltins "all"=some (.builtin "all"):=by decide+kernel
def DO:bootBuiltins "tuple"=some (.type "tuple"):=by decide+kernel
def tP:bootBuiltins "list"=some (.type "list"):=by decide+kernel
def vb:bootBuiltins "dict"=some (.type "dict"):=by decide+kernel
def xS:bootBuiltins "enumerate"=some (.type "enumerate"):=by decide+kernel
def D5:bootBuiltins "zip"=some (.type "zip"):=by decide+kernel
end
theorem _root_.L2.Inv.drawn{ch:QXQ}{T:Addr}{xs:T0 V}{its:T0 Vl}{h':Heap}{tk:Nat}(I:Inv X MV Y H s)(NW:∀b∈ch,ut X MV H b)(k:∀b o,b∉ch->s.heap.get? b=some o->h'.get? b=some o)(hT:s.heap.objs.size<=T)(hx:xs.length<=sizeLine) (rv:nj xs its) (ht:yX h' T its.toArray):Inv X MV Y (upd H T (.tup xs)) {s with heap:=h',toks:=tk}:=by
 have OQ:H T=none:=I.lA.fresh hT;have nT:∀b o,s.heap.get? b=some o->b≠T:=λb o e=>bG (bO (bB e) hT);refine I.step (g':=s.gens) (d':=s.drawn) (ch:=ch) (λb hb=>⟨(NW b hb).2.2.2.1,(NW b hb).2.1,(NW b hb).2.2.2.2.1,(NW b hb).2.2.2.2.2⟩) (λb o _ _ hc e _=>k b o hc e) (λb o _ _ hc e _=>⟨o.slots,k b o hc e⟩) (λb o _ e n=>by rw[m7 (nT b o e)];exact n)
  (λb o hc e=>⟨o,k b o hc e⟩) (λb ys e=>by rw[m7 (nu e OQ)];exact e) (λb o u e=>by rw[m7 (nu e OQ)];exact e) (λb ps e=>⟨#[],by rw[m7 (nu e OQ),e];simp⟩) (λm hm=>?_) (λb u e=>?_) I.bare
 .obtain⟨o,es,ep,ho,r⟩:=hm;exact⟨o,es,ep,k _ o (λz=>(NW _ z).2.1 rfl) ho,r⟩
 .by_cases hb:b=T
  .subst hb;rw[mY]at e;cases e;exact⟨hx,its,rv,ht⟩
  .rw[m7 hb]at e;refine(I.lA b u e).lN (λc v hc q=>k c v (λz=>?_) q) (λc q=>by rw[m7 (nu q OQ)];exact q) (λc ys q=>by rw[m7 (nu q OQ)];exact q);have n:=(NW c z).1;rcases hc with y|y
   .rw[y,e]at n;cases n
   .rw[y]at n;cases n
noncomputable def LY(K:mZ)(a:Addr):It:=
 ⟨λi H=>∃xs x,qM K H a xs/\xs[i]?=some x,λi H x H'=>∃p y,x=.ref p/\H p=none/\H'=upd H p (.tup [.int (i:Nat),y])/\∀xs,qM K H a xs->xs[i]?=some y,λi H=>∃xs,qM K H a xs/\xs.length<=i⟩
def Cy{P:Pg}{w:Wo}{K:mZ}{Nr:T0 Expr}{n:Nat}{tp:Pos}(a e it:Addr)(hei:e≠it):wG P w K (.Tuple Nr n tp) (LY K a) [e,it] e (λi h=>(∃Of,IsEnum h e it (i:Nat) Of)/\h.IsListIter it a i) where
 mem:=by simp
 obj:=λi h st b hb=>by
  obtain⟨⟨Of,he⟩,o,e1,c,d⟩:=st;rcases bq.mp hb with rfl|hb
  .exact⟨_,he,λv z=>by cases z⟩
  .rw[bK.mp hb];exact⟨o,e1,λv z=>by rw[d]at z;cases z⟩
 keep:=λi h h' st k=>by obtain⟨⟨Of,he⟩,hi⟩:=st;exact⟨⟨Of,k e (by simp) _ he⟩,hi.at λo q=>k it (by simp) o q⟩
 item:=by
  intro X hP hw hK hc i MV s Y H E I hf st hg;subst hP hw hK;obtain⟨xs,x,hq,hx⟩:=hg;obtain⟨its,rv,p,hz⟩:=I.list hq;obtain⟨u,hu,ru⟩:=rv.get hx;obtain⟨⟨Of,he⟩,hi⟩:=st;refine wpAny_pyNext_enum_item he hi p.isList (x:=u) (by simpa using hu) hei λh1 ho NS hT hsz hk=>?_;refine⟨_,rfl,wpAny_letOwnedTupleGo_enum ho λh2 he2 N7=>?_⟩;have helt:e<s.heap.objs.size:=bB he;have hilt:it<s.heap.objs.size:=by obtain⟨o,q,_⟩:=hi;exact bB q
  have kk:∀b o,b∉[e,it]->s.heap.get? b=some o->h2.get? b=some o:=λb o hb q=>(N7.2 b λz=>hb (by simp[z])).trans (hk b o (λz=>hb (by simp[z])) (λz=>hb (by simp[z])) q);have hT2:h2.get? s.heap.objs.size=some {cls:=.type "tuple",data:=.seq #[.int (i:Nat) s.toks,u]}:=(N7.2 _ (cN helt)).trans hT;have OQ:H s.heap.objs.size=none:=I.lA.fresh (bw _);have I2:=I.drawn (ch:=[e,it]) (T:=s.heap.objs.size) (xs:=[.int (i:Nat),x]) (its:=[.int (i:Nat) s.toks,u]) (h':=h2) (tk:=s.toks+1) hf kk (bw _) (by show 2<=sizeLine;decide) (.cons ⟨_,rfl⟩ (.cons ru .nil)) ⟨_,hT2,rfl,⟨_,rfl⟩,rfl⟩;refine⟨.ref s.heap.objs.size,_,I2,rfl,⟨_,x,rfl,OQ,rfl,λys hy=>by rw[I.lH hy hq];exact hx⟩,⟨⟨_,by simpa using he2⟩,NS.extBut N7.extBut (bQ hei)⟩,λb hb=>?_⟩;have NI:b<s.heap.objs.size:=by
   rcases bq.mp hb with z|z
   .rw[z];exact helt
   .rw[bK.mp z];exact hilt
  rw[m7 (bG NI)];exact(hf b hb).1
 done:=by intro X hP hw hK hc i MV s Y H E I hf st hg;subst hP hw hK;obtain⟨xs,hq,hx⟩:=hg;obtain⟨its,rv,p,hz⟩:=I.list hq;obtain⟨⟨Of,he⟩,hi⟩:=st;have hl:=rv.length;obtain⟨f0,f1,f2,f3,f4,f5⟩:=hf it (by simp);exact wpAny_pyNext_enum_end (I.ok.hd hc) he hi p.isList (by simp;lia) λh' eb=>⟨rfl,I.turned (t':=s.toks) (λb o hb q=>eb b o hb q) f0 f1 f3 f4 f5⟩
 self:=λ_ _ _ _ _ st h=>by obtain⟨⟨Of,he⟩,_⟩:=st;exact jO he h
variable {tp:Pos}{Nr:T0 Expr}{n:Nat}
def GX{a:Expr}{ta:TA}(hg:Gl X "enumerate")(hm:X.mg "enumerate"=none)(ha:PA X [a] ta)(hs:starEach [a] X.env=[(false,eval a X.env)]:=by rfl):
  PI X (.Tuple Nr n tp) (.Call (.Name "enumerate" p) [a] [] pos) (λY H R=>ta Y H λvs H1=>∃l,vs=[.ref l]/\(∃xs,qM X.K H1 l xs)/\R (LY X.K l) H1):=by
 intro MV s Y H R I h;refine Call_ (qu I hg hm xS (cP (o6 (ha pos MV s Y H _ I h) λus s1 zz=>x5 zz λvs H1 I1 r1 q1=>?_) hs rfl));obtain⟨l,e,⟨xs,hq⟩,q⟩:=q1;subst e;obtain⟨u,rfl,ru⟩:=sJ r1;cases ru;obtain⟨its,rv,pl,hz⟩:=I1.list hq;refine call_enumerate_list pl.isList λh' he hi hsz hk=>?_;refine jO he ?_;have I2:Inv X MV Y H1 {s1 with heap:=h'}:=I1.kept (t':=s1.toks) hk;refine⟨s1.heap.objs.size+1,[s1.heap.objs.size+1,s1.heap.objs.size],_,_,H1,rfl,I2,Cy l _ _ (Nat.succ_ne_self _),⟨⟨_,he⟩,hi⟩,λb hb=>?_,q⟩;have NI:s1.heap.objs.size<=b:=by
  rcases bq.mp hb with z|z
  .rw[z];exact dF _
  .rw[bK.mp z];exact bw _
 exact I1.lQ NI (I1.lA.fresh NI)
noncomputable def qX:Nat->T0 D->T0 D
 | _,[]=>[]
 | i,d::r=>.tup [.int (i:Nat),d]::qX (i+1) r
theorem ua:∀{ds:T0 D} {i j:Nat},(qX j ds)[i]?=(ds[i]?).map λd=>D.tup [.int ((j+i:Nat):Int),d]
 | [],i,j=>by simp[qX]
 | d::r,0,j=>by simp[qX]
 | d::r,i+1,j=>by show(qX (j+1) r)[i]?=_;rw[ua];simp only[List.getElem?_cons_succ];rw[show j+1+i=j+(i+1)by lia]
theorem wj:∀{ds:T0 D} {j:Nat},(qX j ds).length=ds.length
 | [],j=>rfl
 | d::r,j=>by simp[qX,wj]
def Ei{K:mZ}{H1:Hp}{a:Addr}{ds:T0 D}:wK K H1 (LY K a) (qX 0 ds) (λM=>md M a=some ds) where
 go:=λi H M hi hm ok _=>by rw[wj]at hi;obtain⟨xs,h1,h2,_⟩:=mL hm ok;obtain⟨x,e,_⟩:=h2.get (bC hi);exact⟨xs,x,h1,e⟩
 mB:=λi d H M x H' hd hm ok _ y=>by
  obtain⟨xs,h1,h2,_⟩:=mL hm ok;obtain⟨p,z,rfl,hp,rfl,y⟩:=y;rw[ua]at hd;cases e:ds[i]? with
  | none=>rw[e]at hd;cases hd
  | some d'=>rw[e]at hd;cases hd;obtain⟨x',e',hx⟩:=h2.get e;have w1:=y xs h1;rw[e']at w1;have w2:x'=z:=bH w1;subst w2;have ex:nA K H (upd H p (.tup [.int (i:Nat),x'])):=.new hp;refine⟨.tup (.of mY) (.cons (by rw[gN];exact .int) (.cons (hx.mono ex) .nil)),hm.add hp,ex⟩
 stop:=λH M hm ok _=>by obtain⟨xs,h1,h2,_⟩:=mL hm ok;exact⟨xs,h1,by rw[wj,h2.length];exact bw _⟩
def Jo(t:rN):Dj:=λU M R=>t U M λds M1=>match ds with
 | [.ref a]=>(md M1 a).elim False λes=>R (qX 0 es) (λM=>md M a=some es) M1
 | _=>False
def ud{a:Expr}{ta:rN}(hg:Gl X "enumerate")(hm:X.mg "enumerate"=none)(ha:A3 X [a] ta)(hs:starEach [a] X.env=[(false,eval a X.env)]:=by rfl):I3 X (.Tuple Nr n tp) (.Call (.Name "enumerate" p) [a] [] pos) (Jo ta):=
 PI.mono (GX hg hm ha hs) λY H R' zz=>x7 zz λU M R hs hm ht k=>⟨U,M,_,hs,hm,ht,λvs H1 ds M1 hd MX e1 q1=>by
  split at q1
  .obtain⟨v,rfl,hv⟩:=nQ hd;cases hv.k8;obtain⟨es,e0,q⟩:=ny q1;obtain⟨xs,h1,h2,_⟩:=mL MX e0;exact⟨_,rfl,⟨xs,h1⟩,k _ H1 _ _ M1 Ei MX e1 e0 q⟩
  .exact q1.elim⟩
variable {prog:Pg}{A:Ar}{E:QQX}
def A2{it t:Addr}{i:Nat}{its:Array Vl}{x:Vl}{Q:QQX}(hi:s.heap.IsTupleIter it t i)(ht:s.heap.IsTuple t its)(hx:its[i]?=some x) (hQ:∀g,g.IsTupleIter it t (i+1)->Heap.SameBut it s.heap g->Q x {s with heap:=g}):wpAny (model prog w) A (Builtin.SmallTypes.nextOf (.ref it)) Q E s:=by
 obtain⟨ob,e1,e2,e3⟩:=id hi;obtain⟨ot,e4,_,nt,e5⟩:=ht;unfold Builtin.SmallTypes.nextOf;refine bh (cH (name:=Str.ofString "__next__") hi.typeIs eE (cq eE hi.typeIs hX ?_ (gZ _)));show wpAny (model prog w) _ (field (.ref it) 0>>=_) _ _ s;refine bh (cZ e1 e3 (x:=.ref t) rfl ?_);show wpAny (model prog w) _ (if (Value.ref t==Value.none)=true then _ else _) _ _ s;rw[bv (show ¬(Value.ref t==Value.none)=true from bN)];show wpAny (model prog w) _ (field (.ref it) 1>>=_) _ _ s;refine bh (cZ e1 e3 (x:=.int i 0) rfl ?_);show wpAny (model prog w) _ (seqItems? (.ref t)>>=_) _ _ s;refine bh (dA e4 e5 ?_);simp only[dS,hx];refine bh (fE e1 e3 (by simp) (bj ⟨x,rfl,bj (hQ _ ⟨_,dq _ e1 (fF (dw e3 _)),(im ..).trans e2,?_⟩ (dE ..))⟩));rw[dw e3];simp[rawInt]
def vF{it t:Addr}{i:Nat}{its:Array Vl}{Q:QQX}(hh:A.handled=none)(hi:s.heap.IsTupleIter it t i)(ht:s.heap.IsTuple t its)(hx:its[i]?=none) (hE:∀g e,Heap.ExtBut it s.heap g->(∃o,g.get? e=some o/\o.cls=.type "StopIteration")->E (.ref e) {s with heap:=g}):wpAny (model prog w) A (Builtin.SmallTypes.nextOf (.ref it)) Q E s:=by
 obtain⟨ob,e1,e2,e3⟩:=id hi;obtain⟨ot,e4,_,nt,e5⟩:=ht;unfold Builtin.SmallTypes.nextOf;refine bh (cH (name:=Str.ofString "__next__") hi.typeIs eE (cq eE hi.typeIs hX ?_ (gZ _)));show wpAny (model prog w) _ (field (.ref it) 0>>=_) _ _ s;refine bh (cZ e1 e3 (x:=.ref t) rfl ?_);show wpAny (model prog w) _ (if (Value.ref t==Value.none)=true then _ else _) _ _ s;rw[bv (show ¬(Value.ref t==Value.none)=true from bN)];show wpAny (model prog w) _ (field (.ref it) 1>>=_) _ _ s;refine bh (cZ e1 e3 (x:=.int i 0) rfl ?_);show wpAny (model prog w) _ (seqItems? (.ref t)>>=_) _ _ s;refine bh (dA e4 e5 ?_);simp only[dS,hx];refine bh (dI (bh (fE e1 e3 (by simp) ?_)));show wpAny (model prog w) _ (newExc (.type "StopIteration") []>>=_) _ _ _;refine bh ?_;simp only[newExc,newTuple];refine bh (cQ ?_ (by size_fits));refine bh (m:=firstArgMember _ _) (j6 (a:=Value.none) (by first|rfl|(simp only[firstArgMember];rfl)) ?_);refine cQ ?_ (by size_fits);simp only[raiseNew];refine bh (wpAny_handled ?_)
 first|rw[show A.in1.handled=none from hh]|rw[hh]
 refine bh (bj (wpAny_throw (hE _ _ (((dE ..).extBut.push _).push _) ⟨_,bD _ rfl,rfl⟩)))
def sj{prog:Pg}{w:Wo}{A:Ar}(hh:A.handled=none)(it t:Addr)(NY:t≠it)(its:Array Vl):
  Draws prog w A it [it,t] its.size (λi v=>its[i]?=some v) (λi h=>h.IsTupleIter it t i/\h.IsTuple t its) where
 live:=λi h st=>let⟨o,ho,_⟩:=st.1;⟨o,ho⟩
 frame:=λi h g st hk=>by obtain⟨⟨o,e1,e2⟩,⟨o',e3,e4⟩⟩:=st;exact⟨⟨o,hk it (by simp) o e1,e2⟩,⟨o',hk t (by simp) o' e3,e4⟩⟩
 item:=λi s Q E hi st hQ=>A2 st.1 st.2 (x:=its[i]) (by simp[hi]) λg hg hs=>hQ _ g s.toks (by simp[hi]) ⟨hg,st.2.extBut hs.extBut NY⟩ hs
 done:=λs Q E st hE=>vF hh st.1 st.2 (by simp) hE
structure rX(z TI TO i1 i2:Addr)(f1 f2:QXQ):Prop where
 a1:TI≠z
 a2:TO≠z
 a3:i1≠z
 a4:i2≠z
 a5:TI≠TO
 a6:TI≠i1
 a7:TI≠i2
 a8:TO≠i1
 a9:TO≠i2
 mG:i1≠i2
 b1:z∉f1
 b2:TO∉f1
 b3:i2∉f1
 c1:z∉f2
 c2:TO∉f2
 c3:i1∉f2
variable {z TI TO i1 i2:Addr}{f1 f2:QXQ}{n1 n2 k1 k2:Nat}{P1 P2:Nat→Vl→Prop}{S1 S2:Nat→Heap→Prop}
section
variable {a b:Vl}
def nY{fp:QXQ}{it:Addr}{n:Nat}{Pt:Nat->Vl->Prop}{St:Nat->Heap->Prop}(Dr:Draws prog w A it fp n Pt St){i:Nat}{h g:Heap}{c:Addr}(st:St i h)(hs:Heap.SameBut c h g)(hc:c∉fp):St i g:=
 Dr.frame _ _ _ st λd hd o e=>(hs.2 d λq=>hc (q ▸ hd)).trans e
def CM{Q:QQX}(D1:Draws prog w A i1 f1 n1 P1 S1)(D2:Draws prog w A i2 f2 n2 P2 S2)(Ni:rX z TI TO i1 i2 f1 f2)(hz:IsZip s.heap z TI TO .none)(hI:IsPair s.heap TI (.ref i1) (.ref i2))(hO:IsPair s.heap TO a b) (PY:S1 k1 s.heap) (Nf:S2 k2 s.heap) (l1:k1<n1) (l2:k2<n2) (hQ:∀x y g tk,P1 k1 x->P2 k2 y->IsZip g z TI TO (rawInt s.heap.objs.size)->IsPair g TO x y->S1 (k1+1) g->S2 (k2+1) g->IsPair g s.heap.objs.size x y->g.objs.size=s.heap.objs.size+1->
   (∀c o,c≠z->c≠TO->c≠i1->c≠i2->s.heap.get? c=some o->g.get? c=some o)->Q (.ref s.heap.objs.size) {s with heap:=g,toks:=tk}):
  wpAny (model prog w) A (Builtin.«zip.__next__» ⟨[.ref z],[]⟩) (λfin s'=>∃v,fin=.done (.ret v)/\Q v s') E s:=by
 show wpAny (model prog w) A (field (.ref z) 2>>=_) _ _ _;refine bh (cZ hz rfl (x:=.bool false) rfl ?_);show wpAny (model prog w) A (field (.ref z) 3>>=_) _ _ _;refine bh (cZ hz rfl (x:=.ref TI) rfl (bh (dA hI rfl ?_)));show wpAny (model prog w) A (Builtin.SmallTypes.ownedTupleIsFree (.ref z)>>=_) _ _ _;refine bh ?_;unfold Builtin.SmallTypes.ownedTupleIsFree;refine bh (cZ hz rfl (x:=.none) rfl (bj ?_));simp only[gD];refine bh (dI (bh (cZ hz rfl (x:=.ref TO) rfl (bh (eh hz (by simp) λg1 z1 Ot=>?_)))));replace z1:IsZip g1 z TI TO .ellipsis:=z1;refine bh ?_;simp only[iL,kB,iW,i8];refine bh (bh (ig ?_));show wpAny (model prog w) A (Builtin.SmallTypes.nextOf (.ref i1)>>=_) _ _ _;have OR:S1 k1 g1:=nY D1 PY Ot Ni.b1;refine bh (D1.item k1 _ _ _ l1 OR λx g2 tk2 px st1b NT=>bj ?_);replace NT:Heap.SameBut i1 g1 g2:=NT;have o2:IsPair g2 TO a b:=NT.extBut _ _ Ni.a8 (Ot.extBut _ _ Ni.a2 hO);refine bh (dA o2 rfl (bh (gO o2 λg3 o3 N9=>?_)));replace o3:IsPair g3 TO x b:=o3;replace N9:Heap.SameBut TO g2 g3:=N9;refine bh (j7 (bj (bh (bh (ig ?_)))));show wpAny (model prog w) A (Builtin.SmallTypes.nextOf (.ref i2)>>=_) _ _ _;have Ph:S2 k2 g3:=nY D2 (nY D2 (nY D2 Nf Ot Ni.c1) NT Ni.c3) N9 Ni.c2;refine bh (D2.item k2 _ _ _ l2 Ph λy g4 tk4 py st2b OY=>bj ?_);replace OY:Heap.SameBut i2 g3 g4:=OY;have o4:IsPair g4 TO x b:=OY.extBut _ _ Ni.a9 o3;refine bh (dA o4 rfl (bh (gO o4 λg5 o5 OZ=>?_)));replace o5:IsPair g5 TO x y:=o5;replace OZ:Heap.SameBut TO g4 g5:=OZ;refine bh (j7 (bj (bj (bh (dA o5 rfl (bh (ja ?_)))))));have esz:g5.objs.size=s.heap.objs.size:=by rw[OZ.1,OY.1,N9.1,NT.1,Ot.1]
 have z5:IsZip g5 z TI TO .ellipsis:=OZ.extBut _ _ Ni.a2.symm (OY.extBut _ _ Ni.a4.symm (N9.extBut _ _ Ni.a2.symm (NT.extBut _ _ Ni.a3.symm z1)));have kp:∀c o,c≠z->c≠TO->c≠i1->c≠i2->s.heap.get? c=some o->g5.get? c=some o:=λc o q1 q2 q3 q4 q=>OZ.extBut _ _ q2 (OY.extBut _ _ q4 (N9.extBut _ _ q2 (NT.extBut _ _ q3 (Ot.extBut _ _ q1 q))));have st1c:S1 (k1+1) g5:=nY D1 (nY D1 (nY D1 st1b N9 Ni.b2) OY Ni.b3) OZ Ni.b2;have st2c:S2 (k2+1) g5:=nY D2 st2b OZ Ni.c2;have zlt:z<g5.objs.size:=bB z5;show wpAny (model prog w) A (Builtin.SmallTypes.ownedTupleHandOut (.ref z) (.ref g5.objs.size)>>=_) _ _ _;refine bh ?_;unfold Builtin.SmallTypes.ownedTupleHandOut;have z6:IsZip (g5.push {cls:=.type "tuple",data:=.seq #[x,y]}) z TI TO .ellipsis:=bp _ z5;refine bh (eh z6 (by simp) λg7 z7 sb7=>?_);replace z7:IsZip g7 z TI TO (rawInt g5.objs.size):=z7;refine eh z7 (by simp) λg8 z8 sb8=>?_;replace z8:IsZip g8 z TI TO (rawInt g5.objs.size):=z8;have up:∀c o,c≠z->g5.get? c=some o->g8.get? c=some o:=λc o q1 q=>sb8.extBut _ _ q1 (sb7.extBut _ _ q1 (bp _ q));have tu:IsPair g8 g5.objs.size x y:=sb8.extBut _ _ (cN zlt) (sb7.extBut _ _ (cN zlt) (bD _ rfl));have es8:g8.objs.size=g5.objs.size+1:=by rw[sb8.1,sb7.1,bY]
 rw[esz]at z8 tu es8;refine bj ⟨_,rfl,?_⟩;show Q (.ref g5.objs.size) _;rw[esz];exact hQ x y g8 _ px py z8 (up _ _ Ni.a2 o5) (D1.frame _ _ _ st1c λc hc o q=>up c o (λr=>Ni.b1 (r ▸ hc)) q) (D2.frame _ _ _ st2c λc hc o q=>up c o (λr=>Ni.c1 (r ▸ hc)) q) tu es8 λc o q1 q2 q3 q4 q=>up c o q1 (kp c o q1 q2 q3 q4 q)
def Ek{Q:Fin->Sd->Prop}(D1:Draws prog w A i1 f1 n1 P1 S1)(D2:Draws prog w A i2 f2 n2 P2 S2)(Ni:rX z TI TO i1 i2 f1 f2)(hz:IsZip s.heap z TI TO .none)(hI:IsPair s.heap TI (.ref i1) (.ref i2))(hO:IsPair s.heap TO a b) (PY:S1 k1 s.heap) (Nf:S2 k1 s.heap) (PZ:k1=n1\/(k1<n1/\k1=n2)) (hE:∀g e,(∀c o,c≠z->c≠TO->c≠i1->c≠i2->s.heap.get? c=some o->g.get? c=some o)->(∃o,g.get? e=some o/\o.cls=.type "StopIteration")->∀tk,E (.ref e) {s with heap:=g,toks:=tk}):
  wpAny (model prog w) A (Builtin.«zip.__next__» ⟨[.ref z],[]⟩) Q E s:=by
 show wpAny (model prog w) A (field (.ref z) 2>>=_) _ _ _;refine bh (cZ hz rfl (x:=.bool false) rfl ?_);show wpAny (model prog w) A (field (.ref z) 3>>=_) _ _ _;refine bh (cZ hz rfl (x:=.ref TI) rfl (bh (dA hI rfl ?_)));show wpAny (model prog w) A (Builtin.SmallTypes.ownedTupleIsFree (.ref z)>>=_) _ _ _;refine bh ?_;unfold Builtin.SmallTypes.ownedTupleIsFree;refine bh (cZ hz rfl (x:=.none) rfl (bj ?_));simp only[gD];refine bh (dI (bh (cZ hz rfl (x:=.ref TO) rfl (bh (eh hz (by simp) λg1 z1 Ot=>?_)))));replace z1:IsZip g1 z TI TO .ellipsis:=z1;refine bh ?_;simp only[iL,kB,iW,i8];refine bh (bh (ig ?_));show wpAny (model prog w) A (Builtin.SmallTypes.nextOf (.ref i1)>>=_) _ _ _;have OR:S1 k1 g1:=nY D1 PY Ot Ni.b1;rcases PZ with he|⟨Nd,he⟩
 .rw[he]at OR;refine bh (D1.done _ _ _ OR λg2 e NT hx=>?_);obtain⟨oe,g,hce⟩:=hx;have z2:IsZip g2 z TI TO .ellipsis:=NT _ _ Ni.a3.symm z1;have hez:e≠z:=λq=>by subst q;rw[z2]at g;cases g;simp at hce
  exact eh z2 (by simp) λg3 _ N9=>hE g3 e (λc o q1 _ q3 _ q=>N9.extBut _ _ q1 (NT _ _ q3 (Ot.extBut _ _ q1 q))) ⟨oe,N9.extBut _ _ hez g,hce⟩ _
 .refine bh (D1.item k1 _ _ _ Nd OR λx g2 tk2 px st1b NT=>bj ?_);replace NT:Heap.SameBut i1 g1 g2:=NT;have o2:IsPair g2 TO a b:=NT.extBut _ _ Ni.a8 (Ot.extBut _ _ Ni.a2 hO);refine bh (dA o2 rfl (bh (gO o2 λg3 o3 N9=>?_)));replace N9:Heap.SameBut TO g2 g3:=N9;refine bh (j7 (bj (bh (bh (ig ?_)))));show wpAny (model prog w) A (Builtin.SmallTypes.nextOf (.ref i2)>>=_) _ _ _;have Ph:S2 k1 g3:=nY D2 (nY D2 (nY D2 Nf Ot Ni.c1) NT Ni.c3) N9 Ni.c2;rw[he]at Ph;refine bh (D2.done _ _ _ Ph λg4 e OY hx=>?_);obtain⟨oe,g,hce⟩:=hx;have z4:IsZip g4 z TI TO .ellipsis:=OY _ _ Ni.a4.symm (N9.extBut _ _ Ni.a2.symm (NT.extBut _ _ Ni.a3.symm z1));have hez:e≠z:=λq=>by subst q;rw[z4]at g;cases g;simp at hce
  exact eh z4 (by simp) λg5 _ OZ=>hE g5 e (λc o q1 q2 q3 q4 q=>OZ.extBut _ _ q1 (OY _ _ q4 (N9.extBut _ _ q2 (NT.extBut _ _ q3 (Ot.extBut _ _ q1 q))))) ⟨oe,OZ.extBut _ _ hez g,hce⟩ _
end
abbrev K2(h:Heap)(t:Addr):Heap:=h.push {cls:=.type "tuple_iterator",data:=.fields #[.ref t,.int 0 0]}
abbrev La(h:Heap)(t u:Addr):Heap:=(K2 h t).push {cls:=.type "tuple_iterator",data:=.fields #[.ref u,.int 0 0]}
abbrev K0(h:Heap)(t u:Addr):Heap:=(La h t u).push {cls:=.type "tuple",data:=.seq #[.ref h.objs.size,.ref (K2 h t).objs.size]}
abbrev K4(h:Heap)(t u:Addr):Heap:=(K0 h t u).push {cls:=.type "tuple",data:=.seq #[.none,.none]}
abbrev JJ(h:Heap)(t u:Addr):Heap:=(K4 h t u).push {cls:=.type "zip",data:=.fields #[.none,.bool false,.bool false,.ref (La h t u).objs.size,.ref (K0 h t u).objs.size]}
def wL(t u:Addr)(xs ys:Array Vl):
  Meets (Builtin.«zip.__new__» ⟨[.type "zip",.ref t,.ref u],[]⟩) (λ_ R s=>s.heap.IsTuple t xs/\s.heap.IsTuple u ys/\R (.ok (.ret (.ref (K4 s.heap t u).objs.size))) {s with heap:=JJ s.heap t u}):=
 .of_wp λprog w A R s h=>by
  obtain⟨hp,g,d,tk,os⟩:=s;obtain⟨e1,e2,h⟩:=h;have Og:=sub_zip;have q1:Heap.IsTuple (Shared.heap ⟨hp,g,d,tk,os⟩) t xs:=e1;have q2:Heap.IsTuple (Shared.heap ⟨hp.push {cls:=.type "tuple_iterator",data:=.fields #[.ref t,.int 0 0]},g,d,tk,os⟩) u ys:=Heap.IsTuple.push e2 _
  wp_walk using fh q1,fh q2
  exact⟨_,rfl,h⟩
def yE{t u:Addr}{xs ys:Array Vl}{Q:QQX}(ht:s.heap.IsTuple t xs)(hu:s.heap.IsTuple u ys) (h:∀g,IsZip g (s.heap.objs.size+4) (s.heap.objs.size+2) (s.heap.objs.size+3) .none->IsPair g (s.heap.objs.size+2) (.ref s.heap.objs.size) (.ref (s.heap.objs.size+1))->IsPair g (s.heap.objs.size+3) .none .none->
   g.IsTupleIter s.heap.objs.size t 0->g.IsTupleIter (s.heap.objs.size+1) u 0->(∀c o,s.heap.get? c=some o->g.get? c=some o)->Q (.ref (s.heap.objs.size+4)) {s with heap:=g}):
  wpAny (model prog w) A (call (.type "zip") [.ref t,.ref u]) Q E s:=by
 refine callType_new F.called_zip (by decide) (F.typeCall_zip_2 _ _) (F.newCall_zip_2 _ _) (λobj=>F.args_object_init_3 obj _ _) F.entry_zip_new (wL t u xs ys) ⟨ht,hu,?_⟩;have m1:(K2 s.heap t).objs.size=s.heap.objs.size+1:=bY ..;have m2:(La s.heap t u).objs.size=s.heap.objs.size+2:=by rw[bY,m1]
 have m3:(K0 s.heap t u).objs.size=s.heap.objs.size+3:=by rw[bY,m2]
 have m4:(K4 s.heap t u).objs.size=s.heap.objs.size+4:=by rw[bY,m3]
 have up:∀{h:Heap} {c:Addr} {o p:Obj},h.get? c=some o->(h.push p).get? c=some o:=λq=>bp _ q;have r5:(JJ s.heap t u).get? (K4 s.heap t u).objs.size=some _:=bD _ rfl;have r4:(JJ s.heap t u).get? (K0 s.heap t u).objs.size=some _:=up (bD _ rfl);have r3:(JJ s.heap t u).get? (La s.heap t u).objs.size=some _:=up (up (bD _ rfl));have r2:(JJ s.heap t u).get? (K2 s.heap t).objs.size=some _:=up (up (up (bD _ rfl)));have r1:(JJ s.heap t u).get? s.heap.objs.size=some _:=up (up (up (up (bD _ rfl))));show _/\_;rw[m2,m3,m4]at r5;rw[m1,m2]at r3;rw[m3]at r4;rw[m1]at r2;rw[m4];exact⟨⟨_,r5,rfl⟩,h _ r5 r3 r4 ⟨_,r1,rfl,rfl⟩ ⟨_,r2,rfl,rfl⟩ λc o q=>up (up (up (up (up q))))⟩
def uJ{z TI TO i1 i2:Addr}{f1 f2:QXQ}{n1 n2 k:Nat}{P1 P2:Nat->Vl->Prop}{S1 S2:Nat->Heap->Prop}{a b:Vl}{Q:Option Vl->Sd->Prop}(D1:Draws prog w A.in1 i1 f1 n1 P1 S1)(D2:Draws prog w A.in1 i2 f2 n2 P2 S2)(Ni:rX z TI TO i1 i2 f1 f2) (hz:IsZip s.heap z TI TO .none) (hI:IsPair s.heap TI (.ref i1) (.ref i2)) (hO:IsPair s.heap TO a b) (PY:S1 k s.heap) (Nf:S2 k s.heap) (l1:k<n1) (l2:k<n2) (hQ:∀x y g tk,P1 k x->P2 k y->IsZip g z TI TO (rawInt s.heap.objs.size)->IsPair g TO x y->S1 (k+1) g->S2 (k+1) g->IsPair g s.heap.objs.size x y->g.objs.size=s.heap.objs.size+1->
   (∀c o,c≠z->c≠TO->c≠i1->c≠i2->s.heap.get? c=some o->g.get? c=some o)->Q (some (.ref s.heap.objs.size)) {s with heap:=g,toks:=tk}):wpAny (model prog w) A (pyNext (.ref z)) Q E s:=by
 have hT:s.TypeIs (.ref z) "zip":=⟨_,hz,rfl⟩;unfold pyNext;refine bh (gu (cH (name:=Str.ofString "__next__") hT gP (cq gP hT km ?_ (jP _))));exact CM D1 D2 Ni hz hI hO PY Nf l1 l2 λx y g tk q1 q2 q3 q4 q5 q6 q7 q8 q9=>bj (hQ x y g tk q1 q2 q3 q4 q5 q6 q7 q8 q9)
def rD{z TI TO i1 i2:Addr}{f1 f2:QXQ}{n1 n2 k:Nat}{P1 P2:Nat->Vl->Prop}{S1 S2:Nat->Heap->Prop}{a b:Vl}{Q:Option Vl->Sd->Prop}(D1:Draws prog w A.in1 i1 f1 n1 P1 S1)(D2:Draws prog w A.in1 i2 f2 n2 P2 S2)(Ni:rX z TI TO i1 i2 f1 f2) (hz:IsZip s.heap z TI TO .none) (hI:IsPair s.heap TI (.ref i1) (.ref i2)) (hO:IsPair s.heap TO a b) (PY:S1 k s.heap) (Nf:S2 k s.heap) (PZ:k=n1\/(k<n1/\k=n2)) (hQ:∀g tk,(∀c o,c≠z->c≠TO->c≠i1->c≠i2->s.heap.get? c=some o->g.get? c=some o)->Q none {s with heap:=g,toks:=tk}):wpAny (model prog w) A (pyNext (.ref z)) Q E s:=by
 have hT:s.TypeIs (.ref z) "zip":=⟨_,hz,rfl⟩;unfold pyNext;refine bh (gu (cH (name:=Str.ofString "__next__") hT gP (cq gP hT km (Ek D1 D2 Ni hz hI hO PY Nf PZ λg e kp hx tk=>?_) (jP _))));obtain⟨o,e1,e2⟩:=hx;exact bh (fN (T:="StopIteration") (b:=true) ⟨o,e1,e2⟩ isSubtype_stop (bj (hQ g tk kp)))
def yI{a b:Addr}{xs:T0 V}(I:Inv X MV Y H s)(f:ut X MV H b)(q:p9 X.K H a xs):a≠b:=by
 rintro rfl
 rcases q with q|⟨o,its,n,hk,_⟩
 .have z:=f.1;rcases q with q|⟨u,q⟩<;>(rw[q]at z;cases z)
 .have e:=I.mod.ml a o hk;rcases f.2.2.2.1 with z|z
  .exact I.ok.lY a o e z
  .exact absurd (bO (bB e) (bS I.ok.ma z)) (cL _)
noncomputable def LZ(K:mZ)(a b:Addr):It:=
 ⟨λi H=>∃xs ys x y,p9 K H a xs/\p9 K H b ys/\xs[i]?=some x/\ys[i]?=some y,λi H v H'=>∃p x y,v=.ref p/\H p=none/\H'=upd H p (.tup [x,y])/\(∀xs,p9 K H a xs->xs[i]?=some x)/\(∀ys,p9 K H b ys->ys[i]?=some y),λi H=>∃xs ys,p9 K H a xs/\p9 K H b ys/\i=min xs.length ys.length⟩
def Dp{P:Pg}{w:Wo}{K:mZ}{Nr:T0 Expr}{n:Nat}{tp:Pos}(a b z TI TO i1 i2:Addr)(a1:TI≠z)(a2:TO≠z)(a3:i1≠z)(a4:i2≠z)(a5:TI≠TO)(a6:TI≠i1)(a7:TI≠i2)(a8:TO≠i1)(a9:TO≠i2)(mG:i1≠i2):
  wG P w K (.Tuple Nr n tp) (LZ K a b) [z,TI,TO,i1,i2] z (λi h=>IsZip h z TI TO .none/\IsPair h TI (.ref i1) (.ref i2)/\(∃u v,IsPair h TO u v)/\h.IsTupleIter i1 a i/\h.IsTupleIter i2 b i) where
 mem:=by simp
 obj:=λi h st c hc=>by
  obtain⟨h1,h2,⟨u,v,h3⟩,⟨o4,h4,_,d4⟩,⟨o5,h5,_,d5⟩⟩:=st;simp only[bq,bE,bV]at hc;rcases hc with rfl|rfl|rfl|rfl|rfl
  .exact⟨_,h1,λv z=>by cases z⟩
  .exact⟨_,h2,λv z=>by cases z⟩
  .exact⟨_,h3,λv z=>by cases z⟩
  .exact⟨_,h4,λv z=>by rw[d4]at z;cases z⟩
  .exact⟨_,h5,λv z=>by rw[d5]at z;cases z⟩
 keep:=λi h h' st k=>by obtain⟨h1,h2,⟨u,v,h3⟩,⟨o4,h4,c4⟩,⟨o5,h5,c5⟩⟩:=st;exact⟨k z (by simp) _ h1,k TI (by simp) _ h2,⟨u,v,k TO (by simp) _ h3⟩,⟨o4,k i1 (by simp) _ h4,c4⟩,⟨o5,k i2 (by simp) _ h5,c5⟩⟩
 item:=by
  intro X hP hw hK hc i MV s Y H E I hf st hg;subst hP hw hK;obtain⟨xs,ys,x,y,hx,hy,ex,ey⟩:=hg;obtain⟨its,rx,px,_⟩:=I.tuple hx;obtain⟨NV,ry,py,_⟩:=I.tuple hy;obtain⟨u,eu,ru⟩:=rx.get ex;obtain⟨v,ev,rv⟩:=ry.get ey;obtain⟨h1,h2,⟨p,q,h3⟩,h4,h5⟩:=st;have hh:X.A.in1.handled=none:=I.ok.hd hc;have fa:∀c∈[z,TI,TO,i1,i2],a≠c:=λc hc=>yI I (hf c hc) hx;have fb:∀c∈[z,TI,TO,i1,i2],b≠c:=λc hc=>yI I (hf c hc) hy;have Ni:rX z TI TO i1 i2 [i1,a] [i2,b]:=⟨a1,a2,a3,a4,a5,a6,a7,a8,a9,mG,by
   simp only[bq,bE,bV,cA];exact⟨bQ a3,bQ (fa z (by simp))⟩,by
   simp only[bq,bE,bV,cA];exact⟨a8,bQ (fa TO (by simp))⟩,by
   simp only[bq,bE,bV,cA];exact⟨bQ mG,bQ (fa i2 (by simp))⟩,by
   simp only[bq,bE,bV,cA];exact⟨bQ a4,bQ (fb z (by simp))⟩,by
   simp only[bq,bE,bV,cA];exact⟨a9,bQ (fb TO (by simp))⟩,by
   simp only[bq,bE,bV,cA];exact⟨mG,bQ (fb i1 (by simp))⟩⟩
  have l1:i<its.toArray.size:=by
   have:=(bI.mp eu).1
   simpa using this
  have l2:i<NV.toArray.size:=by
   have:=(bI.mp ev).1
   simpa using this
  refine uJ (sj hh i1 a (fa i1 (by simp)) its.toArray) (sj hh i2 b (fb i2 (by simp)) NV.toArray) Ni h1 h2 h3 ⟨h4,px⟩ ⟨h5,py⟩ l1 l2 λx' y' g tk e1 e2 z1 o1 s1 s2 t1 sz kp=>?_;have e1':x'=u:=by
   have:its[i]?=some x':=by simpa using e1
   rw[eu]at this;exact(bH this).symm
  have OG:y'=v:=by
   have:NV[i]?=some y':=by simpa using e2
   rw[ev]at this;exact(bH this).symm
  subst e1' OG;refine⟨_,rfl,iy z1 λg2 z2 sb=>?_⟩;have zlt:z<s.heap.objs.size:=bB h1;have kk:∀c o,c∉[z,TI,TO,i1,i2]->s.heap.get? c=some o->g2.get? c=some o:=λc o hc e=>by simp only[bq,bE,bV,cA]at hc;exact(sb.2 c hc.1).trans (kp c o hc.1 hc.2.2.1 hc.2.2.2.1 hc.2.2.2.2 e)
  have t2:g2.get? s.heap.objs.size=some {cls:=.type "tuple",data:=.seq #[x',y']}:=(sb.2 _ (cN zlt)).trans t1;have OQ:H s.heap.objs.size=none:=I.lA.fresh (bw _);have I2:=I.drawn (ch:=[z,TI,TO,i1,i2]) (T:=s.heap.objs.size) (xs:=[x,y]) (its:=[x',y']) (h':=g2) (tk:=tk) hf kk (bw _) (by show 2<=sizeLine;decide) (.cons ru (.cons rv .nil)) ⟨_,t2,rfl,⟨_,rfl⟩,rfl⟩;refine⟨.ref s.heap.objs.size,_,I2,rfl,⟨_,x,y,rfl,OQ,rfl,λxs' hx'=>by rw[I.lE hx' hx];exact ex,λys' hy'=>by rw[I.lE hy' hy];exact ey⟩,?_,λc hc=>?_⟩
  .obtain⟨o4,g4,c4⟩:=s1.1;obtain⟨o5,g5,c5⟩:=s2.1;exact⟨z2,(sb.2 _ a1).trans (kp _ _ a1 a5 a6 a7 h2),⟨_,_,(sb.2 _ a2).trans o1⟩,⟨o4,(sb.2 _ a3).trans g4,c4⟩,⟨o5,(sb.2 _ a4).trans g5,c5⟩⟩
  .have n0:=(hf c hc).1;obtain⟨o,eo⟩:∃o,s.heap.get? c=some o:=by
    obtain⟨o4,g4,_⟩:=h4;obtain⟨o5,g5,_⟩:=h5;simp only[bq,bE,bV]at hc;rcases hc with rfl|rfl|rfl|rfl|rfl
    .exact⟨_,h1⟩
    .exact⟨_,h2⟩
    .exact⟨_,h3⟩
    .exact⟨_,g4⟩
    .exact⟨_,g5⟩
   rw[m7 (bG (bB eo))];exact n0
 done:=by
  intro X hP hw hK hc i MV s Y H E I hf st hg;subst hP hw hK;obtain⟨xs,ys,hx,hy,hi⟩:=hg;obtain⟨its,rx,px,_⟩:=I.tuple hx;obtain⟨NV,ry,py,_⟩:=I.tuple hy;obtain⟨h1,h2,⟨p,q,h3⟩,h4,h5⟩:=st;have hh:X.A.in1.handled=none:=I.ok.hd hc;have fa:∀c∈[z,TI,TO,i1,i2],a≠c:=λc hc=>yI I (hf c hc) hx;have fb:∀c∈[z,TI,TO,i1,i2],b≠c:=λc hc=>yI I (hf c hc) hy;have Ni:rX z TI TO i1 i2 [i1,a] [i2,b]:=⟨a1,a2,a3,a4,a5,a6,a7,a8,a9,mG,by
   simp only[bq,bE,bV,cA];exact⟨bQ a3,bQ (fa z (by simp))⟩,by
   simp only[bq,bE,bV,cA];exact⟨a8,bQ (fa TO (by simp))⟩,by
   simp only[bq,bE,bV,cA];exact⟨bQ mG,bQ (fa i2 (by simp))⟩,by
   simp only[bq,bE,bV,cA];exact⟨bQ a4,bQ (fb z (by simp))⟩,by
   simp only[bq,bE,bV,cA];exact⟨a9,bQ (fb TO (by simp))⟩,by
   simp only[bq,bE,bV,cA];exact⟨mG,bQ (fb i1 (by simp))⟩⟩
  have e1:=rx.length;have e2:=ry.length;refine rD (sj hh i1 a (fa i1 (by simp)) its.toArray) (sj hh i2 b (fb i2 (by simp)) NV.toArray) Ni h1 h2 h3 ⟨h4,px⟩ ⟨h5,py⟩ (by simp only[bz];lia) λg tk kp=>⟨rfl,?_⟩;have kk:∀c o,c∉[z,TI,TO,i1,i2]->s.heap.get? c=some o->g.get? c=some o:=λc o hc e=>by simp only[bq,bE,bV,cA]at hc;exact kp c o hc.1 hc.2.2.1 hc.2.2.2.1 hc.2.2.2.2 e
  refine I.step (g':=s.gens) (d':=s.drawn) (t':=tk) (ch:=[z,TI,TO,i1,i2]) (λc hc=>⟨(hf c hc).2.2.2.1,(hf c hc).2.1,(hf c hc).2.2.2.2.1,(hf c hc).2.2.2.2.2⟩) ?_ ?_ (λc o _ e n=>n) ?_ (λ_ _ e=>e) (λ_ _ _ e=>e) (λc ps e=>⟨#[],by rw[e];simp⟩) ?_ ?_ I.bare
  .exact λc o _ _ hc e _=>kk c o hc e
  .exact λc o _ _ hc e _=>⟨o.slots,kk c o hc e⟩
  .exact λc o hc e=>⟨o,kk c o hc e⟩
  .intro m hm;obtain⟨o,es,ep,ho,r⟩:=hm;exact⟨o,es,ep,kk _ o (λy=>(hf _ y).2.1 rfl) ho,r⟩
  .intro c u e;refine(I.lA c u e).lN (λd v hd q=>kk d v (λy=>?_) q) (λ_ q=>q) λ_ _ q=>q;have n:=(hf d y).1;rcases hd with x|x
   .rw[x,e]at n;cases n
   .rw[x]at n;cases n
 self:=λ_ _ _ _ _ st h=>gz st.1 h
def Jb{a b:Expr}{ta:TA}(hg:Gl X "zip")(hm:X.mg "zip"=none)(ha:PA X [a,b] ta)(hs:starEach [a,b] X.env=[(false,eval a X.env),(false,eval b X.env)]:=by rfl)(N7:starEach [b] X.env=[(false,eval b X.env)]:=by rfl):
  PI X (.Tuple Nr n tp) (.Call (.Name "zip" p) [a,b] [] pos) (λY H R=>ta Y H λvs H1=>∃l m,vs=[.ref l,.ref m]/\(∃xs,p9 X.K H1 l xs)/\(∃xs,p9 X.K H1 m xs)/\R (LZ X.K l m) H1):=by
 intro MV s Y H R I h;refine Call_ (qu I hg hm D5 (cP (o6 (ha pos MV s Y H _ I h) λus s1 zz=>x5 zz λvs H1 I1 r1 q1=>?_) (by rw[hs,N7]) (by rw[N7];rfl)));obtain⟨l,m,e,⟨xs,hx⟩,⟨ys,hy⟩,q⟩:=q1;subst e;obtain⟨u,v,rfl,ru,rv⟩:=BF r1;cases ru;cases rv;obtain⟨its,_,px,_⟩:=I1.tuple hx;obtain⟨NV,_,py,_⟩:=I1.tuple hy;refine yE px py λg h1 h2 h3 h4 h5 hk=>gz h1 ?_;have I2:Inv X MV Y H1 {s1 with heap:=g}:=I1.kept (t':=s1.toks) hk;refine⟨s1.heap.objs.size+4,[s1.heap.objs.size+4,s1.heap.objs.size+2,s1.heap.objs.size+3,s1.heap.objs.size,s1.heap.objs.size+1],_,_,H1,rfl,I2,Dp l m _ _ _ _ _ ?_ ?_ ?_ ?_ ?_ ?_ ?_ ?_ ?_ ?_,⟨h1,h2,⟨_,_,h3⟩,h4,h5⟩,λb hb=>?_,q⟩
 .exact λz=>by have z:s1.heap.objs.size+2=s1.heap.objs.size+4:=z;lia
 .exact λz=>by have z:s1.heap.objs.size+3=s1.heap.objs.size+4:=z;lia
 .exact λz=>by have z:s1.heap.objs.size=s1.heap.objs.size+4:=z;lia
 .exact λz=>by have z:s1.heap.objs.size+1=s1.heap.objs.size+4:=z;lia
 .exact λz=>by have z:s1.heap.objs.size+2=s1.heap.objs.size+3:=z;lia
 .exact λz=>by have z:s1.heap.objs.size+2=s1.heap.objs.size:=z;lia
 .exact λz=>by have z:s1.heap.objs.size+2=s1.heap.objs.size+1:=z;lia
 .exact λz=>by have z:s1.heap.objs.size+3=s1.heap.objs.size:=z;lia
 .exact λz=>by have z:s1.heap.objs.size+3=s1.heap.objs.size+1:=z;lia
 .exact λz=>by have z:s1.heap.objs.size=s1.heap.objs.size+1:=z;lia
 .have NI:s1.heap.objs.size<=b:=by
   simp only[bq,bE,bV]at hb;rcases hb with rfl|rfl|rfl|rfl|rfl
   .exact dO _ _
   .exact dO _ _
   .exact dO _ _
   .exact bw _
   .exact dO _ _
  exact I1.lQ NI (I1.lA.fresh NI)
noncomputable def rK:T0 D->T0 D->T0 D
 | x::a,y::b=>.tup [x,y]::rK a b
 | _,_=>[]
theorem vh:∀{ds es:T0 D} {i:Nat},(rK ds es)[i]?=(ds[i]?).bind λd=>(es[i]?).map λe=>D.tup [d,e]
 | [],es,i=>by simp[rK]
 | d::ds,[],i=>by simp[rK]
 | d::ds,e::es,0=>by simp[rK]
 | d::ds,e::es,i+1=>by show(rK ds es)[i]?=_;rw[vh];simp
theorem sg:∀{ds es:T0 D},(rK ds es).length=min ds.length es.length
 | [],es=>by simp[rK]
 | d::ds,[]=>by simp[rK]
 | d::ds,e::es=>by show(rK ds es).length+1=_;rw[sg];simp only[bR];lia
def GL{K:mZ}{H1:Hp}{a b:Addr}{ds es:T0 D}{xs ys:T0 V}(h1:p9 K H1 a xs)(h2:mS K H1 ds xs)(g1:p9 K H1 b ys)(g2:mS K H1 es ys):wK K H1 (LZ K a b) (rK ds es) (λ_=>True) where
 go:=λi H M hi hm ok e1=>by rw[sg]at hi;obtain⟨x,ex,_⟩:=h2.get (bC (show i<ds.length by lia));obtain⟨y,ey,_⟩:=g2.get (bC (show i<es.length by lia));exact⟨xs,ys,x,y,e1.t _ _ h1,e1.t _ _ g1,ex,ey⟩
 mB:=λi d H M v H' hd hm ok e1 y=>by
  obtain⟨p,x,z,rfl,hp,rfl,y1,y2⟩:=y;rw[vh]at hd;cases e:ds[i]? with
  | none=>rw[e]at hd;cases hd
  | some d'=>
   cases e':es[i]? with
   | none=>rw[e,e']at hd;cases hd
   | some d''=>rw[e,e']at hd;cases hd;obtain⟨x',q1,hx⟩:=h2.get e;obtain⟨z',q2,hz⟩:=g2.get e';have w1:=y1 xs (e1.t _ _ h1);have w2:=y2 ys (e1.t _ _ g1);rw[q1]at w1;rw[q2]at w2;have v1:x'=x:=bH w1;have v2:z'=z:=bH w2;subst v1 v2;have ex:nA K H (upd H p (.tup [x',z'])):=.new hp;exact⟨.tup (.of mY) (.cons (hx.mono (e1.trans ex)) (.cons (hz.mono (e1.trans ex)) .nil)),hm.add hp,ex⟩
 stop:=λH M hm ok e1=>⟨xs,ys,e1.t _ _ h1,e1.t _ _ g1,by rw[sg,h2.length,g2.length]⟩
def J9(t:rN):Dj:=λU M R=>t U M λds M1=>match ds with
 | [.tup a,.tup b]=>R (rK a b) (λ_=>True) M1
 | _=>False
def IL{a b:Expr}{ta:rN}(hg:Gl X "zip")(hm:X.mg "zip"=none)(ha:A3 X [a,b] ta)(hs:starEach [a,b] X.env=[(false,eval a X.env),(false,eval b X.env)]:=by rfl)(N7:starEach [b] X.env=[(false,eval b X.env)]:=by rfl):
  I3 X (.Tuple Nr n tp) (.Call (.Name "zip" p) [a,b] [] pos) (J9 ta):=
 PI.mono (Jb hg hm ha hs N7) λY H R' zz=>x7 zz λU M R hs hm ht k=>⟨U,M,_,hs,hm,ht,λvs H1 ds M1 hd MX e1 q1=>by
  split at q1
  .obtain⟨v,u,rfl,hv,hw⟩:=vm hd;obtain⟨l,xs,rfl,h1,h2⟩:=hv.lm;obtain⟨m,ys,rfl,g1,g2⟩:=hw.lm;exact⟨l,m,rfl,⟨xs,h1⟩,⟨ys,g1⟩,k _ H1 _ _ M1 (GL h1 h2 g1 g2) MX e1 trivial q1⟩
  .exact q1.elim⟩
def oj(M M':Mp):Prop:=∀a c,M a=some c->M' a=some c
def oj.refl{M:Mp}:oj M M:=λ_ _ h=>h
def oj.trans{M M1 M2:Mp}(a:oj M M1)(b:oj M1 M2):oj M M2:=λx c h=>b x c (a x c h)
def oj.new{M:Mp}{p:Addr}{c:qp}(h:M p=none):oj M (mN M p c):=λx d q=>by rw[nv (JF q h)];exact q
def oj.lst{M M':Mp}{a:Addr}{ds:T0 D}(s:oj M M')(h:md M a=some ds):md M' a=some ds:=by
 unfold md at h ⊢;cases e:M a with
 | none=>rw[e]at h;cases h
 | some c=>rw[s a c e];rw[e]at h;exact h
def HM.sub{K:mZ}{H:Hp}{M M':Mp}(h:HM K H M')(s:oj M M'):HM K H M:=λa c q=>h a c (s a c q)
def J8{x qual:Str}{st:Stmt}{f:Addr}{fd:FuncData}{N ps:QQQ}{k:Nat}{sp:pJ}(F:Ja K x qual st f fd)(S:pQ N ps (m8 st))(len:∀ds M Q,sp ds M Q->ds.length=ps.length) (Nz:∀(Nk:Vl) (A:Ar) (outer:T0 Env) (s:Sd) (H:Hp) (E:XK),oE k (A.deeper (envOfC qual (m8 st) s.heap.objs.size f Nk))->
   ∃t,Ee (yr FC P w K mg base N qual (m8 st) f Nk A outer s H E).mj (oz st) t/\∀ds M Q,sp ds M Q->t {nx:=λ_ M'=>∃Nn,oj Nn M'/\Q .lw Nn,rt:=λd M'=>∃Nn,oj Nn M'/\Q d Nn} (um N ds) M):GD P w K mg base (k+1) f fd ps sp:=by
 refine F.ok S (λvs H Q E h=>?_) (λNk A outer s H vs Q' E hr h=>?_)
 .obtain⟨ds,M,Q,hd,_,hs,_⟩:=h;rw[<-hd.length];exact len ds M Q hs
 .obtain⟨ds,M,Q,hd,hm,hs,k⟩:=h;obtain⟨t,ht,hb⟩:=Nz Nk A outer s H E hr;exact⟨_,ht,um N ds,M,_,CN hd,hm,hb ds M Q hs,λσ' H' δ' M' _ x2 x3 _ ⟨Nn,y1,y2⟩=>k .lw H' .lw Nn .lw (x2.sub y1) x3 y2,λv H' d M' x1 x2 x3 ⟨Nn,y1,y2⟩=>k v H' d Nn x1 (x2.sub y1) x3 y2,λ_ _ _ _ _ _ _ _ z=>z,λ_ _ _ _ _ _ _ _ z=>z⟩
theorem tJ{g:y9}{te:T3}{ok:Mp->Prop}{Q:DK}{f:D->D}{M:Mp}(J:qD->Prop)(lA:ok M):∀(ds acc:T0 D) (U:qD),J U->acc.length+ds.length<=sizeLine->
  (∀d∈ds,∀U,J U->∀k:qD->DK,(∀δ',J δ'->k δ' (f d) M)->g d U M λδ2 M2=>te δ2 M2 (k δ2))->(∀p,M p=none->Q (.ref p) (mN M p (.lst (acc++ds.map f))))->rC g xD te ok Q ds acc U M
 | [],acc,U,_,hl,_,hq=>⟨by simpa using hl,by simpa using hq⟩
 | d::r,acc,U,hj,hl,ht,hq=>by
  rw[bR]at hl;refine⟨by lia,?_⟩;refine ht d bM U hj (λδ2 y M4=>ok M4/\rC g xD te ok Q r (acc++[y]) δ2 M4) λδ' NC=>⟨lA,tJ (f:=f) J lA r (acc++[f d]) δ' NC ?_ (λe he=>ht e (bL _ he)) ?_⟩
  .rw[bF,dj];lia
  .simpa using hq
def n8{i:Nat}{te:T3}{ok:Mp->Prop}{Q:DK}{f:D->D}{M:Mp}(lA:ok M):∀(ds acc:T0 D) (U:qD),acc.length+ds.length<=sizeLine->(∀d∈ds,∀k:DK,k (f d) M->te (U.set i (some d)) M k)->
  (∀p,M p=none->Q (.ref p) (mN M p (.lst (acc++ds.map f))))->rC (rA i) xD te ok Q ds acc U M:=λds acc U hl ht hq=>
 tJ (f:=f) (λδ'=>∀d,δ'.set i (some d)=U.set i (some d)) lA ds acc U (λ_=>rfl) hl (λd hd δ' hj k hk=>by
  show te (δ'.set i (some d)) M (k (δ'.set i (some d)));rw[hj d];exact ht d hd _ (hk _ λe=>by rw[List.set_set])) hq
theorem vz{α:Type}(f:α->Bool):∀l:List α,Bj (l.map λx=>D.bl (f x))=some (l.map f)
 | []=>rfl
 | x::r=>by show(Bj (r.map λx=>D.bl (f x))).map (f x::·)=_;rw[vz f r];rfl
def mQ{M:Mp}{p:Addr}{ds:T0 D}:md (mN M p (.lst ds)) p=some ds:=by unfold md;rw[mM]
def mH{α:Type}{o:Option α}{P:α->Prop}{x:α}(e:o=some x)(h:P x):o.elim False P:=by rw[e];exact h
def mF{l:T0 D}(h:decide (l.length<=100)=true):l.length<=sizeLine:=by have z:=b7;have:=eH h;lia
theorem vw{g:y9}{tb:ui}{ok:Mp->Prop}{E:zS}(J:qD->Mp->Prop)(lA:∀U M,J U M->ok M):∀(ds:T0 D) (U:qD) (M:Mp),J U M->
  (∀d∈ds,∀U M,J U M->∀nx:qD->Mp->Prop,(∀δ' M',J δ' M'->nx δ' M')->g d U M λδ2 M2=>tb {E with nx:=nx,ct:=nx,bk:=E.nx} δ2 M2)->(∀U M,J U M->E.nx U M)->yL g tb ok E ds U M
 | [],U,M,j,_,hn=>hn U M j
 | d::r,U,M,j,ht,hn=>ht d bM U M j (λδ' M'=>ok M'/\yL g tb ok E r δ' M') λδ' M' j'=>⟨lA δ' M' j',vw J lA r δ' M' j' (λe he=>ht e (bL _ he)) hn⟩
theorem ri{g:y9}{tb:ui}{ok:Mp->Prop}{E:zS}(all:T0 D)(J:T0 D->qD->Mp->Prop)(lA:∀p U M,J p U M->ok M):∀(ds pre:T0 D) (U:qD) (M:Mp),pre++ds=all->J pre U M->
  (∀pre d post,pre++d::post=all->∀U M,J pre U M->∀nx:qD->Mp->Prop,(∀δ' M',J (pre++[d]) δ' M'->nx δ' M')->g d U M λδ2 M2=>tb {E with nx:=nx,ct:=nx,bk:=E.nx} δ2 M2)->(∀U M,J all U M->E.nx U M)->yL g tb ok E ds U M
 | [],pre,U,M,e,j,_,hn=>hn U M (by rw[<-e,b5];exact j)
 | d::r,pre,U,M,e,j,ht,hn=>ht pre d r e U M j (λδ' M'=>ok M'/\yL g tb ok E r δ' M') λδ' M' j'=>⟨lA _ δ' M' j',ri all J lA r (pre++[d]) δ' M' (by rw[<-e,cc];rfl) j' ht hn⟩
def Dn{K:mZ}{t:Vl}:W.kitOne K t t=some true:=by unfold W.kitOne;rw[bA (by simp)]
def Jk{c:Bool}{A B:Prop}(h:c=false)(hb:B):if c=true then A else B:=by subst h;exact CJ hb
def Fb{c:Bool}{A B:Prop}(h:c=true)(ha:A):if c=true then A else B:=by subst h;exact LS ha
def K9{t u:ui}{E:zS}{U:qD}{M:Mp}(R:qD->Mp->Prop)(h2:∀nx:qD->Mp->Prop,(∀δ' M',R δ' M'->nx δ' M')->t {E with nx:=nx} U M)(h1:∀δ' M',R δ' M'->u E δ' M'):C' t u E U M:=h2 (u E) h1
def Ko{K:mZ}{H:Hp}{a:Addr}{ns:T0 Int}(hO:Eb H)(hS:qM K H a (ns.map V.int)):nR K H (.rl (ns.map D.int)) (.ref a):=by
 have r:FF K H a (ns.map V.int):=by
  rcases hS with h|h
  .rcases h with h|⟨o,h⟩
   .rcases hO a with z|⟨o,xs,z⟩<;>(rw[h]at z;cases z)
   .exact .inl ⟨o,h⟩
  .exact .inr h
 unfold nR;exact⟨a,_,rfl,r,.ints⟩
def Jh{K:mZ}{sp:pJ}{H:Hp}{a:Addr}{ns:T0 Int}(hO:Eb H)(hS:qM K H a (ns.map V.int))(h:sp [.rl (ns.map D.int)] (λ_=>none) λd _=>d=.bl true):IT K sp [.ref a] H (λv _=>v=.bl true) λ_ _ _=>False:=
 ⟨_,λ_=>none,_,.cons (Ko hO hS) .nil,λ_ _ z=>(by cases z),h,λv H' d M' x1 _ _ x4=>by subst x4;exact x1.lh⟩
def Es{l:W.OpenLaw}{q:Pg}{NM:QQQ}{XP:(QQZ)->Heap->Prop}{YP:Wo->Heap->Prop}{d:DefRec}{K:Params->mZ}{k:Nat}{x:Str}{sp:pJ}(hn:l.most=some 63)(Pv:d.params.defaults=[])(hr:oE k callerA) (hY:∀(w:Wo) (h:Heap),YP w h->(K w.params).In h) (OW:∀ns:T0 Int,ns.length<=63->sp [.rl (ns.map D.int)] (λ_=>none) λd _=>d=.bl true) (F:∀(w:Wo) (mg:QQZ) (fa:Addr) (h:Heap),(K w.params).In h->h.Ns mainGlobals mg->mg d.name=some (.ref fa)->
   ∃fd:FuncData,(∀(s:Sd) (u:Vl),BindsTo s fd ⟨[u],[]⟩ [(x,u)])/\∀base:Heap,(K w.params).In base->base.Ns mainGlobals mg->GD l.prog w (K w.params) mg base k fa fd [x] sp):
  W.WalkO q NM XP YP l.row.toRowW d [] (λf vs=>PySem.call f vs):=
 L2.G' (n:=63) (k:=k) (x:=x) (CX:=λ_=>FC) (sp:=λw=>IT (K w.params) sp) hn (by decide) Pv hr hY F (λ_ _ a ns hl hO hS=>Jh hO hS (OW ns hl)) λ_ _ _ _ _ z=>z
def KD(K:mZ)(mg:QQZ)(x:Str)(d:D):Prop:=Fw λv u=>mg x=some u/\nE v u/\∀H,nR K H d v
def IA{K:mZ}{mg:QQZ}{x y:Str}{t:Tok}(h:mg x=some (.str y t)):KD K mg x (.str y):=⟨.str y,_,h,⟨t,rfl⟩,λ_=>.str⟩
def qP{K:mZ}{mg:QQZ}{x:Str}{y:Int}{t:Tok}(h:mg x=some (.int y t)):KD K mg x (.int y):=⟨.int y,_,h,⟨t,rfl⟩,λ_=>.int⟩
def pG{K:mZ}{a:Addr}{ss:QQQ}{us:T0 Vl}{n:Nat}{sl:Array (Option Vl)}(h:K.lookup a=some ⟨.type "tuple",none,.seq us.toArray n,sl⟩)(r:nj (ss.map V.str) us)(hz:us.length<=1000):p9 K (λ_=>none) a (ss.map V.str):=
 .inr ⟨_,us.toArray,n,h,rfl,rfl,rfl,by rw[bz,b7];lia,by simpa using r⟩
theorem uz{K:mZ}{H:Hp}:∀{ss:QQQ},mS K H (ss.map D.str) (ss.map V.str)
 | []=>.nil
 | _::_=>.cons .str uz
def FL{K:mZ}{mg:QQZ}{x:Str}{a:Addr}{ss:QQQ}(h:mg x=some (.ref a))(q:p9 K (λ_=>none) a (ss.map V.str)):KD K mg x (.tup (ss.map D.str)):=
 ⟨.ref a,_,h,rfl,λ_=>.tup (BZ q) uz⟩
variable {d:D}{i:Expr}{td tk:T3}{F:T0 (Str × QQQ)}
def oo(hg:Gl X x)(h:KD X.K X.mg x d)(hd:ve x:=by decide):E3 X (.Name x pos) (c3 d):=by obtain⟨v,u,hm,r,hh⟩:=h;exact PE.mono (yH hg hm r hd) λY H Q' zz=>x7 zz λU M Q hs hm ht k=>k _ H _ M (hh H) hm .refl ht
def Le(F:T0 (Str×QQQ))(ta:T3):T3:=λU M Q=>ta U M λx M1=>match x with|.str k=>Q (.bl (KTD.datumAt k F).isSome) M1|_=>False
def KG(F:T0 (Str×QQQ))(ta:T3):T3:=λU M Q=>ta U M λx M1=>match x with|.str k=>(KTD.datumAt k F).elim False λss=>Q (.tup (ss.map D.str)) M1|_=>False
def DH(T:Fu X.K X.mg x F)(hg:Gl X x)(he:E3 X e ta)(hd:ve x:=by decide)(hmk:behindInMarks .In (.Name x p)=false:=by rfl):E3 X (.Compare e [.In] [.Name x p] pos) (Le F ta):=by
 obtain⟨a,hm,T⟩:=zR T;refine PE.mono (yw (r:=λy z H Q=>∃k,y=.str k/\z=.ref a/\Q (.bl (KTD.datumAt k F).isSome) H) (λMV s Y H y z v u Q I ry rz ⟨k,e1,e2,q⟩=>?_) he (yH (v:=.ref a) hg hm rfl hd) hmk) λY H Q' zz=>x7 zz λU M Q hs hm ht k=>⟨U,M,_,hs,hm,ht,λv H1 d M1 hd MX e1 q1=>?_⟩
 .subst e1 e2;obtain⟨t,rfl⟩:=ry;obtain rfl:u=Value.ref a:=rz;exact Ip (T s.heap I.lG) ⟨.bl (KTD.datumAt k F).isSome,H,I.tok _,rfl,q⟩
 .cases d with
  | str k'=>exact⟨k',hd.str_inv,rfl,k _ _ _ _ .bl MX e1 q1⟩
  | _=>exact q1.elim
def Cw(T:Fu X.K X.mg x F)(hg:Gl X x)(he:E3 X e ta)(hd:ve x:=by decide)(hs:tY e:=by exact λ_ _=>rfl):E3 X (.Subscript (.Name x p) e pos) (KG F ta):=by
 obtain⟨a,hm,T⟩:=zR T;refine PE.mono (Cb (r:=λz y H Q=>∃k ss,y=.str k/\z=.ref a/\KTD.datumAt k F=some ss/\∀t,p9 X.K H t (ss.map V.str)->Q (.ref t) H) (λvalue Nc MV s Y H z y o i Q I rz ry ⟨k,ss,e1,e2,e3,q⟩ hs=>?_) (yH (v:=.ref a) hg hm rfl hd) he hs) λY H Q' zz=>x7 zz λU M Q hs hm ht k=>⟨U,M,_,hs,hm,ht,λv H1 d M1 hd MX e1 q1=>?_⟩
 .subst e1 e2;obtain⟨t,rfl⟩:=ry;obtain rfl:o=Value.ref a:=rz;have hT:=sW (s:=s) (T s.heap I.lG);have h2:wpAny (model X.prog X.w) X.A (getItem (.ref a) (.str k t)) (EP X MV Y Q) X.xe s:=DV (T s.heap I.lG) e3 λv ⟨t',e4,q4⟩=>⟨.ref t',H,I.tok _,e4,q t' (BZ q4)⟩;unfold subscriptTail;refine bh ?_;rw[i9 hT.not_modules];refine bh (gK hT iw.lookup ?_);have fin:wpAny (model X.prog X.w) X.A (subscripted Nc false (.ref a) (.str k t)) (λr s₃=>wpAny (model X.prog X.w) X.A (letTemporaryGo value (.ref a) r>>=λ_=>pure r) (EP X MV Y Q) X.xe s₃) X.xe s:=by rw[hs];exact wpAny_operating (cz h2 (λr s₃ h₃=>bh (jh (bj h₃))) λ_ _ x=>x)
  first
   | exact bj (bh fin)
   | exact bh (bj (bh fin))
   | exact bh fin
 .cases d with
  | str k'=>obtain⟨ss,e4,q2⟩:=ny q1;exact⟨k',ss,hd.str_inv,rfl,e4,λt qt=>k _ _ _ _ (.tup qt uz) MX e1 q2⟩
  | _=>exact q1.elim
noncomputable def xK(M:Mp)(a:Addr):Option (T0 (nS×D)):=match M a with
 | some (.dk kvs)=>some kvs
 | _=>none
noncomputable def qU(kvs:T0 (nS×D))(k:nS):Option D:=(kvs.find? λp=>decide (p.1=k)).map (·.2)
def zu{K:mZ}{H:Hp}{M:Mp}{a:Addr}{kvs:T0 (nS×D)}(hm:HM K H M)(h:xK M a=some kvs):∃vs,H a=some (.dK vs)/\vs.map (·.1)=kvs.map (·.1)/\mS K H (kvs.map (·.2)) (vs.map (·.2)):=by
 unfold xK at h;cases e:M a with
 | none=>rw[e]at h;cases h
 | some c=>
  rw[e]at h;have ok:=hm a c e;cases c with
  | dk es=>cases h;exact ok
  | ins _ _=>cases h
  | lst _=>cases h
  | exc _=>cases h
  | fd _ _=>cases h
theorem yi{K:mZ}{H:Hp}{k:nS}:∀{kvs:T0 (nS×D)} {vs:T0 (nS×V)},vs.map (·.1)=kvs.map (·.1)->mS K H (kvs.map (·.2)) (vs.map (·.2))->(∀d,qU kvs k=some d->∃v,rL vs k=some v/\nR K H d v)/\(qU kvs k=none->rL vs k=none)
 | [],[],_,_=>⟨λd z=>(by cases z),λ_=>rfl⟩
 | [],_::_,e,_=>by cases e
 | _::_,[],e,_=>by cases e
 | (j,d)::kvs,(j',v)::vs,e,h=>by
  have e1:j'=j:=by simpa using(dz e).1
  subst e1;obtain⟨x,r,e2,h1,h2⟩:=h.inv;obtain⟨e3,e4⟩:=dz e2;subst e3 e4;have ih:=yi (k:=k) (kvs:=kvs) (vs:=vs) (dz e).2 h2;by_cases hk:j'=k
  .have g:qU ((j',d)::kvs) k=some d:=by simp[qU,hk]
   have g':rL ((j',v)::vs) k=some v:=by simp[rL,hk]
   rw[g,g'];exact⟨λd' z=>by cases z;exact⟨v,rfl,h1⟩,λz=>by cases z⟩
  .have g:qU ((j',d)::kvs) k=qU kvs k:=by simp[qU,hk]
   have g':rL ((j',v)::vs) k=rL vs k:=by simp[rL,hk]
   rw[g,g'];exact ih
def EQ(x y:D)(M:Mp)(Q:DK):Prop:=match x,y with
 | .ref a,.str k=>(xK M a).elim False λkvs=>(qU kvs (.inr k)).elim False λd=>Q d M
 | _,_=>False
def JX(td tk:T3):T3:=λU M Q=>td U M λx M1=>tk U M1 λy M2=>EQ x y M2 Q
def F6(hu:X.A.units+9<cLine)(ho:E3 X o td)(hi:E3 X i tk)(hs:tY i:=by exact λ_ _=>rfl):E3 X (.Subscript o i pos) (JX td tk):=by
 refine PE.mono (Cb (r:=R3 X.K EQ) (λvalue Nc MV s Y H vx vy v u Q' I rx ry h hs=>?_) ho hi hs) wN;obtain⟨x,y,M,Q,hx,hy,hm,q,k⟩:=h;unfold EQ at q;split at q
 .rename_i a0 k0;obtain⟨kvs,e1,q⟩:=ny q;obtain⟨d,e2,q⟩:=ny q;cases hx.k8;cases hy.str_inv;obtain⟨vs,h1,h2,h3⟩:=zu hm e1;obtain⟨w,e3,hw⟩:=(yi h2 h3).1 d e2;refine B0 (by lia) value Nc MV s Y H _ _ v u Q' I rx ry ⟨_,w,rfl,?_,k _ _ _ _ hw hm .refl q⟩ hs;have g:=AU.k (k:=Sum.inr k0) h1;rw[e3]at g;exact g
 .exact q.elim
noncomputable def qe:T0 D->Option (T0 (nS×D))
 | []=>some []
 | .tup [.str k,d]::r=>(qe r).map ((.inr k,d)::·)
 | _::_=>none
theorem xN{K:mZ}{H:Hp}:∀{es:T0 D} {kvs:T0 (nS×D)} {xs:T0 V},qe es=some kvs->mS K H es xs->∃(ts:QXQ) (vs:T0 (nS×V)),xs=ts.map V.ref/\ts.length=vs.length/\vs.map (·.1)=kvs.map (·.1)/\mS K H (kvs.map (·.2)) (vs.map (·.2))/\
  ∀(j:Nat) (t:Addr) (p:nS×V),ts[j]?=some t->vs[j]?=some p->p9 K H t [kV p.1,p.2]
 | [],_,_,e,h=>by cases e;exact⟨[],[],h.nil_inv,rfl,rfl,.nil,λj t p z=>by simp at z⟩
 | d::es,kvs,xs,e,h=>by
  obtain⟨x,r,rfl,h1,h2⟩:=h.inv;unfold qe at e;split at e
  .rename_i z;cases z
  .rename_i k d' r' z;cases z;cases q:qe es with
   | none=>rw[q]at e;cases e
   | some kvs'=>
    rw[q]at e;cases e;obtain⟨ts,vs,e1,e2,e3,e4,e5⟩:=xN q h2;obtain⟨a,ys,rfl,g1,g2⟩:=h1.lm;obtain⟨y,r1,rfl,g3,g4⟩:=g2.inv;obtain⟨w,r2,rfl,g5,g6⟩:=g4.inv;cases g6.nil_inv;cases g3.str_inv;refine⟨a::ts,(.inr k,w)::vs,by rw[e1];rfl,by simpa using e2,by rw[cb,cb,e3],.cons g5 e4,λj t p z1 z2=>?_⟩;cases j with
    | zero=>
     have z1':a=t:=by simpa using z1
     have z2':(Sum.inr k,w)=p:=by simpa using z2
     subst z1' z2';exact g1
    | succ j=>exact e5 j t p (by simpa using z1) (by simpa using z2)
  .cases e
def Hh(ds:T0 D)(M:Mp)(Q:DK):Prop:=match ds with
 | [.ref a]=>(md M a).elim False λes=>(qe es).elim False λkvs=>(kvs.map (·.1)).Nodup/\∀p,M p=none->Q (.ref p) (mN M p (.dk kvs))
 | _=>False
def vB(hc:X.calm=true):C3 X (.type "dict") Hh:=by
 intro MV s Y H vs us Q' I rv h;obtain⟨ds,M,Q,hd,hm,q,k⟩:=h;unfold Hh at q;split at q
 .obtain⟨es,e1,q⟩:=ny q;obtain⟨kvs,e2,Pz,q⟩:=ny q;obtain⟨v,rfl,hv⟩:=nQ hd;cases hv.k8;obtain⟨xs,h1,h2,_⟩:=mL hm e1;obtain⟨ts,ws,rfl,f2,f3,f4,f5⟩:=xN e2 h2;refine A4 hc MV s Y H _ us Q' I rv ⟨_,ts,ws,rfl,h1,f2,f5,by rw[f3];exact Pz,λd hd=>?_⟩;have e:nA X.K H (upd H d (.dK ws)):=.new hd;exact k _ _ _ _ .ref (hm.new (c:=.dk kvs) hd ⟨_,mY,f3,f4.mono e⟩) e (q d (hm.fresh hd))
 .exact q.elim
def AN:bootBuiltins "set"=some (.type "set"):=by decide+kernel
noncomputable def uO:T0 D->Option (QQQ)
 | []=>some []
 | .str x::r=>(uO r).map (x::·)
 | _::_=>none
theorem rP:∀ss:QQQ,uO (ss.map D.str)=some ss
 | []=>rfl
 | x::r=>by show(uO (r.map D.str)).map (x::·)=_;rw[rP r];rfl
theorem vG{K:mZ}{H:Hp}:∀{ds:T0 D} {ss:QQQ} {xs:T0 V},uO ds=some ss->mS K H ds xs->xs=ss.map V.str
 | [],_,_,e,h=>by cases e;exact h.nil_inv
 | d::ds,_,_,e,h=>by
  obtain⟨x,r,rfl,h1,h2⟩:=h.inv;cases d with
  | str z=>
   unfold uO at e;cases q:uO ds with
   | none=>rw[q]at e;cases e
   | some ss=>rw[q]at e;cases e;rw[h1.str_inv,vG q h2];rfl
  | _=>cases e
def JL(ta:T3):T3:=λU M Q=>ta U M λx M1=>(AL M1 x).elim False λes=>(uO es).elim False λss=>ss.length<4000/\Q (.int (nz ss).length) M1
def xy{p2 ND:Pos}(hc:X.calm=true)(he:E3 X e ta)(PU:Gl X "len")(MX:X.mg "len"=none)(Oy:Gl X "set")(Nj:X.mg "set"=none)(b1:bootBuiltins "len"=some (.builtin "len"))(b2:bootBuiltins "set"=some (.type "set")) (hs:starEach [e] X.env=[(false,eval e X.env)]:=by rfl):E3 X (.Call (.Name "len" p) [.Call (.Name "set" p2) [e] [] ND] [] pos) (JL ta):=
 PE.mono (CA hc he PU MX Oy Nj b1 b2 hs) λY H Q' zz=>x7 zz λU M Q hs hm ht k=>⟨U,M,_,hs,hm,ht,λv H1 d M1 hd MX e1 q1=>by
  obtain⟨es,e2,q1⟩:=ny q1;obtain⟨ss,e3,hz,q1⟩:=ny q1;obtain⟨a,xs,rfl,h1,h2⟩:=vC MX hd e2;rw[vG e3 h2]at h1;have z:scanBound=4096:=rfl;exact⟨a,ss,rfl,h1,by lia,k _ _ _ _ .int MX e1 q1⟩⟩
def Ib(x:D)(ds:T0 D)(M:Mp)(Q:DK):Prop:=match x,ds with
 | .ref a,[y]=>(md M a).elim False λes=>es.length<sizeLine/\Q .lw (mN M a (.lst (es++[y])))
 | _,_=>False
def nq{M:Mp}{a:Addr}{es:T0 D}(h:md M a=some es):M a=some (.lst es):=by
 unfold md at h;split at h
 .rename_i e;rw[e];cases h;rfl
 .cases h
def yo{K:mZ}{H:Hp}{M:Mp}{a:Addr}{es:T0 D}(hm:HM K H M)(h:md M a=some es):∃xs,H a=some (.lst xs)/\mS K H es xs:=hm a _ (nq h)
def CV:M3 X "list.append" Ib:=by
 intro MV s Y H vx vs v us Q' I rx rv h;obtain⟨x,ds,M,Q,hx,hd,hm,q,k⟩:=h;unfold Ib at q;split at q
 .obtain⟨es,e1,hz,q⟩:=ny q;obtain⟨w,rfl,hw⟩:=nQ hd;cases hx.k8;obtain⟨xs,h1,h2⟩:=yo hm e1;refine CK MV s Y H _ _ v us Q' I rx rv ⟨_,xs,w,rfl,rfl,h1,by rw[<-h2.length];exact hz,?_⟩;obtain⟨Nj,ex⟩:=hm.put (c:=.lst (es++[_])) (nq e1) λex=>⟨_,mY,(h2.mono ex).snoc (hw.mono ex)⟩;exact k _ _ _ _ .lw Nj ex q
 .exact q.elim
def HU(x:D)(ds:T0 D)(M:Mp)(Q:DK):Prop:=match x,ds with
 | .ref a,[.ref b]=>(md M a).elim False λes=>(md M b).elim False λfs=>es.length+fs.length<=sizeLine/\Q .lw (mN M a (.lst (es++fs)))
 | _,_=>False
def CC:M3 X "list.extend" HU:=by
 intro MV s Y H vx vs v us Q' I rx rv h;obtain⟨x,ds,M,Q,hx,hd,hm,q,k⟩:=h;unfold HU at q;split at q
 .obtain⟨es,e1,q⟩:=ny q;obtain⟨fs,e2,hz,q⟩:=ny q;obtain⟨w,rfl,hw⟩:=nQ hd;cases hx.k8;cases hw.k8;obtain⟨xs,h1,h2⟩:=yo hm e1;obtain⟨ys,g1,g2⟩:=yo hm e2;refine De MV s Y H _ _ v us Q' I rx rv ⟨_,_,xs,ys,rfl,rfl,h1,g1,by rw[<-h2.length,<-g2.length];exact hz,?_⟩;obtain⟨Nj,ex⟩:=hm.put (c:=.lst (es++fs)) (nq e1) λex=>⟨_,mY,(h2.mono ex).append (g2.mono ex)⟩;exact k _ _ _ _ .lw Nj ex q
 .exact q.elim
def pE(ho:E3 X o ta)(ha:A3 X (e::es) t)(Nu:attributeBase o "append" X.env (eval o X.env)=eval o X.env:=by rfl)
  (NP:((backTo pos (starEach (e::es) X.env)).all (λx=>!x.1)&&(backToKw pos (keywordEach [] X.env)).all (λx=>x.1.isSome)&&decide ((e::es).length+([]:T0 Keyword).length+(if ([]:T0 Keyword).isEmpty then 0 else 1)<30))=true:=by rfl)
  (Nv:(MZ.endLine==pos.line)=true:=by rfl) (hs:xw X e es:=by rfl) (Nl:y6 X pos es:=by rfl):
  E3 X (.Call (.Attribute o "append" MZ) (e::es) [] pos) (K1 Ib ta t):=Fc PySem.F.slot_list_append PySem.F.type_list_append CV ho ha Nu NP Nv hs Nl
def tR(ho:E3 X o ta)(ha:A3 X (e::es) t)(Nu:attributeBase o "extend" X.env (eval o X.env)=eval o X.env:=by rfl)
  (NP:((backTo pos (starEach (e::es) X.env)).all (λx=>!x.1)&&(backToKw pos (keywordEach [] X.env)).all (λx=>x.1.isSome)&&decide ((e::es).length+([]:T0 Keyword).length+(if ([]:T0 Keyword).isEmpty then 0 else 1)<30))=true:=by rfl)
  (Nv:(MZ.endLine==pos.line)=true:=by rfl) (hs:xw X e es:=by rfl) (Nl:y6 X pos es:=by rfl):
  E3 X (.Call (.Attribute o "extend" MZ) (e::es) [] pos) (K1 HU ta t):=Fc PySem.F.slot_list_extend PySem.F.type_list_extend CC ho ha Nu NP Nv hs Nl
def oj.none{M M2:Mp}{q:Addr}(s:oj M M2)(h:M2 q=none):M q=none:=by
 cases e:M q with
 | none=>rfl
 | some c=>rw[s q c e]at h;cases h
def oj.upd{M M2:Mp}{q:Addr}{c:qp}(s:oj M M2):oj (mN M q c) (mN M2 q c):=λx d h=>by
 by_cases e:x=q
 .subst e;rw[mM]at h ⊢;exact h
 .rw[nv e]at h ⊢;exact s x d h
def rV(p:Addr)(M M':Mp):Prop:=∀b c,b≠p->M b=some c->M' b=some c
def oj.keep{M M':Mp}{p:Addr}(s:oj M M'):rV p M M':=λb c _ h=>s b c h
def rV.trans{M M1 M2:Mp}{p:Addr}(a:rV p M M1)(b:rV p M1 M2):rV p M M2:=λx c n h=>b x c n (a x c n h)
def rV.put{M:Mp}{p:Addr}{c:qp}:rV p M (mN M p c):=λb d n h=>by rw[nv n];exact h
def rV.lst{M M':Mp}{p a:Addr}{ds:T0 D}(k:rV p M M')(n:a≠p)(h:md M a=some ds):md M' a=some ds:=by have:=k a _ n (nq h);unfold md;rw[this]
def rV.dk{M M':Mp}{p a:Addr}{ds:T0 (nS×D)}(k:rV p M M')(n:a≠p)(h:xK M a=some ds):xK M' a=some ds:=by
 unfold xK at h ⊢;cases e:M a with
 | none=>rw[e]at h;cases h
 | some c=>rw[k a c n e];rw[e]at h;exact h
def nG{M:Mp}{a p C:Addr}{ds:T0 D}{fs:T0 (Str×D)}(h:md M a=some ds)(hp:M p=some (.ins C fs)):a≠p:=λz=>by subst z;rw[nq h]at hp;cases hp
def KB{M:Mp}{a p C:Addr}{ds:T0 (nS×D)}{fs:T0 (Str×D)}(h:xK M a=some ds)(hp:M p=some (.ins C fs)):a≠p:=λz=>by subst z;unfold xK at h;rw[hp]at h;cases h
def p7{M:Mp}{p:Addr}{ds:T0 D}(h:M p=some (.lst ds)):md M p=some ds:=by unfold md;rw[h]
def r9{M:Mp}{p:Addr}{ds:T0 (nS×D)}(h:M p=some (.dk ds)):xK M p=some ds:=by unfold xK;rw[h]
def su{N:Mp}{p q C:Addr}{fs fs':T0 (Str×D)}{c:qp}(hp:N p=some (.ins C fs))(hq:N q=none):
  q≠p/\mN N q c p=some (.ins C fs)/\rV p N (mN (mN N q c) p (.ins C fs'))/\mN (mN N q c) p (.ins C fs') q=some c/\mN (mN N q c) p (.ins C fs') p=some (.ins C fs'):=by
 have n:p≠q:=JF hp hq;refine⟨bQ n,by rw[nv n];exact hp,(oj.new hq).keep.trans .put,by rw[nv (bQ n),mM],mM⟩
theorem vp{g:y9}{te:T3}{ok:Mp->Prop}{Q:DK}(all:T0 D)(J:T0 D->T0 D->qD->Mp->Prop)(lA:∀p acc U M,J p acc U M->ok M):∀(ds pre acc:T0 D) (U:qD) (M:Mp),pre++ds=all->acc.length+ds.length<=sizeLine->J pre acc U M->
  (∀pre d post,pre++d::post=all->∀acc U M,J pre acc U M->∀k:qD->DK,(∀δ2 y M4,J (pre++[d]) (acc++[y]) δ2 M4->k δ2 y M4)->g d U M λδ2 M2=>te δ2 M2 (k δ2))->
  (∀acc U M,J all acc U M->∀p,M p=none->Q (.ref p) (mN M p (.lst acc)))->rC g xD te ok Q ds acc U M
 | [],pre,acc,U,M,e,hl,j,_,hq=>⟨by simpa using hl,hq acc U M (by rw[<-e,b5];exact j)⟩
 | d::r,pre,acc,U,M,e,hl,j,ht,hq=>by rw[bR]at hl;refine⟨by lia,?_⟩;refine ht pre d r e acc U M j (λδ2 y M4=>ok M4/\rC g xD te ok Q r (acc++[y]) δ2 M4) λδ2 y M4 j'=>⟨lA _ _ _ _ j',vp all J lA r (pre++[d]) (acc++[y]) δ2 M4 (by rw[<-e,cc];rfl) ?_ j' ht hq⟩;rw[bF,dj];lia
section
variable {a:Expr}
def LP(ta:T3):T3:=λU M Q=>ta U M λx M1=>match x with|.int i=>Q (.int (-i)) M1|_=>False
def EE(ha:E3 X a ta):E3 X (.UnaryOp .USub a pos) (LP ta):=PE.mono (Kg H9 ha) λY H Q' zz=>x7 zz λU M Q hs hm ht k=>
 ⟨U,M,_,hs,hm,ht,λv H1 d M1 hd MX e1 q1=>by
  cases d with
  | int i=>cases hd.int_inv;exact⟨i,rfl,k _ H1 _ M1 .int MX e1 q1⟩
  | _=>exact q1.elim⟩
end
end L3
namespace L2
open PySem.W
variable {prog:Pg}{w:Wo}{A:Ar}{E:QQX}{s:Sd}
def xA:bootBuiltins "sorted"=some (.builtin "sorted"):=by decide+kernel
end L2
namespace L3
open L2
variable {X:Cx}{pos:Pos}{a b o i:Expr}{ta tb ti to:T3}
end L3
namespace L2
variable {prog:Pg}{w:Wo}{A:Ar}{E:QQX}{s:Sd}{X:Cx}
end L2
namespace L3
open L2
variable {X:Cx}{pos MZ p:Pos}{a b o e i value:Expr}{es:T0 Expr}{ta tb ti to tv td tk:T3}{t:rN}
def yp{M:Mp}{a:Addr}{kvs:T0 (nS×D)}(h:xK M a=some kvs):M a=some (.dk kvs):=by
 unfold xK at h;split at h
 .rename_i e;rw[e];cases h;rfl
 .cases h
variable {MV:T0 (Addr × Obj)}{Y:St}{H:Hp}{s:Sd}
def yZ{a b:Addr}{xs:T0 V}(I:Inv X MV Y H s)(f:ut X MV H b)(q:qM X.K H a xs):a≠b:=by
 rintro rfl
 rcases q with q|⟨o,its,n,hk,_⟩
 .have z:=f.1;rcases q with q|⟨u,q⟩<;>(rw[q]at z;cases z)
 .have e:=I.mod.ml a o hk;rcases f.2.2.2.1 with z|z
  .exact I.ok.lY a o e z
  .exact absurd (bO (bB e) (bS I.ok.ma z)) (cL _)
noncomputable def HW(K:mZ)(a b:Addr):It:=
 ⟨λi H=>∃xs ys x y,qM K H a xs/\qM K H b ys/\xs[i]?=some x/\ys[i]?=some y,λi H v H'=>∃p x y,v=.ref p/\H p=none/\H'=upd H p (.tup [x,y])/\(∀xs,qM K H a xs->xs[i]?=some x)/\(∀ys,qM K H b ys->ys[i]?=some y),λi H=>∃xs ys,qM K H a xs/\qM K H b ys/\i=min xs.length ys.length⟩
def CS{P:Pg}{w:Wo}{K:mZ}{Nr:T0 Expr}{n:Nat}{tp:Pos}(a b z TI TO i1 i2:Addr)(a1:TI≠z)(a2:TO≠z)(a3:i1≠z)(a4:i2≠z)(a5:TI≠TO)(a6:TI≠i1)(a7:TI≠i2)(a8:TO≠i1)(a9:TO≠i2)(mG:i1≠i2):
  wG P w K (.Tuple Nr n tp) (HW K a b) [z,TI,TO,i1,i2] z (λi h=>IsZip h z TI TO .none/\IsPair h TI (.ref i1) (.ref i2)/\(∃u v,IsPair h TO u v)/\h.IsListIter i1 a i/\h.IsListIter i2 b i) where
 mem:=by simp
 obj:=λi h st c hc=>by
  obtain⟨h1,h2,⟨u,v,h3⟩,⟨o4,h4,_,d4⟩,⟨o5,h5,_,d5⟩⟩:=st;simp only[bq,bE,bV]at hc;rcases hc with rfl|rfl|rfl|rfl|rfl
  .exact⟨_,h1,λv z=>by cases z⟩
  .exact⟨_,h2,λv z=>by cases z⟩
  .exact⟨_,h3,λv z=>by cases z⟩
  .exact⟨_,h4,λv z=>by rw[d4]at z;cases z⟩
  .exact⟨_,h5,λv z=>by rw[d5]at z;cases z⟩
 keep:=λi h h' st k=>by obtain⟨h1,h2,⟨u,v,h3⟩,⟨o4,h4,c4⟩,⟨o5,h5,c5⟩⟩:=st;exact⟨k z (by simp) _ h1,k TI (by simp) _ h2,⟨u,v,k TO (by simp) _ h3⟩,⟨o4,k i1 (by simp) _ h4,c4⟩,⟨o5,k i2 (by simp) _ h5,c5⟩⟩
 item:=by
  intro X hP hw hK hc i MV s Y H E I hf st hg;subst hP hw hK;obtain⟨xs,ys,x,y,hx,hy,ex,ey⟩:=hg;obtain⟨its,rx,px,_⟩:=I.list hx;obtain⟨NV,ry,py,_⟩:=I.list hy;obtain⟨u,eu,ru⟩:=rx.get ex;obtain⟨v,ev,rv⟩:=ry.get ey;obtain⟨h1,h2,⟨p,q,h3⟩,h4,h5⟩:=st;have hh:X.A.in1.handled=none:=I.ok.hd hc;have fa:∀c∈[z,TI,TO,i1,i2],a≠c:=λc hc=>yZ I (hf c hc) hx;have fb:∀c∈[z,TI,TO,i1,i2],b≠c:=λc hc=>yZ I (hf c hc) hy;have Ni:rX z TI TO i1 i2 [i1,a] [i2,b]:=⟨a1,a2,a3,a4,a5,a6,a7,a8,a9,mG,by
   simp only[bq,bE,bV,cA];exact⟨bQ a3,bQ (fa z (by simp))⟩,by
   simp only[bq,bE,bV,cA];exact⟨a8,bQ (fa TO (by simp))⟩,by
   simp only[bq,bE,bV,cA];exact⟨bQ mG,bQ (fa i2 (by simp))⟩,by
   simp only[bq,bE,bV,cA];exact⟨bQ a4,bQ (fb z (by simp))⟩,by
   simp only[bq,bE,bV,cA];exact⟨a9,bQ (fb TO (by simp))⟩,by
   simp only[bq,bE,bV,cA];exact⟨mG,bQ (fb i1 (by simp))⟩⟩
  have l1:i<its.toArray.size:=by
   have:=(bI.mp eu).1
   simpa using this
  have l2:i<NV.toArray.size:=by
   have:=(bI.mp ev).1
   simpa using this
  refine uJ (ji hh i1 a (fa i1 (by simp)) its.toArray) (ji hh i2 b (fb i2 (by simp)) NV.toArray) Ni h1 h2 h3 ⟨h4,px.isList⟩ ⟨h5,py.isList⟩ l1 l2 λx' y' g tk e1 e2 z1 o1 s1 s2 t1 sz kp=>?_;have e1':x'=u:=by
   have:its[i]?=some x':=by simpa using e1
   rw[eu]at this;exact(bH this).symm
  have OG:y'=v:=by
   have:NV[i]?=some y':=by simpa using e2
   rw[ev]at this;exact(bH this).symm
  subst e1' OG;refine⟨_,rfl,iy z1 λg2 z2 sb=>?_⟩;have zlt:z<s.heap.objs.size:=bB h1;have kk:∀c o,c∉[z,TI,TO,i1,i2]->s.heap.get? c=some o->g2.get? c=some o:=λc o hc e=>by simp only[bq,bE,bV,cA]at hc;exact(sb.2 c hc.1).trans (kp c o hc.1 hc.2.2.1 hc.2.2.2.1 hc.2.2.2.2 e)
  have t2:g2.get? s.heap.objs.size=some {cls:=.type "tuple",data:=.seq #[x',y']}:=(sb.2 _ (cN zlt)).trans t1;have OQ:H s.heap.objs.size=none:=I.lA.fresh (bw _);have I2:=I.drawn (ch:=[z,TI,TO,i1,i2]) (T:=s.heap.objs.size) (xs:=[x,y]) (its:=[x',y']) (h':=g2) (tk:=tk) hf kk (bw _) (by show 2<=sizeLine;decide) (.cons ru (.cons rv .nil)) ⟨_,t2,rfl,⟨_,rfl⟩,rfl⟩;refine⟨.ref s.heap.objs.size,_,I2,rfl,⟨_,x,y,rfl,OQ,rfl,λxs' hx'=>by rw[I.lH hx' hx];exact ex,λys' hy'=>by rw[I.lH hy' hy];exact ey⟩,?_,λc hc=>?_⟩
  .obtain⟨o4,g4,c4⟩:=s1.1;obtain⟨o5,g5,c5⟩:=s2.1;exact⟨z2,(sb.2 _ a1).trans (kp _ _ a1 a5 a6 a7 h2),⟨_,_,(sb.2 _ a2).trans o1⟩,⟨o4,(sb.2 _ a3).trans g4,c4⟩,⟨o5,(sb.2 _ a4).trans g5,c5⟩⟩
  .have n0:=(hf c hc).1;obtain⟨o,eo⟩:∃o,s.heap.get? c=some o:=by
    obtain⟨o4,g4,_⟩:=h4;obtain⟨o5,g5,_⟩:=h5;simp only[bq,bE,bV]at hc;rcases hc with rfl|rfl|rfl|rfl|rfl
    .exact⟨_,h1⟩
    .exact⟨_,h2⟩
    .exact⟨_,h3⟩
    .exact⟨_,g4⟩
    .exact⟨_,g5⟩
   rw[m7 (bG (bB eo))];exact n0
 done:=by
  intro X hP hw hK hc i MV s Y H E I hf st hg;subst hP hw hK;obtain⟨xs,ys,hx,hy,hi⟩:=hg;obtain⟨its,rx,px,_⟩:=I.list hx;obtain⟨NV,ry,py,_⟩:=I.list hy;obtain⟨h1,h2,⟨p,q,h3⟩,h4,h5⟩:=st;have hh:X.A.in1.handled=none:=I.ok.hd hc;have fa:∀c∈[z,TI,TO,i1,i2],a≠c:=λc hc=>yZ I (hf c hc) hx;have fb:∀c∈[z,TI,TO,i1,i2],b≠c:=λc hc=>yZ I (hf c hc) hy;have Ni:rX z TI TO i1 i2 [i1,a] [i2,b]:=⟨a1,a2,a3,a4,a5,a6,a7,a8,a9,mG,by
   simp only[bq,bE,bV,cA];exact⟨bQ a3,bQ (fa z (by simp))⟩,by
   simp only[bq,bE,bV,cA];exact⟨a8,bQ (fa TO (by simp))⟩,by
   simp only[bq,bE,bV,cA];exact⟨bQ mG,bQ (fa i2 (by simp))⟩,by
   simp only[bq,bE,bV,cA];exact⟨bQ a4,bQ (fb z (by simp))⟩,by
   simp only[bq,bE,bV,cA];exact⟨a9,bQ (fb TO (by simp))⟩,by
   simp only[bq,bE,bV,cA];exact⟨mG,bQ (fb i1 (by simp))⟩⟩
  have e1:=rx.length;have e2:=ry.length;refine rD (ji hh i1 a (fa i1 (by simp)) its.toArray) (ji hh i2 b (fb i2 (by simp)) NV.toArray) Ni h1 h2 h3 ⟨h4,px.isList⟩ ⟨h5,py.isList⟩ (by simp only[bz];lia) λg tk kp=>⟨rfl,?_⟩;have kk:∀c o,c∉[z,TI,TO,i1,i2]->s.heap.get? c=some o->g.get? c=some o:=λc o hc e=>by simp only[bq,bE,bV,cA]at hc;exact kp c o hc.1 hc.2.2.1 hc.2.2.2.1 hc.2.2.2.2 e
  refine I.step (g':=s.gens) (d':=s.drawn) (t':=tk) (ch:=[z,TI,TO,i1,i2]) (λc hc=>⟨(hf c hc).2.2.2.1,(hf c hc).2.1,(hf c hc).2.2.2.2.1,(hf c hc).2.2.2.2.2⟩) ?_ ?_ (λc o _ e n=>n) ?_ (λ_ _ e=>e) (λ_ _ _ e=>e) (λc ps e=>⟨#[],by rw[e];simp⟩) ?_ ?_ I.bare
  .exact λc o _ _ hc e _=>kk c o hc e
  .exact λc o _ _ hc e _=>⟨o.slots,kk c o hc e⟩
  .exact λc o hc e=>⟨o,kk c o hc e⟩
  .intro m hm;obtain⟨o,es,ep,ho,r⟩:=hm;exact⟨o,es,ep,kk _ o (λy=>(hf _ y).2.1 rfl) ho,r⟩
  .intro c u e;refine(I.lA c u e).lN (λd v hd q=>kk d v (λy=>?_) q) (λ_ q=>q) λ_ _ q=>q;have n:=(hf d y).1;rcases hd with x|x
   .rw[x,e]at n;cases n
   .rw[x]at n;cases n
 self:=λ_ _ _ _ _ st h=>gz st.1 h
variable {tp:Pos}{Nr:T0 Expr}{n:Nat}
def GO{a b:Expr}{ta:TA}(hg:Gl X "zip")(hm:X.mg "zip"=none)(ha:PA X [a,b] ta)(hs:starEach [a,b] X.env=[(false,eval a X.env),(false,eval b X.env)]:=by rfl)(N7:starEach [b] X.env=[(false,eval b X.env)]:=by rfl):
  PI X (.Tuple Nr n tp) (.Call (.Name "zip" p) [a,b] [] pos) (λY H R=>ta Y H λvs H1=>∃l m,vs=[.ref l,.ref m]/\(∃xs,qM X.K H1 l xs)/\(∃xs,qM X.K H1 m xs)/\R (HW X.K l m) H1):=by
 intro MV s Y H R I h;refine Call_ (qu I hg hm D5 (cP (o6 (ha pos MV s Y H _ I h) λus s1 zz=>x5 zz λvs H1 I1 r1 q1=>?_) (by rw[hs,N7]) (by rw[N7];rfl)));obtain⟨l,m,e,⟨xs,hx⟩,⟨ys,hy⟩,q⟩:=q1;subst e;obtain⟨u,v,rfl,ru,rv⟩:=BF r1;cases ru;cases rv;obtain⟨its,_,px,_⟩:=I1.list hx;obtain⟨NV,_,py,_⟩:=I1.list hy;refine call_zip_2 px.isList py.isList λg h1 h2 h3 h4 h5 _ hk=>gz h1 ?_;have I2:Inv X MV Y H1 {s1 with heap:=g}:=I1.kept (t':=s1.toks) hk;refine⟨s1.heap.objs.size+4,[s1.heap.objs.size+4,s1.heap.objs.size+2,s1.heap.objs.size+3,s1.heap.objs.size,s1.heap.objs.size+1],_,_,H1,rfl,I2,CS l m _ _ _ _ _ ?_ ?_ ?_ ?_ ?_ ?_ ?_ ?_ ?_ ?_,⟨h1,h2,⟨_,_,h3⟩,h4,h5⟩,λb hb=>?_,q⟩
 .exact λz=>by have z:s1.heap.objs.size+2=s1.heap.objs.size+4:=z;lia
 .exact λz=>by have z:s1.heap.objs.size+3=s1.heap.objs.size+4:=z;lia
 .exact λz=>by have z:s1.heap.objs.size=s1.heap.objs.size+4:=z;lia
 .exact λz=>by have z:s1.heap.objs.size+1=s1.heap.objs.size+4:=z;lia
 .exact λz=>by have z:s1.heap.objs.size+2=s1.heap.objs.size+3:=z;lia
 .exact λz=>by have z:s1.heap.objs.size+2=s1.heap.objs.size:=z;lia
 .exact λz=>by have z:s1.heap.objs.size+2=s1.heap.objs.size+1:=z;lia
 .exact λz=>by have z:s1.heap.objs.size+3=s1.heap.objs.size:=z;lia
 .exact λz=>by have z:s1.heap.objs.size+3=s1.heap.objs.size+1:=z;lia
 .exact λz=>by have z:s1.heap.objs.size=s1.heap.objs.size+1:=z;lia
 .have NI:s1.heap.objs.size<=b:=by
   simp only[bq,bE,bV]at hb;rcases hb with rfl|rfl|rfl|rfl|rfl
   .exact dO _ _
   .exact dO _ _
   .exact dO _ _
   .exact bw _
   .exact dO _ _
  exact I1.lQ NI (I1.lA.fresh NI)
def E4{K:mZ}{H1:Hp}{a b:Addr}{ds es:T0 D}:wK K H1 (HW K a b) (rK ds es) (λM=>md M a=some ds/\md M b=some es) where
 go:=λi H M hi hm ok _=>by rw[sg]at hi;obtain⟨xs,h1,h2,_⟩:=mL hm ok.1;obtain⟨ys,g1,g2,_⟩:=mL hm ok.2;obtain⟨x,e1,_⟩:=h2.get (bC (show i<ds.length by lia));obtain⟨y,e2,_⟩:=g2.get (bC (show i<es.length by lia));exact⟨xs,ys,x,y,h1,g1,e1,e2⟩
 mB:=λi d H M x H' hd hm ok _ y=>by
  obtain⟨xs,h1,h2,_⟩:=mL hm ok.1;obtain⟨ys,g1,g2,_⟩:=mL hm ok.2;obtain⟨p,u,v,rfl,hp,rfl,y1,y2⟩:=y;rw[L3.vh]at hd;cases e:ds[i]? with
  | none=>rw[e]at hd;cases hd
  | some d'=>
   cases e':es[i]? with
   | none=>rw[e,e']at hd;cases hd
   | some c'=>rw[e,e']at hd;cases hd;obtain⟨x',q1,hx⟩:=h2.get e;obtain⟨z',q2,hz⟩:=g2.get e';have w1:=y1 xs h1;have w2:=y2 ys g1;rw[q1]at w1;rw[q2]at w2;have v1:x'=u:=bH w1;have v2:z'=v:=bH w2;subst v1 v2;have ex:nA K H (upd H p (.tup [x',z'])):=.new hp;exact⟨.tup (.of mY) (.cons (hx.mono ex) (.cons (hz.mono ex) .nil)),hm.add hp,ex⟩
 stop:=λH M hm ok _=>by obtain⟨xs,h1,h2,_⟩:=mL hm ok.1;obtain⟨ys,g1,g2,_⟩:=mL hm ok.2;exact⟨xs,ys,h1,g1,by rw[sg,h2.length,g2.length]⟩
def HV(t:rN):Dj:=λU M R=>t U M λds M1=>match ds with
 | [.ref a,.ref b]=>(md M1 a).elim False λxs=>(md M1 b).elim False λys=>R (rK xs ys) (λM=>md M a=some xs/\md M b=some ys) M1
 | _=>False
def GP{a b:Expr}{ta:rN}(hg:Gl X "zip")(hm:X.mg "zip"=none)(ha:A3 X [a,b] ta)(hs:starEach [a,b] X.env=[(false,eval a X.env),(false,eval b X.env)]:=by rfl)(N7:starEach [b] X.env=[(false,eval b X.env)]:=by rfl):
  I3 X (.Tuple Nr n tp) (.Call (.Name "zip" p) [a,b] [] pos) (HV ta):=
 PI.mono (GO hg hm ha hs N7) λY H R' zz=>x7 zz λU M R hs hm ht k=>⟨U,M,_,hs,hm,ht,λvs H1 ds M1 hd MX e1 q1=>by
  split at q1
  .obtain⟨xs,f1,q1⟩:=ny q1;obtain⟨ys,f2,q1⟩:=ny q1;obtain⟨v,u,rfl,hv,hw⟩:=vm hd;cases hv.k8;cases hw.k8;obtain⟨us,h1,_⟩:=mL MX f1;obtain⟨ws,g1,_⟩:=mL MX f2;exact⟨_,_,rfl,⟨us,h1⟩,⟨ws,g1⟩,k _ H1 _ _ M1 E4 MX e1 ⟨f1,f2⟩ q1⟩
  .exact q1.elim⟩
end L3
namespace L2
open Builtin Builtin.Str
variable {prog:Pg}{w:Wo}{A:Ar}{E:QQX}{s:Sd}{X:Cx}
end L2
namespace L3
open L2 Builtin Builtin.Str
variable {X:Cx}{pos MZ:Pos}{o e:Expr}{es:T0 Expr}{ta:T3}{t:rN}
@[irreducible] def SsI (X:Cx) (st:T0 Stmt) (t:ui):Prop:=Ee X st t
@[irreducible] def SI (X:Cx) (st:Stmt) (t:ui):Prop:=S3 X st t
@[irreducible] def EI (X:Cx) (e:Expr) (t:T3):Prop:=E3 X e t
@[irreducible] def AI (X:Cx) (es:T0 Expr) (t:rN):Prop:=A3 X es t
variable {prog:Pg}{w:Wo}{A:Ar}{E:QQX}{s:Sd}{MV:T0 (Addr × Obj)}{Y:St}{H:Hp}{p tp:Pos}{Nr:T0 Expr}{n:Nat}
end L3
namespace L2
end L2
namespace L3
open L2
end L3
namespace L2
end L2
namespace L3
open L2
variable {X:Cx}{pos p tp kpos:Pos}{Nr:T0 Expr}{n:Nat}
end L3
namespace L2
variable {prog:Pg}{w:Wo}{A:Ar}{E:QQX}{s:Sd}{a:Addr}{U:Type}{k:Str}{tk:Tok}
section
variable {R:U→Vl→Prop}{D:T0 (Str × U)}
end
end L2
namespace L3
open L2
variable {X:Cx}{pos p:Pos}{x:Str}{d:D}{e o i:Expr}{ta tb td tk:T3}{F:T0 (Str × QQQ)}
end L3
namespace L2
variable {M:Model}{A:Ar}{s:Sd}{base:Heap}{env:Env}{outer:T0 Env}{L e:Addr}{cls:Vl}{dx:Option Addr}{Q:Unit→Sd→Prop}
section
variable {E:QQX}
end
variable {P:Pg}{w:Wo}{K:mZ}{mg:QQZ}{N:QQQ}{qual:Str}{scope:Scope}{f:Addr}{cd:Vl}{s0:Sd}{H0:Hp}
section
variable {E:XK}
end
section
variable {E:XK}
end
end L2
namespace L3
open L2
variable {X:Cx}{x:Str}{p pos np Ng:Pos}{e:Expr}{es:T0 Expr}{t:rN}{k:Nat}{f C:Addr}{fd:FuncData}{ps:QQQ}{sp:Sp3x}{R:XR}{E:XK}{P:Pg}{w:Wo}{K:mZ}{mg:QQZ}{base:Heap}{N:QQQ}{qual:Str}{scope:Scope}{cd:Vl}{A:Ar}{outer:T0 Env}{s0:Sd}{H0:Hp}{ta:rN}
end L3
namespace L2
variable {X:Cx}{MV:T0 (Addr × Obj)}{Y σ':St}{H H1:Hp}{s s1:Sd}{ev:Vl}{E':QQX}{a:Addr}{k:Nat}{f C:Addr}{fd:FuncData}{ps:QQQ}{sp:Sp}{N8:T0 V}{ds:T0 Vl}{m:Str}{p pos MZ:Pos}{e o:Expr}{es:T0 Expr}{t:TA}
section
variable {x:Str}
end
variable {prog:Pg}{w:Wo}{A:Ar}{E:QQX}{K:mZ}{ox:Obj}
section
variable {x:Addr}
end
end L2
namespace L3
open L2
variable {X:Cx}{x:Str}{p pos np Ng:Pos}{e:Expr}{es:T0 Expr}{t:rN}{k:Nat}{f C:Addr}{fd:FuncData}{ps:QQQ}{sp:Sp3x}{b₀:Stmt}{suite:T0 Stmt}{cn n:Str}{cnp P0 MZ xpos:Pos}{Cc L:Addr}{outer:T0 Env}{i ix:Nat}{te:T3X}{th:ui}
end L3
namespace L2
end L2
namespace L3
open L2
end L3
namespace L2
variable {prog:Pg}{w:Wo}{A:Ar}{s:Sd}{K:mZ}{x C:Addr}{ox:Obj}{own:QXQ}{name:Str}{v:Vl}
section
variable {E:QQX}{cd:ClassData}
end
variable {nm q:Str}{bs bm bmB:T0 Vl}{hdct:Bool}{sn:QQQ}{sub:T0 Vl}{ab:Bool}{col:Option Bool}{dd:Option Addr}{k0 k1 k2 k3 k5:Option Vl}{B Bn newId nid initId inN:String}{bmN:T0 Vl}{h:Heap}{g:Array GenState}{d:Drawn}{t:Nat}{os:OsState}
section
variable {E:QQX}{N:Addr}
end
variable {M:Model}{env:Env}
section
variable {E:QQX}{N:Addr}
end
variable {X:Cx}{MV:T0 (Addr × Obj)}{Y σ':St}{H H1:Hp}{s1:Sd}{a:Addr}
section
variable {f:Str}
end
variable {qual:Str}{scope:Scope}{outer:T0 Env}{s0:Sd}{H0:Hp}{P:Pg}{mg:QQZ}{base:Heap}
section
variable {N:QQQ}{f:Addr}{cd:Vl}{E:XK}
end
end L2
namespace L3
open L2
variable {P:Pg}{w:Wo}{K:mZ}{mg:QQZ}{base:Heap}{N:QQQ}{qual:Str}{scope:Scope}{f:Addr}{cd:Vl}{A:Ar}{outer:T0 Env}{s0:Sd}{H0:Hp}{E:XK}{x:Str}{np Ng pos:Pos}{e:Expr}{C fI:Addr}{fdI:FuncData}{ps:QQQ}{fl:Str}{k:Nat}{R:XR}{ta:rN}{X:Cx}{b₀:Stmt}{suite:T0 Stmt}{cn:Str}{cnp P0 epos:Pos}{Cc L:Addr}{te:T3X}{th:ui}
end L3
namespace L2
end L2
namespace L3
open L2
variable {X:Cx}{pos MZ:Pos}{o e:Expr}{es:T0 Expr}{ta:T3}{t:rN}
structure FA where
 f:Addr
 d:FuncData
 p:QQQ
structure DG(K:mZ)(st:Stmt)(py qual:Str)(ps:QQQ)(x:FA):Prop where
 pe:x.p=ps
 fn:Ja K py qual st x.f x.d
 b:qY K x.d x.p []
 ty:W.isFn K (.ref x.f)=true
structure TG(K:mZ)(mg:QQZ)(st:Stmt)(py:Str)(ps:QQQ)(x:FA):Prop extends DG K st py py ps x where
 mg:mg py=some (.ref x.f)
structure MG(K:mZ)(C:Addr)(st:Stmt)(py qual:Str)(ps:QQQ)(x:FA):Prop extends DG K st py qual ps x where
 at_:W.findIn K (.ref C) py=some (some (.ref x.f))
structure CG(K:mZ)(mg:QQZ)(nm:Str)(C:Addr):Prop extends Cls K C where
 mg:mg nm=some (.ref C)
def DG.kp{K:mZ}{st:Stmt}{py qual:Str}{ps:QQQ}{x:FA}(h:DG K st py qual ps x):W.keepIn K (.ref x.f)=true:=h.fn.kp
def MG.l8{K:mZ}{C:Addr}{st:Stmt}{py qual:Str}{ps:QQQ}{x:FA}(h:MG K C st py qual ps x):tF K C py x.f:=⟨h.at_,h.ty,h.toDG.kp⟩
def uW(K:mZ)(C:Addr)(fs:QQQ):Prop:=∀f,fs.contains f=true->pP K C f
def pD{K:mZ}{C:Addr}:uW K C []:=λf h=>by simp at h
def mP{K:mZ}{C:Addr}{g:Str}{fs:QQQ}(h:W.findIn K (.ref C) g=some none)(r:uW K C fs):uW K C (g::fs):=λf q=>by
 rw[List.contains_cons,kC]at q;rcases q with q|q
 .rw[eq_of_beq q];exact h
 .exact r f q
abbrev Fq(P:Pg)(w:Wo)(K:mZ)(mg:QQZ)(base:Heap)(k:Nat)(x:FA)(sp:pJ):Prop:=GD P w K mg base k x.f x.d x.p sp
noncomputable def IV(N P:QQQ)(sc:Scope):Bool:=sc.kind==.function&&(!sc.isCoroutine&&(!sc.isGenerator&&(decide N.Nodup&&(decide (N.take P.length=P)&&((P.all λx=>sc.names.lookup x==some .local||sc.names.lookup x==some .cell)&&sc.names.all λy=>!(y.2==.free))))))
def MS{N P:QQQ}{sc:Scope}(h:IV N P sc=true):pQ N P sc:=by
 unfold IV at h;simp only[cO,Bool.not_eq_true',fK,fv]at h;obtain⟨h1,h2,h3,h4,h5,h6,h7⟩:=h;refine⟨h1,h2,h3,h4,h5,λx hx=>?_,λy hy e=>?_⟩
 .have:=cD.mp h6 x hx
  simpa using this
 .have:=cD.mp h7 y hy;rw[e]at this;simp at this
variable {P:Pg}{w:Wo}{K:mZ}{mg:QQZ}{base:Heap}
def LL{x qual:Str}{st:Stmt}{fa:FA}{N ps:QQQ}{k:Nat}{sp:pJ}(F:DG K st x qual ps fa)(S:pQ N ps (m8 st))(len:∀ds M Q,sp ds M Q->ds.length=ps.length) (Nz:∀(Nk:Vl) (A:Ar) (outer:T0 Env) (s:Sd) (H:Hp) (E:XK),oE k (A.deeper (envOfC qual (m8 st) s.heap.objs.size fa.f Nk))->
   ∃t,Ee (yr FC P w K mg base N qual (m8 st) fa.f Nk A outer s H E).mj (oz st) t/\∀ds M Q,sp ds M Q->t {nx:=λ_ M'=>∃Nn,oj Nn M'/\Q .lw Nn,rt:=λd M'=>∃Nn,oj Nn M'/\Q d Nn} (um N ds) M):Fq P w K mg base (k+1) fa sp:=by
 unfold Fq;rw[F.pe];exact J8 F.fn S len Nz
variable {k n:Nat}{f C:Addr}{fa:FA}{st:Stmt}{qual:Str}{ps:QQQ}{sp:pJ}{x m:Str}{p:Pos}
def mO(F:Fq X.prog X.w X.K X.mg X.base k fa sp)(hr:oE n X.A)(T:TG X.K X.mg st x ps fa)(ha:A3 X (e::es) t)(hn:k<=n:=by first|decide|lia)(hg:Gl X x:=by rfl)
  (Nx:ve x:=by decide) (he:xw X e es:=by rfl) (Np:y6 X pos es:=by rfl):
  E3 X (.Call (.Name x p) (e::es) [] pos) (xC sp t):=FK F (hr.mono hn) hg T.mg T.toDG.kp T.b ha Nx he Np
def rj(F:Fq X.prog X.w X.K X.mg X.base k fa sp)(hr:oE n X.A)(c:CG X.K X.mg x C)(i:Mk X.K C fa.f)(T:DG X.K st m qual ps fa)(ha:A3 X (e::es) t)(hn:k+1<=n:=by first|decide|lia)(hg:Gl X x:=by rfl)
  (Nx:ve x:=by decide) (he:xw X e es:=by rfl) (Np:y6 X pos es:=by rfl):
  E3 X (.Call (.Name x p) (e::es) [] pos) (Hy C sp t):=G0 c.toCls i F (hr.mono hn) hg c.mg T.b ha Nx he Np
def Cf{pl:Sem Bool}(he:E3 X o ta)(c:Cls X.K C)(T:MG X.K C st m qual ps fa)(F:Fq X.prog X.w X.K X.mg X.base k fa sp)(hr:oE n X.A)(hn:k<=n:=by first|decide|lia)
  (ht:eval (.Call (.Attribute o m MZ) [] [] pos) X.env=(do
   let ov<-eval o X.env
   standAt MZ.atName
   let(f,first)<-holding [ov] (getMethod ov m pl)
   callWith pos f first (backTo pos (starEach [] X.env)) (backToKw pos (keywordEach [] X.env))):=by rfl):
  E3 X (.Call (.Attribute o m MZ) [] [] pos) (ES m (λD s=>D=C/\s=sp) ta vH):=
 tW (R:=λD s=>D=C/\s=sp) he (λD s ⟨e1,e2⟩=>by subst e1 e2;exact⟨c,_,_,_,T.l8,F,T.b⟩) (hr.mono hn) ht
def tG{pl:Sem Bool}(cm:DR X.K C m fa.f)(F:Fq X.prog X.w X.K X.mg X.base k fa sp)(hr:oE n X.A)(c:CG X.K X.mg x C)(T:DG X.K st m qual ps fa)(ha:A3 X (e::es) t)(hn:k<=n:=by first|decide|lia)(hg:Gl X x:=by rfl)
  (Nx:ve x:=by decide) (NG:xw X e es:=by rfl) (Np:y6 X pos es:=by rfl)
  (ht:eval (.Call (.Attribute (.Name x p) m MZ) (e::es) [] pos) X.env=(do
   let ov<-eval (.Name x p) X.env
   standAt MZ.atName
   let(f,first)<-holding [ov] (getMethod ov m pl)
   callWith pos f first (backTo pos (starEach (e::es) X.env)) (backToKw pos (keywordEach [] X.env))):=by rfl):
  E3 X (.Call (.Attribute (.Name x p) m MZ) (e::es) [] pos) (xC sp t):=F0 cm F (hr.mono hn) hg c.mg T.kp T.b ha Nx NG Np ht
variable {h:Heap}{py:Str}{od an:Option Addr}{sl:Array (Option Vl)}{kv dc pm cd ct:Vl}
def By{fd:FuncData}{oc:Vl}(l:K.lookup f=some ⟨oc,od,.func fd,sl⟩):W.keepIn K (.ref f)=true:=by unfold W.keepIn;simp only;rw[l]
def GZ{fd:FuncData}(l:K.lookup f=some ⟨.type "function",od,.func fd,sl⟩):W.isFn K (.ref f)=true:=by unfold W.isFn W.typeIn;simp only;rw[l];rfl
abbrev AJ(py qual:Str)(st:Stmt)(ps:QQQ):Prop:=∀(kV NL pm:Vl) (an:Option Addr) (Nk ct:Vl) (us:T0 Vl),us.length=ps.length->bindArgs (W.fnOf py qual (pj st) (oz st) (m8 st) .none kV NL pm an Nk ct) ⟨us,[]⟩=pure (ps.zip us)
def HF(l:K.lookup f=some ⟨.type "function",od,.func (W.fnOf py qual (pj st) (oz st) (m8 st) .none kv dc pm an cd ct),sl⟩)(k:W.codeIn K cd qual=true)(hb:AJ py qual st ps):
  DG K st py qual ps ⟨f,W.fnOf py qual (pj st) (oz st) (m8 st) .none kv dc pm an cd ct,ps⟩:=⟨rfl,Ey l k (By l),(Ey l k (By l)).binds hb,GZ l⟩
def oO(X:K.In h)(G:h.Ns mainGlobals mg)(a:W.nsIn K mainGlobals py=some (some (.ref f)))(l:K.lookup f=some ⟨.type "function",od,.func (W.fnOf py py (pj st) (oz st) (m8 st) .none kv dc pm an cd ct),sl⟩)(k:W.codeIn K cd py=true)(hb:AJ py py st ps):
  TG K mg st py ps ⟨f,W.fnOf py py (pj st) (oz st) (m8 st) .none kv dc pm an cd ct,ps⟩:=⟨HF l k hb,W.mg_of X G a⟩
def oN(a:W.findIn K (.ref C) py=some (some (.ref f)))(l:K.lookup f=some ⟨.type "function",od,.func (W.fnOf py qual (pj st) (oz st) (m8 st) .none kv dc pm an cd ct),sl⟩)(k:W.codeIn K cd qual=true)(hb:AJ py qual st ps):
  MG K C st py qual ps ⟨f,W.fnOf py qual (pj st) (oz st) (m8 st) .none kv dc pm an cd ct,ps⟩:=⟨HF l k hb,a⟩
def sd(X:K.In h)(G:h.Ns mainGlobals mg)(a:W.nsIn K mainGlobals py=some (some (.ref C)))(h1:W.plainGet K C Str.empty=true)(h2:W.hasDictIn K C=true)(h3:W.plainOver K C=true)(h4:W.findIn K (.ref C) "__setattr__"=some (some (.builtin "object.__setattr__"))):CG K mg py C:=⟨⟨h1,h2,h3,h4⟩,W.mg_of X G a⟩
def FI{x:Str}{a:Addr}{es:T0 DictEntry}{ep:Nat}{T:T0 (Str×QQQ)}(h:mg x=some (.ref a))(s:(a==sysModules)=false)(l:K.lookup a=some ⟨.type "dict",none,.dict es.toArray ep,#[]⟩) (r:KTD.Rows (λ(ss:QQQ) v=>∃t,v=Value.ref t/\p9 K (λ_=>none) t (ss.map V.str)) es T):Fu K mg x T:=⟨a,_,_,_,h,s,l,⟨rfl,rfl,rfl⟩,rfl,by simpa using r⟩
variable {a b:Expr}{tb:T3}
end L3
namespace L2
variable {prog:Pg}{w:Wo}{A:Ar}{E:QQX}{s:Sd}{K:mZ}{x C:Addr}{ox od:Obj}{f:Str}{v:Vl}{X:Cx}{e:Expr}{pos:Pos}{ta:TE}
end L2
namespace L3
open L2
variable {X:Cx}{cn n x:Str}{e:Expr}{cnp P0 pos MZ xpos p1 p2 p3 p4:Pos}{Cc L:Addr}{outer:T0 Env}{i ix:Nat}{te:T3X}{fl:Str}
end L3
namespace L2
variable {prog:Pg}{w:Wo}{A:Ar}{E:QQX}{s:Sd}
end L2
namespace L3
open L2
variable {X:Cx}{pos:Pos}{cn n x:Str}{e:Expr}{cnp P0 MZ p1 p2 p4:Pos}{Cc L:Addr}{outer:T0 Env}{i ix:Nat}{te:T3X}{ta:T3}{fl f:Str}
end L3
namespace L2
section
variable {prog:Pg}{w:Wo}{A:Ar}{E:QQX}{s:Sd}{κ:Type}[DecidableEq κ]{knd:PySem.KeyKind prog w κ}
def Ml(w:Wo)(t:SetTable)(l:T0 (Int×Vl)):Prop:=w.params.followText "set-order"=false->t.led=true/\(t.plain=true->∀e∈l,plainKind e.2=true)
def sS(knd:PySem.KeyKind prog w κ)(h:Heap)(a:Addr)(S:κ->Bool)(n:Nat):Prop:=∃o es ep t,h.get? a=some o/\o.ExactSet/\o.data=.set es ep t/\ElemsOf knd es.toList/\(∀k,S k=true↔∃e∈es.toList,knd.is k e.2=true)/\es.size<scanBound/\t.fits es.size=true/\es.size=n/\Ml w t es.toList
def Hb(t:SetTable)(es:Array (Int×Vl))(h:Int)(x:Vl):(layNew t es h x).2.1.led=t.led/\((layNew t es h x).2.1.plain=true->t.plain=true):=by
 unfold layNew SetTable.put SetTable.orStandIn SetTable.standIn;split
 .dsimp only
  repeat' split
  all_goals exact⟨rfl,by simp⟩
 .simp
def CL(t:SetTable)(es:Array (Int×Vl))(n:Nat):(relayAll t es n).2.1.led=t.led/\((relayAll t es n).2.1.plain=true->t.plain=true):=by
 unfold relayAll SetTable.relaid SetTable.laid SetTable.standIn;split
 .rename_i e;dsimp only;split
  .simp only[Option.bind_eq_bind,Option.bind_eq_some_iff,Option.pure_def,io,Prod.mk.injEq]at e;obtain⟨_,_,rfl,_⟩:=e;exact⟨rfl,id⟩
  .simp
 .simp
def Fk{a:Addr}{o:Obj}{es NK:Array (Int×Vl)}{ep:Nat}{t t':SetTable}{Q:Unit->Sd->Prop}(ho:s.heap.get? a=some o)(hd:o.data=.set es ep t)(hb:NK.size<scanBound) (h:∀h',Heap.SameBut a s.heap h'->h'.get? a=some {o with data:=.set NK (ep+1) t'}->Q () {s with heap:=h'}):wpAny (model prog w) A (storeSet a NK t') Q E s:=
 wpAny_storeSet_of ho hd (h _ (dE ..) (by
  have:=dq (Obj.putSet NK t') ho (by rw[putSet_of NK t' hd];rfl)
  rwa [putSet_of NK t' hd]at this)) (ip hb)
def Ld{a:Addr}{S:κ->Bool}{n:Nat}{k:κ}{x:Vl}{Q:Bool->Sd->Prop}(Oc:knd.is k x=true)(hsc:x.scannable=true)(hS:sS knd s.heap a S n)(hroom:n+1<scanBound) (h:∀h',Heap.SameBut a s.heap h'->sS knd h' a (λk'=>S k'||decide (k'=k)) (if S k then n else n+1)->Q (!S k) {s with heap:=h'}):wpAny (model prog w) A (setAddHashed a x (knd.hash k)) Q E s:=by
 obtain⟨o,es,ep,t,ho,hex,hd,P3,Oi,hb,hf,hn,hl⟩:=hS;unfold setAddHashed setAddHashedIn;refine cE (bh (eI ho hd hf ?_));dsimp only;rw[byScan_of hsc hb P3,bA rfl];unfold setAddByScan;refine bh (bh (dI (bh (wpAny_setScan_of Oc ho hd hf P3 ?_))));cases hr:List.findIdx? (λe=>knd.is k e.2) es.toList with
 | some j=>
  obtain⟨hj,hpj,_⟩:=List.findIdx?_eq_some_iff_getElem.mp hr;have hSk:S k=true:=(Oi k).mpr ⟨es.toList[j],fM hj,hpj⟩;have:=h s.heap (gk a s.heap) ⟨o,es,ep,t,ho,hex,hd,P3,λk'=>by
   rw[kC,fv,<-Oi k'];exact⟨λz=>z.elim id λe=>e ▸ hSk,.inl⟩,hb,hf,by rw[hSk];exact hn,hl⟩
  rw[hSk]at this;exact bj (bj this)
 | none=>
  have hSk:S k=false:=eJ.mpr λz=>by obtain⟨e,he,hp⟩:=(Oi k).mp z;have:=List.findIdx?_eq_none_iff.mp hr e he;rw[hp]at this;exact Bool.noConfusion this
  have fin:∀h' NK Po t',Heap.SameBut a s.heap h'->h'.get? a=some {o with data:=.set NK Po t'}->NK.toList.Perm (es.toList++[(knd.hash k,x)])->t'.fits NK.size=true->t'.led=t.led->(t'.plain=true->t.plain=true/\plainKind x=true)->Q true {s with heap:=h'}:=by
   intro h' NK Po t' sb g p f l pl;have sz:NK.size=n+1:=by
    have:=p.length_eq
    simpa [hn]using this
   have:=h h' sb ⟨_,NK,Po,t',g,hex,rfl,(P3.push Oc hsc).perm p,mem_push_iff Oc Oi p,by lia,f,by rw[hSk];simpa using sz,λz=>⟨l.trans (hl z).1,λz2 e he=>?_⟩⟩
   .rw[hSk]at this;exact this
   .rcases bT.mp (p.mem_iff.mp he)with q|q
    .exact(hl z).2 (pl z2).1 e q
    .rw[bK]at q;subst q;exact(pl z2).2
  dsimp only;have NN:=layNew_perm t es (knd.hash k) x;have Ou:=layNew_fits t es (knd.hash k) x;obtain⟨OX,O5⟩:=Hb t es (knd.hash k) x;generalize layNew t es (knd.hash k) x=L at NN Ou OX O5 ⊢;obtain⟨O0,t1,dm,gv⟩:=L;dsimp only at NN Ou OX O5 ⊢;rw[cX]at NN;have gw:∀(b:Bool) {s₁:Sd} {Q':Unit->Sd->Prop},Q' () s₁->wpAny (model prog w) A (match b with|true=>rule "set.scan.the-table-gave-way"|false=>pure ()) Q' E s₁:=
   λb _ _ q=>by cases b<;>first|exact bj q|exact dI q
  refine bh (gw _ ?_);have sz1:O0.size<scanBound:=by have:=NN.length_eq;simp at this;lia
  have tt:∀b:Bool,(b=true->t1.plain=true->plainKind x=true)->∃t2:SetTable,(if b=true then t1 else{t1 with plain:=false})=t2/\t2.fits O0.size=true/\t2.led=t.led/\(t2.plain=true->t.plain=true/\plainKind x=true):=by
   intro b hb2;refine⟨_,rfl,?_⟩;split
   .rename_i z;exact⟨Ou,OX,λp=>⟨O5 p,hb2 z p⟩⟩
   .exact⟨SetTable.fits_plain_off Ou,OX,λp=>Bool.noConfusion p⟩
  rw[hashByValue_scannable 8 hsc];split
  all_goals
   rename_i z;refine bh (bj ?_)
   first|(obtain⟨t2,e2,f2,l2,p2⟩:=tt (plainKind x) λz _=>z;rw[e2])|(obtain⟨t2,e2,f2,l2,p2⟩:=tt true λ_ p=>absurd p z;rw[e2])
   refine bh (Fk ho hd sz1 λh1 Ot g1=>?_);split
   .have rp:=relayAll_perm t2 O0 (SetTable.grown O0.size);have rf:=relayAll_fits t2 O0 (SetTable.grown O0.size);obtain⟨r1,r2⟩:=CL t2 O0 (SetTable.grown O0.size);generalize relayAll t2 O0 (SetTable.grown O0.size)=L at rp rf r1 r2 ⊢;obtain⟨es3,t3,gv3⟩:=L;dsimp only at rp rf r1 r2 ⊢;refine bh (gw _ ?_);refine bh (Fk g1 rfl (by have:=rp.length_eq;simp at this;lia) λh2 NT g2=>?_);exact bj (bj (fin _ _ _ _ (Ot.trans NT) g2 (rp.trans NN) rf (r1.trans l2) λz=>p2 (r2 z)))
   .exact bj (bj (fin _ _ _ _ Ot g1 NN f2 l2 p2))
end
section
variable {prog:Pg}{w:Wo}{A:Ar}{E:QQX}{s:Sd}{κ:Type}[DecidableEq κ]{knd:PySem.KeyKind prog w κ}
def AW{h:Heap}{a:Addr}{S S':κ->Bool}{n n':Nat}(H:sS knd h a S n)(e:∀k,S k=S' k)(e2:n=n'):sS knd h a S' n':=by obtain rfl:S=S':=funext e;subst e2;exact H
def A7{h:Heap}{a:Addr}{led:Bool}(hl:led=!w.params.followText "set-order")(ho:h.get? a=some {cls:=.type "set",dict:=none,data:=.set #[] 0 (.fresh 0 0 led)}):sS knd h a (λx=>decide (x∈nz (([]:List κ)))) 0:=
 ⟨_,#[],0,_,ho,⟨rfl,rfl,rfl⟩,rfl,λe he=>by simp at he,λk=>by simp[nz],by decide,by rfl,rfl,λz=>⟨by rw[z]at hl;exact hl,λ_ e he=>by simp at he⟩⟩
def D4(a:Vl){Q₁:QQX}(h:Q₁ (.ref s.heap.objs.size) {s with heap:=s.heap.push {cls:=.type "set",dict:=none,data:=.set #[] 0 (.fresh 0 0 (!w.params.followText "set-order"))}}):
  codeAny (model prog w) A (.call (.builtin "set.__new__") ⟨[.type "set",a],[]⟩) (wants Q₁ E) s:=by
 refine gJ ?_;show wpAny _ A.in1 (checkBuiltinCall "set.__new__" ⟨[.type "set",a],[]⟩>>=λ_=>again (.builtin "set.__new__" ⟨[.type "set",a],[]⟩)) _ _ s;refine bh (j6 (F.newCall_set_1 a) (bj ⟨dH kD _,cM F.entry_set_new ?_⟩));rw[cK kD _];unfold Builtin.«set.__new__» Builtin.Frozenset.newClass;have Og:=sub_set_self;obtain⟨hp,g,d,tk,os⟩:=s
 wp_walk
 refine eO (bj ?_);simp only[newObj];exact bh (wpAny_alloc (bj (bj h)))
end
section
variable {prog:Pg}{w:Wo}{A:Ar}{E:QQX}{R:Result→Sd→Prop}{κ:Type}[DecidableEq κ][BEq κ][LawfulBEq κ]{knd:PySem.KeyKind prog w κ}
 {I:Addr} {fp wr:QXQ} {G:Array GenState->Array GenState->Prop} {P:Nat->Vl->Prop} {St:Nat->Sd->Prop}
def xx{all:List κ}(W:WalksS prog w A.in1 I fp wr G all.length P St)(S:Addr)(hSf:S∉fp)(PM:∀i v k,P i v->all[i]?=some k->knd.is k v=true/\v.scannable=true)(hb:all.length+1<scanBound):
  ∀(n i:Nat) (s:Sd),all.length - i=n->i<=all.length->St i s->sS knd s.heap S (λx=>decide (x∈nz (all.take i))) (nz (all.take i)).length->
   (∀s',Moved (S::wr) G s s'->sS knd s'.heap S (λx=>decide (x∈nz all)) (nz all).length->R (.ok (.ret .none)) s')->codeAny (model prog w) A (.builtin "set.update.loop" ⟨[.ref S,.ref I],[]⟩) R s:=by
 have hSw:S∉wr:=λh=>hSf (W.sub _ h);have up:∀b∈wr,b∈S::wr:=λb hb=>bL _ hb;have kept:∀{s s':Sd} {T:κ->Bool} {m:Nat},Moved wr G s s'->sS knd s.heap S T m->sS knd s'.heap S T m:=λhm ⟨o,es,ep,t,ho,Nb⟩=>⟨o,es,ep,t,hm.heap S _ hSw ho,Nb⟩;intro n;induction n with
 | zero=>
  intro i s h0 hi NG hS hR;obtain rfl:i=all.length:=by lia
  refine cM dv ?_;rw[cK cG _];rw[dN]at hS;exact bh (W.done s _ _ NG λs' hm=>bj (hR s' (hm.mono up) (kept hm hS)))
 | succ n ih=>
  intro i s h0 hi NG hS hR;have Nd:i<all.length:=by lia
  have NH:all[i]?=some all[i]:=bC Nd;refine cM dv ?_;rw[cK cG _];refine bh (W.item i s _ _ Nd NG λv s' hP OL hm=>?_);obtain⟨k1,k2⟩:=PM i v _ hP NH;have NU:=kept hm hS;show wpAny _ A.in1 (holding [v] (setAdd S v)>>=_) _ _ s';refine bh (cE ?_);unfold setAdd;refine cE (bh (knd.pyHash k1 ?_));have PN:(nz (all.take i)).length+1<scanBound:=by have h1:=vc (all.take i);rw[df]at h1;lia
  refine Ld (knd:=knd) (s:={s' with toks:=s'.toks+1}) k1 k2 NU PN λh' PP PQ=>?_;have et:all.take (i+1)=all.take i++[all[i]]:=by rw[fu,NH];rfl
  have hSi:sS knd h' S (λx=>decide (x∈nz (all.take (i+1)))) (nz (all.take (i+1))).length:=by
   refine AW PQ (λx=>?_) ?_
   .rw[et];by_cases MX:all[i]∈nz (all.take i)
    .rw[qk,bA MX];by_cases hx:x=all[i]
     .subst hx;simp[MX]
     .simp[hx]
    .rw[qk,bv MX];by_cases hx:x=all[i]
     .subst hx;simp
     .simp[hx]
   .rw[et,qk];by_cases MX:all[i]∈nz (all.take i)
    .rw[bA MX];simp[MX]
    .rw[bv MX];simp[MX]
  refine bj ⟨dH cG _,ih (i+1) _ (by lia) Nd (W.frame _ s' _ _ OL (dF _) λb hb o e=>?_) hSi λO2 OM PR=>?_⟩
  .rw[PP.2 b (λz:b=S=>hSf (z ▸ hb))];exact e
  .refine hR O2 (j5 W.gtrans ((hm.mono up).then_heap (dF _) λb o hb e=>?_) OM) PR;rw[PP.2 b (λz:b=S=>hb (by rw[z];exact bM))];exact e
end
section
variable {prog:Pg}{w:Wo}{A:Ar}{E:QQX}{κ:Type}[DecidableEq κ][BEq κ][LawfulBEq κ]{knd:PySem.KeyKind prog w κ}{s:Sd}
set_option maxHeartbeats 4000000 in
def xo{l:Addr}{MW:Array Vl}{all:List κ}{Q:QQX}(hh:A.handled=none)(hl:s.heap.IsList l MW\/s.heap.IsTuple l MW)(hn:MW.size=all.length)(hi:∀(i:Nat) (v:Vl) (k:κ),MW[i]?=some v->all[i]?=some k->knd.is k v=true/\v.scannable=true)(hb:all.length+1<scanBound) (h:∀(h':Heap) (tk:Nat),sS knd h' s.heap.objs.size (λx=>decide (x∈nz all)) (nz all).length->(∀b o,s.heap.get? b=some o->h'.get? b=some o)->Q (.ref s.heap.objs.size) {s with heap:=h',toks:=tk}):
  wpAny (model prog w) A (call (.type "set") [.ref l]) Q E s:=by
 obtain⟨c,tl,hmro⟩:=b8.mro;have Px:=b8.made;have Og:=b8.sub;refine gi (gJ ?_);show wpAny _ _ (callAny (.type "set") _) _ _ _;refine bj ⟨hJ _ (by decide+kernel),cM il ?_⟩;rw[hU (gE "set" [.ref l] []) rfl];have h1:=b8.notType;have h2:=b8.canCreate;have hct:=iH (.ref l)
 repeat (any_goals(first|assumption|wp_step))
 have fresh:∀led:Bool,(s.heap.push {cls:=.type "set",dict:=none,data:=.set #[] 0 (.fresh 0 0 led)}).get? s.heap.objs.size=some {cls:=.type "set",dict:=none,data:=.set #[] 0 (.fresh 0 0 led)}:=λled=>bD _ rfl;refine dR (D4 (.ref l) (E:=E) (Q₁:=λobj s₁=>∃led:Bool,led=(!w.params.followText "set-order")/\obj=Value.ref s.heap.objs.size/\s₁={s with heap:=s.heap.push {cls:=.type "set",dict:=none,data:=.set #[] 0 (.fresh 0 0 led)}}) ⟨_,rfl,rfl,rfl⟩) λr s₁ hr=>?_;cases r with
 | error e=>exact hr
 | ok fl=>
  cases fl with
  | ret obj=>
   obtain⟨led,hld,rfl,rfl⟩:=hr;have hS:=fresh led;have hT:Shared.TypeIs {s with heap:=s.heap.push {cls:=.type "set",dict:=none,data:=.set #[] 0 (.fresh 0 0 led)}} (.ref s.heap.objs.size) "set":=⟨_,hS,rfl⟩;have hli:=b8.init.lookup;have hbi:=b8.init.bind (.ref s.heap.objs.size)
   repeat (any_goals(first|assumption|wp_step))
   refine dR (eK (R:=wants (λr s₂=>r=.none/\∃h' tk,s₂={s with heap:=h',toks:=tk}/\sS knd h' s.heap.objs.size (λx=>decide (x∈nz all)) (nz all).length/\(∀b o,s.heap.get? b=some o->h'.get? b=some o)) E) b8.init.plain iI (iJ hT ?_)) λr₂ s₂ ON=>?_
   .rcases hl with⟨ol,Pa,Pb,nl,Pc⟩|⟨ol,Pa,Pb,nl,Pc⟩
    all_goals
     obtain⟨ocls,Os,Py,NR⟩:=ol;simp only at Pb Pc;subst Pb;subst Pc;have NZ:=bp {cls:=.type "set",dict:=none,data:=.set #[] 0 (.fresh 0 0 led)} Pa;have hsls:=tM;have hslf:=rF;have htls:=sL;have htlf:=qZ;have Pz:(Value.type "list"==Value.type "dict")=false:=by decide
     have hnt:(Value.type "tuple"==Value.type "dict")=false:=by decide
     unfold Builtin.«set.__init__» noKeywords Builtin.Frozenset.updateFrom;generalize hPI:pyIter=PI
     wp_walk
     subst hPI
     first|refine eG ⟨_,NZ,rfl,nl,rfl⟩ ?_|refine fh ⟨_,NZ,rfl,nl,rfl⟩ ?_
     refine bh (gY ?_);have lS:l<s.heap.objs.size:=bB Pa;have hh3:A.in1.in1.in1.handled=none:=by simp[hh]
     have lI:l≠(s.heap.push {cls:=.type "set",dict:=none,data:=.set #[] 0 (.fresh 0 0 led)}).objs.size:=by rw[bY];exact bG (cR lS)
     first
     | refine xx (hn ▸ (iv (prog:=prog) (w:=w) hh3 _ l lI MW).toS) s.heap.objs.size ?hf (λi v k e1 e2=>hi i v k e1 e2) hb all.length 0 _ (by lia) (cF _) ⟨⟨_,bD _ rfl,rfl,rfl⟩,_,bp _ NZ,rfl,nl,rfl⟩ ?h0 ?hR
     | refine xx (hn ▸ (kZ (prog:=prog) (w:=w) hh3 _ l lI MW).toS) s.heap.objs.size ?hf (λi v k e1 e2=>hi i v k e1 e2) hb all.length 0 _ (by lia) (cF _) ⟨⟨_,bD _ rfl,rfl,rfl⟩,_,bp _ NZ,rfl,nl,rfl⟩ ?h0 ?hR
     case hf=>rw[bY];simp only[bq,bE,bV,cA];exact⟨bG (dM _),cN lS⟩
     case h0=>exact A7 (by rw[hld]) (bp _ hS)
     case hR=>intro s' hm NU;obtain⟨h',g',d',tk',PC⟩:=s';have eg:g'=s.gens:=hm.gens;have ed:d'=s.drawn:=hm.drawn;have eo:PC=s.os:=hm.os;subst eg;subst ed;subst eo;refine bj ?_;show wpAny _ _ (ret Value.none) _ _ _;refine bj ⟨rfl,h',tk',rfl,NU,λb o e=>?_⟩;have hb:=bB e;refine hm.heap b o ?_ (bp _ (bp _ e));rw[bY];simp only[bq,bE,bV,cA];exact⟨bG hb,bG (cR hb)⟩
   .cases r₂ with
    | error e=>exact ON
    | ok fl₂=>
     cases fl₂ with
     | ret r=>
      obtain⟨rfl,h',tk,rfl,NU,PK⟩:=ON
      repeat (any_goals(first|assumption|wp_step))
      exact h _ _ NU PK
     | _=>exact ON.elim
  | _=>exact hr.elim
end
open Sem (wp)
namespace SI
def slot_next:Slot "set_iterator" "__next__" "set_iterator.__next__":=
 .of (owner:="set_iterator") (n:="__next__") (by rw[fU,eC];kernel_rfl) (by decide+kernel) (by decide+kernel) (by decide+kernel)
  (by first|exact .inl (by decide+kernel)|exact .inr (by decide+kernel)) (by rw[d6];kernel_rfl)
def slot_iter:Slot "set_iterator" "__iter__" "set_iterator.__iter__":=
 .of (owner:="set_iterator") (n:="__iter__") (by rw[fU,eC];kernel_rfl) (by decide+kernel) (by decide+kernel) (by decide+kernel)
  (by first|exact .inl (by decide+kernel)|exact .inr (by decide+kernel)) (by rw[d6];kernel_rfl)
def zM:Manifest.owners.lookup (String.ofList ['r','o','t','a','r','e','t','i','_','t','e','s'].reverse)=some Manifest.sig_set_iterator:=by kernel_rfl
def args_next(a:Vl):argsOk "set_iterator.__next__" ⟨[a],[]⟩:=by unfold argsOk;rw[signature?_of (id:="set_iterator.__next__") (n:=['_','_','t','x','e','n','_','_']) (o:=['r','o','t','a','r','e','t','i','_','t','e','s']) (by kernel_rfl) zM];kernel_rfl
def args_iter(a:Vl):argsOk "set_iterator.__iter__" ⟨[a],[]⟩:=by unfold argsOk;rw[signature?_of (id:="set_iterator.__iter__") (n:=['_','_','r','e','t','i','_','_']) (o:=['r','o','t','a','r','e','t','i','_','t','e','s']) (by kernel_rfl) zM];kernel_rfl
def entry_next:entryFor table "set_iterator.__next__"=some Builtin.«set_iterator.__next__»:=iG (by kernel_rfl)
def entry_set_iter:entryFor table "set.__iter__"=some Builtin.«frozenset.__iter__»:=entryFor_alias (id':="frozenset.__iter__") (by kernel_rfl) rfl (by decide+kernel) (by kernel_rfl)
def len_set:typeLookup (.type "set") "__len__"=pure (some (.builtin "set.__len__")):=by rw[fU,eC];kernel_rfl
end SI
theorem tz{α:Type}:∀(l:List α) (i:Nat) (h:i<l.length),(l[i]::l.eraseIdx i).Perm l
 | x::l,0,_=>.refl _
 | x::l,i+1,h=>(List.Perm.swap _ _ _).trans ((tz l i (fk h)).cons x)
theorem Ce{α:Type}(f:Nat->Nat):∀(n k:Nat) (l:List α) (out:Array α),l.length=n->(pickOrder.go f n k l out).toList.Perm (out.toList++l)
 | 0,_,l,out,h=>by obtain rfl:=dW.mp h;simp[pickOrder.go]
 | n+1,k,l,out,h=>by
  unfold pickOrder.go;have hp:0<l.length:=by lia
  have lt:=Nat.mod_lt (f k) hp;rw[bC lt];refine(Ce f n (k+1) _ _ (by rw[ii lt];lia)).trans ?_;rw[cX,cc];exact jb _ (tz _ _ lt)
def C2{α:Type}(f:Nat->Nat)(xs:Array α):(pickOrder f xs).toList.Perm xs.toList:=by
 have:=Ce f xs.size 0 xs.toList #[] (by simp)
 simpa [pickOrder]using this
variable {it S:Addr}{es:Array (Int × Vl)}{ep:Nat}{t:SetTable}{vs:T0 Vl}{oS:Obj}
section
variable {prog:Pg}{w:Wo}{A:Ar}{E:QQX}{s:Sd}
def En{src:Source}{n:Nat}{Q:Nat->Sd->Prop}(hn:0<n)(h:∀i d,i<n->Q i {s with drawn:=d}):wpAny (model prog w) A (choose src n) Q E s:=λΓ p _=>by show wp _ _ (.choose src n .pure) _ _ p s;rw[Sem.wp_choose];exact⟨cN hn,h _ _ (Nat.mod_lt _ hn)⟩
theorem B'{α:Type}:∀(n:Nat) (xs:List α) (s:Sd) (Q:List α->Sd->Prop),xs.length=n->(∀ys d,ys.Perm xs->Q ys {s with drawn:=d})->wpAny (model prog w) A (drawOrder n xs) Q E s
 | 0,[],s,Q,_,h=>bj (h [] s.drawn .nil)
 | n+1,x::xs,s,Q,hl,h=>by unfold drawOrder;refine bh (En (fZ _) λi d hi=>?_);rw[bC hi];refine bh (B' n _ _ _ (by rw[ii hi];lia) λys d p=>bj (h _ _ ((p.cons _).trans (tz _ _ hi))))
def pU{α:Type}{c:Prop}[Decidable c]{a b:Sem α}{Q:α->Sd->Prop}{M:Model}(h:¬c)(k:wpAny M A b Q E s):wpAny M A (if c then a else b) Q E s:=by rwa [bv h]
def wx{α:Type}{c:Prop}[Decidable c]{a b:Sem α}{Q:α->Sd->Prop}{M:Model}(h:c)(k:wpAny M A a Q E s):wpAny M A (if c then a else b) Q E s:=by rwa [bA h]
inductive BX(w:Wo)(S:Addr)(es:Array (Int×Vl))(ep:Nat)(t:SetTable)(vs:List Vl)(h:Heap):Nat->Vl->Prop
 | text (i sl:Nat):w.params.followText "set-order"=true->vs=(pickOrder (w.params.setOrder S ep) es).toList.map (·.2)->BX w S es ep t vs h i (.int sl 0)
 | one (i:Nat):w.params.followText "set-order"=false->t.led=true->es.size<=1->vs=es.toList.map (·.2)->BX w S es ep t vs h i (.int ((if i=0 then 0 else t.place.getD 0 0+1:Nat):Int) 0)
 | drawn (i:Nat) (tp:Addr) (ot:Obj) (c:Nat) (ord:List Nat):w.params.followText "set-order"=false->h.get? tp=some ot->ot.data=.seq (ord.map λ(j:Nat)=>rawInt j).toArray c->(∀j∈ord,j<es.size)->vs=ord.map (λj=>(es[j]?.getD (0,.none)).2)->BX w S es ep t vs h i (.ref tp)
def Bq{sl g:Nat}{Q:Option (Vl×Nat)->Sd->Prop}(b:w.params.followText "set-order"=true)(hS:s.heap.get? S=some oS)(qB:oS.data=.set es ep t)(hf:t.fits es.size=true) (h:Q (((pickOrder (w.params.setOrder S ep) es)[g]?).map λe=>(e.2,sl)) s):wpAny (model prog w) A (setNext S sl g ep) Q E s:=by
 unfold setNext;refine bh (eI hS qB hf (bh (bh (eO (bj ?_)))));refine wx b (pU (by simp) (bh ?_));unfold setWalk;refine bh (eI hS qB hf (bh (bh (eO (bj ?_)))));exact wx b (bh (eO (bj (bj h))))
def DZ{sl g:Nat}{Q:Option (Vl×Nat)->Sd->Prop}(b:w.params.followText "set-order"=false)(l:t.led=true)(sz:es.size<=1)(hS:s.heap.get? S=some oS)(qB:oS.data=.set es ep t)(hf:t.fits es.size=true) (h:Q (match es[SetTable.below t.place sl]?,t.place[SetTable.below t.place sl]? with|some (_,x),some j=>some (x,j+1)|_,_=>none) s):wpAny (model prog w) A (setNext S sl g ep) Q E s:=by
 unfold setNext;refine bh (eI hS qB hf (bh (bh (eO (bj ?_)))));refine pU (by show ¬w.params.followText "set-order"=true;simp[b]) (pU (show ¬(!t.plain&&decide (es.size>1))=true by simp;lia) (bh (pU (show ¬(!t.led&&!es.isEmpty)=true by simp[l]) (bj (bj h)))))
def Dw{j:Nat}{x:Vl}{Q:QQX}(hx:(es[j]?.map (·.2))=some x)(hS:s.heap.get? S=some oS)(qB:oS.data=.set es ep t)(hf:t.fits es.size=true)(h:Q x s):wpAny (model prog w) A (setNextDrawn S j ep) Q E s:=by obtain⟨⟨_,y⟩,e,rfl⟩:=fj.mp hx;unfold setNextDrawn;refine bh (eI hS qB hf (pU (by simp) ?_));rw[e];exact bj h
def Dd{i:Nat}{o:Obj}{first v:Vl}{Q:Fin->Sd->Prop}(ho:s.heap.get? it=some o)(hd:o.data=.fields #[first,.int i 0,.ref S,.int es.size 0,.int ep 0])(hS:s.heap.get? S=some oS)(qB:oS.data=.set es ep t)(hf:t.fits es.size=true) (F:BX w S es ep t vs s.heap i first) (hv:vs[i]?=some v) (hn:vs.length=es.size) (h:∀h' NE,Heap.SameBut it s.heap h'->(∃o',h'.get? it=some o'/\o'.cls=o.cls/\o'.data=.fields #[NE,.int (i+1:Nat) 0,.ref S,.int es.size 0,.int ep 0])->BX w S es ep t vs s.heap (i+1) NE->(∀a,NE=.ref a->first=.ref a)->Q (.done (.ret v)) {s with heap:=h'}):
  wpAny (model prog w) A (Builtin.«set_iterator.__next__» ⟨[.ref it],[]⟩) Q E s:=by
 show wpAny _ _ (fieldsOf (.ref it)>>=_) _ _ s;refine bh (wpAny_fieldsOf ho hd ?_);show wpAny _ _ (setEntries S>>=_) _ _ s;refine bh (gW hS qB hf ?_);refine pU (by simp) ?_;have set1:∀(h1:Heap) (o1:Obj) (f1:Vl),Heap.SameBut it s.heap h1->h1.get? it=some o1->o1.cls=o.cls->o1.data=.fields #[f1,.int i 0,.ref S,.int es.size 0,.int ep 0]->BX w S es ep t vs s.heap (i+1) f1->(∀a,f1=.ref a->first=.ref a)->
   wpAny (model prog w) A (setField (.ref it) 1 (rawInt ((i:Int)+1))>>=λ_=>ret v) Q E {s with heap:=h1}:=by
  intro h1 o1 f1 sb e1 c1 d1 F1 F2;refine bh (fE e1 d1 (by simp) (bj (h _ f1 (sb.trans (dE ..)) ⟨_,dq _ e1 (fF (dw d1 _)),(im ..).trans c1,?_⟩ F1 F2)));rw[dw d1];simp[rawInt]
 have set0:∀(sl:Int),BX w S es ep t vs s.heap (i+1) (.int sl 0)->
   wpAny (model prog w) A (setField (.ref it) 0 (rawInt sl)>>=λ_=>setField (.ref it) 1 (rawInt ((i:Int)+1))>>=λ_=>ret v) Q E s:=by
  intro sl F1;refine bh (fE ho hd (by simp) (set1 _ _ (.int sl 0) (dE ..) (dq _ ho (fF (dw hd _))) (im ..) ?_ F1 λ_ z=>nomatch z));rw[dw hd];simp[rawInt]
 cases F with
 | text sl b e=>refine bh (Bq b hS qB hf ?_);subst e;rw[bJ]at hv;obtain⟨p,e1,rfl⟩:=fj.mp hv;simp only[dS];rw[<-ci,e1];exact set0 sl (.text _ sl b rfl)
 | one b l sz e=>
  refine bh (DZ b l sz hS qB hf ?_);have i0:i=0:=by have:=(bI.mp hv).1;lia
  subst i0;have fs:t.place.size=es.size:=by simp only[SetTable.fits,cO,fK]at hf;exact hf.1
  subst e;have e1:es.size=1:=by have:=(bI.mp hv).1;lia
  obtain⟨x,rfl⟩:∃x,es=#[x]:=fG.mp e1;obtain⟨j,ej⟩:∃j,t.place=#[j]:=fG.mp (fs.trans e1);have bl:SetTable.below t.place (Int.toNat ((if (0:Nat)=0 then 0 else t.place.getD 0 0+1:Nat):Int))=0:=by rw[ej];simp[SetTable.below,SetTable.below.go]
  rw[bl,ej];simp at hv;subst hv;refine set0 ((j+1:Nat):Int) ?_;have:=BX.one (w:=w) (S:=S) (es:=#[x]) (ep:=ep) (t:=t) (h:=s.heap) 1 b l (by simp) rfl;rw[ej]at this
  simpa using this
 | drawn tp ot c ord b eo eot Nd e=>
  show wpAny _ _ (seqItems? (.ref tp)>>=_) _ _ s;refine bh (dA eo eot ?_);subst e;rw[bJ]at hv;obtain⟨j,e1,rfl⟩:=fj.mp hv;have e2:(ord.map λ(j:Nat)=>rawInt j).toArray[(i:Int).toNat]?=some (.int j 0):=by simp[e1,rawInt]
  dsimp only;rw[e2];have lt:=Nd j (cJ e1);refine bh (Dw (x:=(es[j]?.getD (0,.none)).2) ?_ hS qB hf (set1 _ _ _ (gk ..) ho rfl hd (.drawn _ tp ot c ord b eo eot Nd rfl) λ_ z=>z));rw[dS,eM lt];rfl
def Fl{o:Obj}{first:Vl}{Q:Fin->Sd->Prop}(hh:A.handled=none)(ho:s.heap.get? it=some o)(hd:o.data=.fields #[first,.int es.size 0,.ref S,.int es.size 0,.int ep 0])(hS:s.heap.get? S=some oS)(qB:oS.data=.set es ep t)(hf:t.fits es.size=true) (F:BX w S es ep t vs s.heap es.size first) (hn:vs.length=es.size) (h:∀h' e,Heap.ExtBut it s.heap h'->(∃o,h'.get? e=some o/\o.cls=.type "StopIteration")->E (.ref e) {s with heap:=h'}):
  wpAny (model prog w) A (Builtin.«set_iterator.__next__» ⟨[.ref it],[]⟩) Q E s:=by
 show wpAny _ _ (fieldsOf (.ref it)>>=_) _ _ s;refine bh (wpAny_fieldsOf ho hd ?_);show wpAny _ _ (setEntries S>>=_) _ _ s;refine bh (gW hS qB hf ?_);refine pU (by simp) ?_;have stop:∀(h1:Heap) (o1:Obj) (fs:Array Vl),Heap.SameBut it s.heap h1->h1.get? it=some o1->o1.data=.fields fs->2<fs.size->
   wpAny (model prog w) A (setField (.ref it) 2 .none>>=λ_=>newExc (.type "StopIteration") []>>=raiseNew (α:=Fin)) Q E {s with heap:=h1}:=by
  intro h1 o1 fs sb e1 d1 l1;refine bh (fE e1 d1 l1 ?_);refine bh ?_;simp only[newExc,newTuple];refine bh (cQ ?_ (by size_fits));refine bh (m:=firstArgMember _ _) (j6 (a:=Value.none) (by first|rfl|(simp only[firstArgMember];rfl)) ?_);refine cQ ?_ (by size_fits);simp only[raiseNew];refine bh (wpAny_handled ?_);rw[hh];refine bh (bj (wpAny_throw ?_));exact h _ _ (((sb.trans (dE ..)).extBut.push _).push _) ⟨_,bD _ rfl,rfl⟩
 cases F with
 | text sl b e=>refine bh (Bq b hS qB hf ?_);subst e;simp only[dS];rw[<-ci,dn (by simp at hn ⊢;lia)];exact stop _ _ _ (gk ..) ho hd (by simp)
 | one b l sz e=>
  refine bh (DZ b l sz hS qB hf ?_);have fs:t.place.size=es.size:=by simp only[SetTable.fits,cO,fK]at hf;exact hf.1
  have e0:es[SetTable.below t.place (Int.toNat ((if es.size=0 then 0 else t.place.getD 0 0+1:Nat):Int))]?=none:=by
   rcases gc 0 es.size with z|z
   .obtain⟨x,rfl⟩:∃x,es=#[x]:=fG.mp (by lia);obtain⟨j,ej⟩:∃j,t.place=#[j]:=fG.mp fs;rw[ej];simp[SetTable.below,SetTable.below.go]
   .rw[i6];lia
  rw[e0];exact stop _ _ _ (gk ..) ho hd (by simp)
 | drawn tp ot c ord b eo eot Nd e=>
  show wpAny _ _ (seqItems? (.ref tp)>>=_) _ _ s;refine bh (dA eo eot ?_);have e2:(ord.map λ(j:Nat)=>rawInt j).toArray[(es.size:Int).toNat]?=none:=by subst e;rw[i6];simp at hn ⊢;lia
  dsimp only;rw[e2];refine bh (fE ho hd (by simp) (stop _ _ _ (dE ..) (dq _ ho (fF (dw hd _))) (dw hd _) (by simp)))
end
namespace SI
def entry_iter:entryFor table "set_iterator.__iter__"=some Builtin.«dict_keyiterator.__iter__»:=entryFor_alias (id':="dict_keyiterator.__iter__") (by kernel_rfl) rfl (by decide+kernel) (by kernel_rfl)
end SI
variable {tp:Addr}
section
variable {prog:Pg}{w:Wo}{A:Ar}{E:QQX}{s:Sd}
def My(w:Wo)(it S tp:Addr)(es:Array (Int×Vl))(ep:Nat)(t:SetTable)(vs:T0 Vl)(oS:Obj)(i:Nat)(s:Sd):Prop:=
 s.heap.get? S=some oS/\∃o first,s.heap.get? it=some o/\o.cls=.type "set_iterator"/\o.data=.fields #[first,.int i 0,.ref S,.int es.size 0,.int ep 0]/\BX w S es ep t vs s.heap i first/\∀a,first=.ref a->a=tp
def BX.keep{h h':Heap}{i:Nat}{first:Vl}(F:BX w S es ep t vs h i first)(k:∀a o,first=.ref a->h.get? a=some o->h'.get? a=some o):BX w S es ep t vs h' i first:=by
 cases F with
 | text sl b e=>exact .text _ sl b e
 | one b l sz e=>exact .one _ b l sz e
 | drawn tp ot c ord b eo eot Nd e=>exact .drawn _ tp ot c ord b (k _ _ rfl eo) eot Nd e
def Cp(hh:A.handled=none)(hn:vs.length=es.size)(NS:it≠S)(hi2:it≠tp)(qB:oS.data=.set es ep t)(hf:t.fits es.size=true):WalksS prog w A it [it,S,tp] [it] Eq es.size (λi v=>vs[i]?=some v) (My w it S tp es ep t vs oS) where
 sub:=λb hb=>by simp at hb;simp[hb]
 grefl:=λ_=>rfl
 gtrans:=λ_ _ _=>Eq.trans
 frame:=λi s h' tk ⟨a,o,first,e1,e2,e3,F,e4⟩ _ k=>⟨k S (by simp) _ a,o,first,k it (by simp) _ e1,e2,e3,F.keep λb o' eb e=>k b (by simp[e4 b eb]) _ e,e4⟩
 item:=λi s Q E hi ⟨a,o,first,e1,e2,e3,F,e4⟩ h=>by
  have T:s.TypeIs (.ref it) "set_iterator":=⟨o,e1,e2⟩;obtain⟨v,hv⟩:∃v,vs[i]?=some v:=⟨_,bC (by lia)⟩;unfold pyNext;refine bh (gu (cH (name:=Str.ofString "__next__") T SI.slot_next (cq SI.slot_next T SI.entry_next ?_ (SI.args_next _))));refine Dd e1 e3 a qB hf F hv hn λh' NE sb ⟨o',g1,g2,g3⟩ F' F2=>⟨v,rfl,bj (h v _ hv ⟨(sb.2 S (bQ NS)).trans a,o',NE,g1,g2.trans e2,g3,F'.keep λb ob eb e=>?_,?_⟩ ⟨λb o hb e=>?_,rfl,rfl,rfl,bw _⟩)⟩
  .exact(sb.2 b λz=>hi2 (z.symm.trans (e4 b (F2 b eb)))).trans e
  .exact λb eb=>e4 b (F2 b eb)
  .exact(sb.2 b (by simpa using hb)).trans e
 done:=λs Q E ⟨a,o,first,e1,e2,e3,F,e4⟩ h=>by have T:s.TypeIs (.ref it) "set_iterator":=⟨o,e1,e2⟩;unfold pyNext;refine bh (gu (cH (name:=Str.ofString "__next__") T SI.slot_next (cq SI.slot_next T SI.entry_next ?_ (SI.args_next _))));refine Fl (by exact hh) e1 e3 a qB hf F hn λh' e sb ⟨o',g1,g2⟩=>?_;refine bh (fN (T:="StopIteration") (b:=true) ⟨_,g1,g2⟩ isSubtype_stop ?_);exact bj (h _ ⟨λb o hb e=>sb b o (by simpa using hb) e,rfl,rfl,rfl,bw _⟩)
 self:=λi s Q E ⟨a,o,first,e1,e2,e3,F,e4⟩ h=>by have T:s.TypeIs (.ref it) "set_iterator":=⟨o,e1,e2⟩;refine jQ T SI.slot_iter (cq SI.slot_iter T SI.entry_iter ?_ (SI.args_iter _));show wpAny _ _ (ret (.ref it)) _ _ s;exact bj ⟨_,rfl,"set_iterator",_,T,SI.slot_next.lookup,h⟩
def Er{Q:QQX}(hS:s.heap.get? S=some oS)(hc:oS.cls=.type "set")(qB:oS.data=.set es ep t)(hf:t.fits es.size=true)(hl:Ml w t es.toList)(np:∀e∈es.toList,plainKind e.2=false)(hb:es.size<=sizeLine) (h:∀it tp vs s',My w it S tp es ep t vs oS 0 s'->vs.Perm (es.toList.map (·.2))->it≠S->it≠tp->s.heap.objs.size<=it->(tp=S\/s.heap.objs.size<=tp)->(∀b o,s.heap.get? b=some o->s'.heap.get? b=some o)->s'.gens=s.gens->s'.os=s.os->s.toks<=s'.toks->Q (.ref it) s'):wpAny (model prog w) A (pyIter (.ref S)) Q E s:=by
 have T:s.TypeIs (.ref S) "set":=⟨oS,hS,hc⟩;have lS:=bB hS;refine jQ T kE (cq kE T SI.entry_set_iter ?_ (F.args_set_iter_1 _));show wpAny _ _ (Builtin.Frozenset.sizeOf S>>=_) _ _ s;refine bh ?_;unfold Builtin.Frozenset.sizeOf;refine bh (gW hS qB hf (bj ?_));unfold setDrawn;refine bh (bh (eI hS qB hf (bh (bh (eO (bj (bj ?_)))))));have fin:∀(first:Vl) (s1:Sd) (tp:Addr) (vs:T0 Vl),(∀b o,s.heap.get? b=some o->s1.heap.get? b=some o)->s1.gens=s.gens->s1.os=s.os->s.toks<=s1.toks->BX w S es ep t vs s1.heap 0 first->(∀a,first=.ref a->a=tp)->tp<s1.heap.objs.size->(tp=S\/s.heap.objs.size<=tp)->s.heap.objs.size<=s1.heap.objs.size->vs.Perm (es.toList.map (·.2))->
   wpAny (model prog w) A.in1 (setEpoch S>>=λe=>newFields "set_iterator" [first,rawInt 0,.ref S,rawInt es.size,rawInt e]>>=λr=>ret r) (λfin s'=>∃v,fin=.done (.ret v)/\∃T' r,s'.TypeIs v T'/\typeLookup (.type T') "__next__"=pure (some r)/\Q v s') E s1:=by
  intro first s1 tp vs k g o l F e4 lt lt2 le p
  refine bh (wpAny_setEpoch_of (k S oS hS) qB hf (bh (cQ (bj ⟨_,rfl,"set_iterator",_,⟨_,bD _ rfl,rfl⟩,SI.slot_next.lookup,?_⟩))));refine h _ tp vs _ ⟨bp _ (k S oS hS),_,first,bD _ rfl,rfl,by simp[rawInt],F.keep λ_ _ _ z=>bp _ z,e4⟩ p (cN (bO lS le)) (cN lt) le lt2 (λb o e=>bp _ (k b o e)) g o l
 rcases Bool.eq_false_or_eq_true (w.params.followText "set-order")with b|b
 .refine pU (by show ¬(!w.params.followText "set-order"&&_)=true;simp[b]) (bh (bj ?_));exact fin _ s S _ (λ_ _ e=>e) rfl rfl (bw _) (.text 0 0 b rfl) (λ_ z=>nomatch z) lS (.inl rfl) (bw _) ((C2 _ _).map _)
 .obtain⟨l1,l2⟩:=hl b;by_cases z:1<es.size
  .have pl:t.plain=false:=eJ.mpr λz2=>by have m:es.toList[0]'(by simp;lia)∈es.toList:=fM _;have:=l2 z2 _ m;rw[np _ m]at this;exact Bool.noConfusion this
   refine wx (by show(!w.params.followText "set-order"&&(!t.plain&&decide (es.size>1)))=true;simp[b,pl,z]) ?_;refine bh (B' es.size (List.range es.size) s _ (cx) λord d p=>?_);have lo:ord.length=es.size:=p.length_eq.trans cx;refine bh (ja ?_ (by rw[bi,lo];exact hb));refine fin _ _ s.heap.objs.size (ord.map λj=>(es[j]?.getD (0,.none)).2) (λ_ _ e=>bp _ e) rfl rfl (bw _) (.drawn 0 _ _ _ ord b (bD _ rfl) rfl (λj hj=>cY.mp (p.mem_iff.mp hj)) rfl) (λ_ z=>(Value.ref.inj z).symm) (by rw[bY];exact dM _) (.inr (bw _)) (by rw[bY];exact dF _) ((p.map _).trans (.of_eq ?_));refine iq λi=>?_;rw[bJ,bJ];rcases gc i es.size with q|q
   .rw[gU q,bC (show i<es.toList.length by simpa using q)];simp[eM q]
   .rw[dn (by simpa using q),dn (by simpa using q)];rfl
  .refine pU (by show ¬(!w.params.followText "set-order"&&(!t.plain&&decide (es.size>1)))=true;simp;intro _ _;lia) (bh (bj ?_));exact fin _ s S _ (λ_ _ e=>e) rfl rfl (bw _) (.one 0 b l1 (by lia) rfl) (λ_ z=>nomatch z) lS (.inl rfl) (bw _) (.refl _)
def zP{κ:Type}[DecidableEq κ]{knd:PySem.KeyKind prog w κ}{φ:κ->Bool}{n:Nat}{Q:T0 Vl->Sd->Prop}(hh:A.handled=none)(H:sS knd s.heap S φ n)(np:∀k v,knd.is k v=true->plainKind v=false) (h:∀vs s',(∀b o,s.heap.get? b=some o->s'.heap.get? b=some o)->s'.gens=s.gens->s'.os=s.os->s.toks<=s'.toks->s.heap.objs.size<=s'.heap.objs.size->vs.length=n->(∀v∈vs,∃k,knd.is k v=true/\φ k=true)->(∀k,φ k=true->∃v∈vs,knd.is k v=true)->Q vs s'):wpAny (model prog w) A (collect (.ref S)) Q E s:=by
 obtain⟨oS,es,ep,t,hS,hex,qB,P3,Oi,hb,hf,hn,hl⟩:=H;unfold collect;refine bh (gY (cM F.entry_proto_collect ?_));rw[cK F.plain_proto_collect _];show wpAny _ A.in1 (newList []>>=λl=>again (.builtin "list.__iadd__" ⟨[l,.ref S],[]⟩)) _ _ s;refine bh (cQ ?_);refine bj ⟨dH jR _,cM F.entry_list_iadd ?_⟩;rw[cK jR _];show wpAny _ A.in1 (Builtin.List.listExtendWith (.ref s.heap.objs.size) (.ref S) (.ref s.heap.objs.size)) _ _ _;have lS:=bB hS;have hS1:=bp {cls:=.type "list",data:=.seq ([]:T0 Vl).toArray} hS;have hL:(s.heap.push {cls:=.type "list",data:=.seq ([]:T0 Vl).toArray}).get? s.heap.objs.size=some {cls:=.type "list",data:=.seq ([]:T0 Vl).toArray}:=bD _ rfl;unfold Builtin.List.listExtendWith;refine bh (fB (T:="set") ⟨oS,hS1,hex.1⟩ ?_);have h1:Builtin.List.listSameRef (.ref s.heap.objs.size) (.ref S)=false:=by simp[Builtin.List.listSameRef,cN lS]
 have h2:(Value.type "set"==Value.type "list")=false:=by decide
 have h3:(Value.type "set"==Value.type "tuple")=false:=by decide
 simp only[h1,h2,h3,kN,hZ,iD];refine bh (Er hS1 hex.1 qB hf hl (λe he=>by obtain⟨⟨k,hk,_⟩,_⟩:=P3 e he;exact np k _ hk) (ip hb) λit tp vs s1 st p i1 i2 i3 i4 k g o l=>?_);have hL1:=k _ _ hL;have PQ:=k _ _ hS1;refine bh (cE ?_);unfold Builtin.List.listLengthHint;refine bh (gK (T:="set") ⟨oS,PQ,hex.1⟩ SI.len_set ?_);have sp:splitId "set.__len__"=some ("set","__len__"):=by decide+kernel
 simp only[sp];refine bh (fN (T:="set") (b:=true) ⟨oS,PQ,hex.1⟩ sub_set_self ?_);refine pU (by decide) (wx (by decide+kernel) (bh (fB (T:="set") ⟨oS,PQ,hex.1⟩ (bj ?_))));refine wx (by decide+kernel) (bh (dI (bh ?_)));show wpAny _ A.in1 (updateSeq s.heap.objs.size (·.push .none)>>=λ_=>updateSeq s.heap.objs.size (·.pop)) _ _ _;refine bh (wpAny_updateSeq hL1 rfl ?_);have hL2:=dq (Obj.mapSeq (·.push Value.none)) hL1 rfl;refine wpAny_updateSeq hL2 rfl ?_;have hL3:=dq (Obj.mapSeq (·.pop)) hL2 rfl;have ni:s.heap.objs.size≠it:=λz=>by rw[bY]at i3;lia
 have oth:∀b o,b≠s.heap.objs.size->s1.heap.get? b=some o->((s1.heap.update s.heap.objs.size (Obj.mapSeq (·.push Value.none))).update s.heap.objs.size (Obj.mapSeq (·.pop))).get? b=some o:=
  λb o hb e=>(gm _ _ (bQ hb)).trans ((gm _ _ (bQ hb)).trans e)
 have nf:s.heap.objs.size∉[it,S,tp]:=by
  have i5:tp=S\/s.heap.objs.size+1<=tp:=by rw[bY]at i4;exact i4
  simp only[bq,bE,bV,cA];exact⟨ni,cN lS,λz=>i5.elim (λq=>cN lS (z.trans q)) λq=>Nat.not_succ_le_self _ (z ▸ q)⟩
 have lv:vs.length=es.size:=by rw[p.length_eq];simp
 have W:=Cp (prog:=prog) (A:=A.in1) (by exact hh) lv i1 i2 qB hf (w:=w) (ep:=ep) (oS:=oS);refine bj ⟨dH F.plain_extend_loop _,codeAny_extend_loopS (W:=W) (ip hb) _ nf _ es.size 0 _ _ _ rfl (cF _) (W.frame 0 s1 _ s1.toks st (bw _) λb hb o e=>oth b o (λz=>nf (z ▸ hb)) e) hL3 (ItemsOf.nil _) λs' acc c hm NU OI=>?_⟩;show wpAny _ A (load s.heap.objs.size>>=_) _ _ s';refine bh (wpAny_load NU (bj ?_));have ev:acc.toList=vs:=iq λi=>by
  rcases gc i es.size with q|q
  .obtain⟨v,e⟩:∃v,acc[i]?=some v:=⟨_,eM (by rw[OI.1];exact q)⟩;rw[ci,e,OI.2 i v e]
  .rw[dn (by simp[OI.1];exact q),dn (by lia)]
 rw[ev];refine h vs s' (λb o e=>hm.heap b o ?_ (oth b o (bG (bB e)) (k b o (bp _ e)))) (hm.gens.symm.trans g) (hm.os.trans o) (bS l hm.toks) ?_ (lv.trans hn) (λv hv=>?_) λk' hk=>?_
 .have:=bB e;rw[bY]at i3;simp only[bq,bE,bV,cA];exact⟨bG this,bG (bO this (Nat.le_of_succ_le i3))⟩
 .exact fV (bB NU)
 .obtain⟨e,he,rfl⟩:=bP.mp (p.mem_iff.mp hv);obtain⟨⟨k',hk,_⟩,_⟩:=P3 e he;exact⟨k',hk,(Oi k').mpr ⟨e,he,hk⟩⟩
 .obtain⟨e,he,q⟩:=(Oi k').mp hk;exact⟨e.2,p.mem_iff.mpr (jt he),q⟩
end
def B9{κ:Type}[DecidableEq κ]:∀l:List κ,(nz l).Nodup:=by
 have go:∀(l acc:List κ),acc.Nodup->(l.foldl (λacc k=>if k∈acc then acc else acc++[k]) acc).Nodup:=by
  intro l;induction l with
  | nil=>exact λ_ h=>h
  | cons x l ih=>
   intro acc h;refine ih _ ?_;show(if x∈acc then acc else acc++[x]).Nodup;split
   .exact h
   .rename_i z;exact cw.mpr ⟨h,by simp,λa ha b hb=>by rw[bK]at hb;subst hb;exact λe=>z (e ▸ ha)⟩
 exact λl=>go l [] dB
theorem uH{κ:Type}[DecidableEq κ]:∀(l ms:List κ),l.Nodup->(∀x∈l,x∈ms)->ms.length<=l.length->ms.Perm l
 | [],ms,_,_,h=>by obtain rfl:=dW.mp (Nat.le_zero.mp h);exact .nil
 | x::l,ms,nd,sub,h=>by
  have hx:=sub x bM;have p:=jj hx;obtain⟨n1,n2⟩:=cp.mp nd;refine p.trans ((uH l _ n2 (λy hy=>?_) ?_).cons x)
  .exact(jk (λe:y=x=>n1 (e ▸ hy))).mpr (sub y (bL _ hy))
  .have:=p.length_eq;simp at this h;lia
section
variable {prog:Pg}{w:Wo}{A:Ar}{E:QQX}{s:Sd}
def Ax{all:QQQ}{Q:QQX}(hh:A.handled=none)(H:sS (PySem.strKind prog w) s.heap S (λx=>decide (x∈nz all)) (nz all).length)(h64:all.length<64) (h:∀l vs' (ms:QQQ) s' e,s.heap.objs.size<=l->(∀b o,s.heap.get? b=some o->s'.heap.get? b=some o)->s'.gens=s.gens->s'.os=s.os->s.toks<=s'.toks->s'.heap.get? l=some (seqObj "list" vs'.toArray e)->StrsAre vs' ms->ms.Perm (nz all)->sortedS ms=true->Q (.ref l) s'):
  wpAny (model prog w) A (call (.builtin "sorted") [.ref S]) Q E s:=by
 refine iz kind_sorted plain_sorted entry_sorted (args_sorted1 _) ?_;unfold Builtin.«sorted»;refine bh (m:=checkCount "sorted" 1 1 _) (bj ?_);refine bh (zP (by exact hh) H ?_ λvs s1 k g o l lz ln h1 h2=>?_)
 .intro k v hk;cases v<;>first|rfl|(simp[PySem.strKind,Value.isStrOf]at hk)
 have hs:∀v∈vs,∃x t,v=.str x t:=λv hv=>by obtain⟨x,hx,_⟩:=h1 v hv;cases v<;>first|exact⟨_,_,rfl⟩|(simp[PySem.strKind,Value.isStrOf]at hx)
 have hS:=strsAre_map vs hs;have l64:vs.length<64:=by have:=vc all;lia
 refine bh (jq ?_);have Pq:(s1.heap.push (seqObj "list" vs.toArray 0)).get? s1.heap.objs.size=some (seqObj "list" vs.toArray 0):=bD _ rfl;refine bh (cE (cq slot_list_sort ⟨_,Pq,rfl⟩ entry_list_sort (list_sort_treeK strKind_oneLt Pq hS.keysOf (λv₁ v₂ Nb e=>keyKind_strs (by rw[<-e];exact hS)) l64 λMY a1 a2=>⟨_,rfl,?_⟩) (args_list_sort _)));obtain⟨ms,b1,b2,b3⟩:=sorted_out_str hS a1 a2;obtain⟨e,he⟩:=sortedHeap_at (h:=s1.heap.push (seqObj "list" vs.toArray 0)) (out:=(arrOf MY).map (·.2)) Pq;refine bj ⟨_,rfl,h _ ((arrOf MY).map (·.2)).toList ms _ e lz (λb o z=>?_) g o l he b1 ?_ b3⟩
 .have z1:=k b o z;have z2:=bB z1;rw[sortedHeap_old (bG z2) (by rw[kF];exact cR z2)];exact bp _ z1
 .refine b2.trans (uH _ _ (B9 all) (λx hx=>?_) (by rw[bi,ln];exact bw _));obtain⟨v,hv,hk⟩:=h2 x (by simpa using hx);refine bP.mpr ⟨v,hv,?_⟩;obtain⟨y,t,rfl⟩:=hs v hv;simp[PySem.strKind,Value.isStrOf]at hk;exact hk
end
variable {X:Cx}{MV:T0 (Addr × Obj)}{Y:St}{H:Hp}{e:Expr}{te:TE}
section
variable {s:Sd}
def Inv.dr{d:Drawn}(I:Inv X MV Y H s):Inv X MV Y H {s with drawn:=d}:=⟨I.ok,I.os,I.bare,I.base,I.loc,I.cell,I.free,I.lF,I.pin,I.lA,I.len⟩
def Gm(K:mZ)(te:TE):TE:=λY H Q=>te Y H λx H1=>∃a,∃ss:QQQ,x=.ref a/\(qM K H1 a (ss.map V.str)\/p9 K H1 a (ss.map V.str))/\ss.length<64/\∀l (ms:QQQ),H1 l=none->ms.Perm (nz ss)->sortedS ms=true->Q (.ref l) (upd H1 l (.lst (ms.map V.str)))
def Et{P:Pg}{w:Wo}{ss:QQQ}{us:T0 Vl}(r:nj (ss.map V.str) us):us.length=ss.length/\∀(i:Nat) (v:Vl) (k:Str),us[i]?=some v->ss[i]?=some k->(PySem.strKind P w).is k v=true/\v.scannable=true:=by refine⟨by rw[<-r.length,bi],λi v k e1 e2=>?_⟩;obtain⟨u,e3,t,rfl⟩:=r.get (i:=i) (x:=V.str k) (by rw[bJ,e2];rfl);rw[e1]at e3;cases e3;exact⟨kG P w k t,rfl⟩
theorem xj:∀{ss:QQQ} {its:T0 Vl},StrsAre its ss->nj (ss.map V.str) its
 | _,_,.nil=>.nil
 | _,_,.cons _ t h=>.cons ⟨t,rfl⟩ (xj h)
def Cu{p p2 pos ND:Pos}(hc:X.calm=true)(he:PE X e te)(PU:Gl X "sorted")(MX:X.mg "sorted"=none)(Oy:Gl X "set")(Nj:X.mg "set"=none)(b1:bootBuiltins "sorted"=some (.builtin "sorted"))(b2:bootBuiltins "set"=some (.type "set")) (hs:starEach [e] X.env=[(false,eval e X.env)]:=by rfl):PE X (.Call (.Name "sorted" p) [.Call (.Name "set" p2) [e] [] ND] [] pos) (Gm X.K te):=by
 intro MV s Y H Q I h;refine du (qu I PU MX b1 ?_);refine eY ?_ rfl rfl;show wpAny _ _ (spliced ((false,eval (.Call (.Name "set" p2) [e] [] ND) X.env)::backTo pos (starEach [] X.env))) _ _ s;refine eX ?_;refine du (qu I Oy Nj b2 ?_);refine cP ?_ hs rfl;rw[hs];show wpAny _ _ (spliced ((false,eval e X.env)::backTo ND (starEach [] X.env))) _ _ s;refine eX (o6 (he MV s Y H _ I h) λu s1 ⟨x,H1,I1,r1,a,ss,ex,hq,hb,q⟩=>ft ?_);subst ex;obtain rfl:u=Value.ref a:=r1;have fin:∀(h':Heap) (tk:Nat),sS (PySem.strKind X.prog X.w) h' s1.heap.objs.size (λx=>decide (x∈nz ss)) (nz ss).length->(∀b o,s1.heap.get? b=some o->h'.get? b=some o)->
   wpAny (model X.prog X.w) X.A (spliced (backTo pos (starEach [] X.env))) (λvs s₁=>wpAny (model X.prog X.w) X.A (call (.builtin "sorted") (.ref s1.heap.objs.size::vs)) (EP X MV Y Q) X.xe s₁) X.xe {s1 with heap:=h',toks:=tk}:=λh' tk hS keep=>by
  refine ft ?_;refine Ax (I1.ok.hd hc) hS hb λl vs' ms s' e hl k g o _ he hv hp hsr=>?_;obtain⟨h2,g2,d2,t2,o2⟩:=s';cases g;cases o;have I2:=(I1.kept (t':=tk) keep).dr (d:=d2);refine⟨.ref l,_,I2.laid (t':=t2) (a:=l) k hl (show og X.prog X.w _ _ _ (.lst (ms.map V.str))from⟨?_,vs',e,xj hv,he⟩),rfl,q l ms (I2.lA.fresh hl) hp hsr⟩;rw[bi,hp.length_eq];have:=vc ss;have:=b7;lia
 have NI:ss.length+1<scanBound:=by have:scanBound=4096:=rfl;lia
 rcases hq with hq|hq
 .obtain⟨its,r,pl,hz⟩:=I1.list hq;obtain⟨k1,k2⟩:=Et (P:=X.prog) (w:=X.w) r;exact L2.xo (knd:=PySem.strKind X.prog X.w) (all:=ss) (I1.ok.hd hc) (.inl pl.isList) (by rw[bz,k1]) (λi v k e1 e2=>k2 i v k (by simpa using e1) e2) NI fin
 .obtain⟨its,r,pl,hz⟩:=I1.tuple hq;obtain⟨k1,k2⟩:=Et (P:=X.prog) (w:=X.w) r;exact L2.xo (knd:=PySem.strKind X.prog X.w) (all:=ss) (I1.ok.hd hc) (.inr pl) (by rw[bz,k1]) (λi v k e1 e2=>k2 i v k (by simpa using e1) e2) NI fin
end
end L2
namespace L3
open L2
variable {X:Cx}{e:Expr}{ta:T3}
theorem xm{K:mZ}{H:Hp}:∀ns:QQQ,mS K H (ns.map D.str) (ns.map V.str)
 | []=>.nil
 | _::ns=>.cons .str (xm ns)
def Kh(ta:T3):T3:=λU M Q=>ta U M λx M1=>(AL M1 x).elim False λes=>(uO es).elim False λss=>ss.length<64/\∀p (ms:QQQ),M1 p=none->ms.Perm (nz ss)->sortedS ms=true->Q (.ref p) (mN M1 p (.lst (ms.map D.str)))
def C5{p p2 pos ND:Pos}(hc:X.calm=true)(he:E3 X e ta)(PU:Gl X "sorted")(MX:X.mg "sorted"=none)(Oy:Gl X "set")(Nj:X.mg "set"=none)(b1:bootBuiltins "sorted"=some (.builtin "sorted"))(b2:bootBuiltins "set"=some (.type "set")) (hs:starEach [e] X.env=[(false,eval e X.env)]:=by rfl):E3 X (.Call (.Name "sorted" p) [.Call (.Name "set" p2) [e] [] ND] [] pos) (Kh ta):=
 PE.mono (Cu hc he PU MX Oy Nj b1 b2 hs) λY H Q' zz=>x7 zz λU M Q hs hm ht k=>⟨U,M,_,hs,hm,ht,λv H1 d M1 hd MX e1 q1=>by
  obtain⟨es,e2,q1⟩:=ny q1;obtain⟨ss,e3,hz,q1⟩:=ny q1;obtain⟨a,xs,rfl,h1,h2⟩:=vC MX hd e2;rw[vG e3 h2]at h1;exact⟨a,ss,rfl,h1,hz,λl ms hl p1 p2=>k _ _ _ _ .ref (MX.new (c:=.lst (ms.map D.str)) hl ⟨_,mY,xm ms⟩) (e1.trans (.new hl)) (q1 l ms (MX.fresh hl) p1 p2)⟩⟩
end L3
namespace L2
def rg(x y:Str):Bool:=decide (x.cps.toList<y.cps.toList)
def rM:QQQ->QQQ->Bool
 | _,[]=>false
 | [],_::_=>true
 | x::xs,y::ys=>if x=y then rM xs ys else rg x y
def EG{x y:Str}(h:rg x y=true):rg y x=false:=by simp only[rg,fv,gj]at *;exact j8.mpr (List.le_of_lt h)
def vv{x y:Str}(h:x≠y):rg x y=true\/rg y x=true:=by simp only[rg,fv];refine Classical.byContradiction λz=>h ?_;have z1:=j8.mp λq=>z (.inl q);have z2:=j8.mp λq=>z (.inr q);have:=List.le_antisymm z2 z1;cases x;cases y;simp at this;rw[this]
def uC(x:Str):rg x x=false:=by simp only[rg,gj];exact List.lt_irrefl _
def DN{x y z:Str}(h1:rg x y=true)(h2:rg y z=true):rg x z=true:=by simp only[rg,fv]at *;exact List.lt_trans h1 h2
theorem Fj:∀{a b:QQQ},rM a b=true->rM b a=false
 | _,[],h=>by simp[rM]at h
 | [],_::_,_=>rfl
 | x::xs,y::ys,h=>by
  simp only[rM]at *;by_cases e:x=y
  .rw[bA e]at h;rw[bA e.symm];exact Fj h
  .rw[bv e]at h;rw[bv (bQ e)];exact EG h
theorem El:∀{a b c:QQQ},rM b a=false->rM c b=false->rM c a=false
 | [],_,_,_,_=>by simp[rM]
 | a::as,[],c,h1,_=>by simp[rM]at h1
 | a::as,b::bs,[],_,h2=>by simp[rM]at h2
 | a::as,b::bs,c::cs,h1,h2=>by
  simp only[rM]at *;by_cases e1:b=a
  .subst e1;rw[bA rfl]at h1;by_cases e2:c=b
   .subst e2;rw[bA rfl]at *;exact El h1 h2
   .rw[bv e2]at *;exact h2
  .rw[bv e1]at h1;have Oh:=(vv e1).resolve_left (by rw[h1];exact bN);by_cases e2:c=b
   .subst e2;rw[bv e1];exact h1
   .rw[bv e2]at h2;have h2':=(vv e2).resolve_left (by rw[h2];exact bN);have h3:=DN Oh h2';by_cases e3:c=a
    .subst e3;rw[uC]at h3;exact Bool.noConfusion h3
    .rw[bv e3];exact EG h3
variable {prog:Pg}{w:Wo}{A:Ar}{E:QQX}{s:Sd}{R:Result→Sd→Prop}
def xX:entryFor table "list.__eq__.loop"=some Builtin.«list.__eq__.loop»:=iG (by kernel_rfl)
def qg:plainId "list.__eq__.loop"=true:=by decide+kernel
theorem vn:∀{vs:T0 Vl} {ss:QQQ},StrsAre vs ss->∀i:Nat,vs[i]?=none/\ss[i]?=none\/∃x t,vs[i]?=some (.str x t)/\ss[i]?=some x
 | _,_,.nil,i=>.inl ⟨by simp,by simp⟩
 | _,_,.cons x t h,0=>.inr ⟨x,t,by simp,by simp⟩
 | _,_,.cons x t h,i+1=>by simpa using vn h i
def B1{a b:Addr}{vs us:T0 Vl}{xs ys:QQQ}(ha:s.heap.IsList a vs.toArray)(hb:s.heap.IsList b us.toArray)(hx:StrsAre vs xs)(hy:StrsAre us ys):∀(n i:Nat),xs.length - i<n->i<=xs.length->R (.ok (.ret (.bool (rM (xs.drop i) (ys.drop i))))) s->
  codeAny (model prog w) A (.builtin "list.__eq__.loop" ⟨[.ref a,.ref b,rawInt i,rawInt 0],[]⟩) R s:=by
 have lx:=hx.length;have ly:=hy.length;obtain⟨oa,ha,_,na,da⟩:=ha;obtain⟨ob,hb,_,nb,db⟩:=hb;intro n;induction n with
 | zero=>exact λi h=>absurd h (gL _)
 | succ n ih=>
  intro i hi hi2 h;refine cM xX ?_;rw[cK qg _];show wpAny _ A.in1 (Builtin.List.listItems (.ref a)>>=_) _ _ s;refine bh (em ha da (bh (em hb db ?_)));simp only[dS,fD];have fin:(xs[i]?=none\/ys[i]?=none)->wpAny (model prog w) A.in1 (do ret (.bool (decide (vs.toArray.size<us.toArray.size)))) (λfin s'=>match fin with|Fin.done f=>R (.ok f) s'|Fin.again c'=>c'.quiet=true/\codeAny (model prog w) A c' R s') (λe s'=>R (.error e) s') s:=by
   intro z;refine bj ?_;show R _ s;have:decide (vs.toArray.size<us.toArray.size)=rM (xs.drop i) (ys.drop i):=by
    rw[bz,bz,lx,ly];rcases z with z|z
    .have z:=iA.mp z;rw[gp z];have:i=xs.length:=by lia
     rcases gc xs.length ys.length with q|q
     .rw[dh (by lia:i<ys.length)];simp[rM,q]
     .rw[gp (by lia)];simp[rM];exact q
    .have z:=iA.mp z;rw[gp z];simp only[rM,gj];lia
   rw[this];exact h
  rcases vn hx i with⟨e1,e2⟩|⟨x,t,e1,e2⟩
  .rw[e1];exact bh (em ha da (bh (em hb db (fin (.inl e2)))))
  rcases vn hy i with⟨e3,e4⟩|⟨y,u,e3,e4⟩
  .rw[e1,e3];exact bh (em ha da (bh (em hb db (fin (.inr e4)))))
  rw[e1,e3];obtain⟨q1,e5⟩:=bI.mp e2;obtain⟨q2,e6⟩:=bI.mp e4;rw[dh q1,dh q2,e5,e6,rM]at h;refine bh ((PySem.strKind prog w).eqBool (a:=x) (b:=y) (kG prog w x t) (kG prog w y u) ?_);by_cases e:x=y
  .rw[bA e]at h;refine wx (by simpa using e) (bj ⟨dH qg _,?_⟩);exact ih (i+1) (by lia) (by lia) h
  .rw[bv e]at h;refine pU (by simpa using e) ?_;refine bh (em ha da (bh (em hb db ?_)));simp only[fD];rw[e1,e3];exact bh (gq (T:="str") (id:="str.__lt__") (eZ s x t) (eZ s y u) slot_str_lt (call_str_lt ⟨by simp,bj h⟩))
def A6{a b:Addr}{vs us:T0 Vl}{xs ys:QQQ}{Q:Bool->Sd->Prop}(hu:A.units<cLine)(ha:s.heap.IsList a vs.toArray)(hb:s.heap.IsList b us.toArray)(hx:StrsAre vs xs)(hy:StrsAre us ys)(h:Q (rM xs ys) s):wpAny (model prog w) A (oneLt' true (.ref a) (.ref b)) Q E s:=by rw[oneLt'_eq];simp only[gD];refine bh (wpAny_cRoomFor hu ?_);have Ta:s.TypeIs (.ref a) "list":=ha.typeIs;have Tb:s.TypeIs (.ref b) "list":=hb.typeIs;refine bh (wpAny_callSpecialIfBound?_slot Ta fH (gi (eK fH.plain kH (fH.check _ _ _ _ _ _ _ _ Ta (kn _ _) ?_))));show wpAny _ _ (isInstance (.ref b) (.type "list")>>=_) _ _ s;refine bh (fN (T:="list") (b:=true) Tb (by rw[d6];kernel_rfl) ?_);refine pU (by decide) (pU (by decide) (bj ⟨dH qg _,?_⟩));refine B1 ha hb hx hy (xs.length+1) 0 (by lia) (cF _) ?_;exact cW h
end L2
namespace Srt
open PySem PyProof.Rows
structure Ord(lt:Keyed->Keyed->Bool):Prop where
 as:∀a b,lt a b=true->lt b a=false
 tr:∀a b c,lt b a=false->lt c b=false->lt c a=false
def Ord.ir{lt:Keyed->Keyed->Bool}(o:Ord lt)(a:Keyed):lt a a=false:=by
 cases h:lt a a with
 | false=>rfl
 | true=>exact h.symm.trans (o.as a a h)
def Ord.ll{lt:Keyed->Keyed->Bool}(o:Ord lt){a b c:Keyed}(h:lt a b=true)(g:lt c b=false):lt a c=true:=by
 cases e:lt a c with
 | true=>rfl
 | false=>exact((o.tr _ _ _ g e).symm.trans h)
def X(xs:Array Keyed)(i:Nat):Keyed:=(xs[i]?).getD (.none,.none)
def So(lt:Keyed->Keyed->Bool)(xs:Array Keyed)(lo hi:Nat):Prop:=∀i j,lo<=i->i<=j->j<hi->lt (X xs j) (X xs i)=false
def Fx(lo hi:Nat)(xs ys:Array Keyed):Prop:=ys.Perm xs/\∀k,k<lo\/hi<=k->ys[k]?=xs[k]?
def Fx.refl{lo hi:Nat}{xs:Array Keyed}:Fx lo hi xs xs:=⟨.refl _,λ_ _=>rfl⟩
def Fx.trans{lo hi:Nat}{xs ys zs:Array Keyed}(h:Fx lo hi xs ys)(g:Fx lo hi ys zs):Fx lo hi xs zs:=⟨g.1.trans h.1,λk hk=>(g.2 k hk).trans (h.2 k hk)⟩
def Af{xs ys:Array Keyed}{i j:Nat}(h:xs[i]?=ys[j]?):X xs i=X ys j:=by unfold X;rw[h]
def Fx.x{lo hi:Nat}{xs ys:Array Keyed}(h:Fx lo hi xs ys){k:Nat}(hk:k<lo\/hi<=k):X ys k=X xs k:=Af (h.2 k hk)
def sN{xs:Array Keyed}{i j:Nat}(hj:j<=xs.size)(k:Nat):X (mirror xs i j ((j - i) / 2)) k=if i<=k/\k<j then X xs (i+j - 1 - k)else X xs k:=by
 have e:=ju (i:=i) hj k;split<;>rename_i h
 .rw[bA h]at e;exact Af e
 .rw[bv h]at e;exact Af e
def Hi{xs:Array Keyed}{i d:Nat}(hi:i<xs.size)(hd:d<=i)(k:Nat):X (bubble xs i d) k=if k=i - d then X xs i else if i - d<k/\k<=i then X xs (k - 1)else X xs k:=by
 have e:=getElem?_bubble hi d hd k;split
 .rename_i h;rw[bA h]at e;exact Af e
 .rename_i h;rw[bv h]at e;split
  .rename_i h;rw[bA h]at e;exact Af e
  .rename_i h;rw[bv h]at e;exact Af e
def Fx.mi{lo hi:Nat}{xs:Array Keyed}{i j:Nat}(hj:j<=xs.size)(h1:lo<=i)(h2:j<=hi):Fx lo hi xs (mirror xs i j ((j - i) / 2)):=⟨mirror_perm _ _ _ _,λk hk=>by rw[ju hj,bv (by lia)]⟩
def Fx.bub{lo hi:Nat}{xs:Array Keyed}{i d:Nat}(Pf:i<xs.size)(hd:d<=i)(h1:lo<=i - d)(h2:i<hi):Fx lo hi xs (bubble xs i d):=⟨bubble_perm _ _ _,λk hk=>by rw[getElem?_bubble Pf d hd,bv (by lia),bv (by lia)]⟩
variable {na nb:Nat}{out:Array Keyed}{ia ib k:Nat}{a b:Array Keyed}{prog:Pg}{w:Wo}{A:Ar}{E:QQX}{s:Sd}{a₀:Array Keyed}{κ:SortKind}{lt:Keyed→Keyed→Bool}{P:Keyed→Prop}
def Cmp(prog:Pg)(w:Wo)(A:Ar)(s:Sd)(κ:SortKind)(lt:Keyed->Keyed->Bool)(P:Keyed->Prop):Prop:=∀x y,P x->P y->∀(Q:Bool->Sd->Prop) (E:QQX),Q (lt x y) s->wpAny (model prog w) A (keyLt' κ x.1 y.1) Q E s
structure Bs(κ:SortKind)(P:Keyed->Prop)(a₀:Array Keyed)(st:SortSt):Prop where
 k:kindOf st=κ
 f:failedOf st=none
 p:(arrOf st).Perm a₀
 all:∀x∈a₀.toList,P x
def Bs.set{st:SortSt}(b:Bs κ P a₀ st){xs:Array Keyed}(h:xs.Perm (arrOf st)):Bs κ P a₀ (setArr st xs):=⟨b.k,b.f,h.trans b.p,b.all⟩
def Bs.sz{st:SortSt}(b:Bs κ P a₀ st):(arrOf st).size=a₀.size:=b.p.size_eq
def Bs.at_{st:SortSt}(b:Bs κ P a₀ st){i:Nat}(hi:i<a₀.size):(arrOf st)[i]?=some (X (arrOf st) i)/\P (X (arrOf st) i):=by
 have Pf:i<(arrOf st).size:=by rw[b.sz];exact hi
 have e:(arrOf st)[i]?=some (arrOf st)[i]:=dG _ i Pf;have ex:X (arrOf st) i=(arrOf st)[i]:=by unfold X;rw[e];rfl
 rw[ex];exact⟨e,b.all _ ((eF.mp b.p).mem_iff.mp (by simp))⟩
def z9{st:SortSt}(C:Cmp prog w A s κ lt P)(hk:kindOf st=κ){x y:Keyed}{Q:Option Bool->SortSt->Prop}(hx:P x)(hy:P y)(h:Q (some (lt x y)) st):wpS (model prog w) A E s (lt' x y) Q st:=by rw[lt'_eq];refine br (eV ?_);rw[hk];exact br (g9 (gu (C x y hx hy _ _ ⟨rfl,bu h⟩)))
def wl{st:SortSt}(C:Cmp prog w A s κ lt P)(b:Bs κ P a₀ st){i j:Nat}{Q:Option Bool->SortSt->Prop}(hi:i<a₀.size)(hj:j<a₀.size)(h:Q (some (lt (X (arrOf st) i) (X (arrOf st) j))) st):wpS (model prog w) A E s (ltAt' i j) Q st:=by obtain⟨e1,p1⟩:=b.at_ hi;obtain⟨e2,p2⟩:=b.at_ hj;rw[ltAt'_eq];refine br (eV ?_);show wpS _ _ _ _ (do let x<-elem' (arrOf st) i;let y<-elem' (arrOf st) j;lt' x y) Q st;rw[elem'_eq,elem'_eq,e1,e2];exact br (bu (br (bu (z9 C b.k p1 p2 h))))
def Cd{st:SortSt}{i j:Nat}{Q:Unit->SortSt->Prop}(h:Q () (setArr st (mirror (arrOf st) i j ((j - i) / 2)))):wpS (model prog w) A E s (reverseSlice' i j) Q st:=by rw[reverseSlice'_eq];exact dC h
def J4{st:SortSt}{i j:Nat}{Q:Unit->SortSt->Prop}(h:Q () (setArr st (bubble (arrOf st) i (i - j)))):wpS (model prog w) A E s (moveDown' i j) Q st:=by rw[moveDown'_eq];exact dC h
def So.snoc(o:Ord lt){xs:Array Keyed}{lo n:Nat}(hs:So lt xs lo n)(h:lo<n->lt (X xs n) (X xs (n - 1))=false):So lt xs lo (n+1):=λi j hi NF hj=>by
 by_cases hjn:j<n
 .exact hs i j hi NF hjn
 .obtain rfl:j=n:=by lia
  by_cases e:i=j
  .subst e;exact o.ir _
  .exact o.tr _ _ _ (hs i (j - 1) hi (by lia) (by lia)) (h (by lia))
def Si(lt:Keyed->Keyed->Bool)(xs:Array Keyed)(lo hi:Nat):Prop:=∀i j,lo<=i->i<=j->j<hi->lt (X xs i) (X xs j)=false
def Si.snoc(o:Ord lt){xs:Array Keyed}{lo n:Nat}(hs:Si lt xs lo n)(h:lo<n->lt (X xs (n - 1)) (X xs n)=false):Si lt xs lo (n+1):=λi j hi NF hj=>by
 by_cases hjn:j<n
 .exact hs i j hi NF hjn
 .obtain rfl:j=n:=by lia
  by_cases e:i=j
  .subst e;exact o.ir _
  .exact o.tr _ _ _ (h (by lia)) (hs i (j - 1) hi (by lia) (by lia))
def So.one(o:Ord lt){xs:Array Keyed}{lo:Nat}:So lt xs lo (lo+1):=λi j h1 h2 h3=>by
 obtain rfl:i=j:=by lia
 exact o.ir _
abbrev AS:=Option (Option Nat)×Nat
def G5(lo:Nat)(_:Nat)(c:AS):StateT SortSt Sem (ForInStep AS):=do
 let x<-ltAt' (lo+c.2) (lo+c.2 - 1)
 match x with
 | some smaller=>if smaller=true then pure (.done (none,c.2))else pure (.yield (none,c.2+1))
 | _=>pure (.done (some none,c.2))
def Hk(o:Ord lt)(C:Cmp prog w A s κ lt P){st:SortSt}(b:Bs κ P a₀ st){lo a M8:Nat}{Q:AS->SortSt->Prop}(ha:1<=a)(h1:a<=M8)(hn:lo+M8<=a₀.size)(hs:So lt (arrOf st) lo (lo+a)) (h:∀n,a<=n->n<=M8->So lt (arrOf st) lo (lo+n)->(n=M8\/lt (X (arrOf st) (lo+n)) (X (arrOf st) (lo+n - 1))=true)->Q (none,n) st):wpS (model prog w) A E s (forIn [a:M8] ((none,a):AS) (G5 lo)) Q st:=by
 refine cI (I:=λx c MY=>MY=st/\c=(none,x)/\So lt (arrOf st) lo (lo+x)) ?_ ?_ ⟨rfl,rfl,hs⟩
 .rintro x c _ OS hx2 ⟨rfl,rfl,hs⟩
  refine br (wl C b (by lia) (by lia) ?_);dsimp only;cases e:lt (X (arrOf _) (lo+x)) (X (arrOf _) (lo+x - 1))with
  | true=>exact bu (h x OS (by lia) hs (.inr e))
  | false=>exact bu ⟨rfl,rfl,hs.snoc o λ_=>e⟩
 .rintro c _ ⟨rfl,rfl,hs⟩
  rw[show max a M8=M8 by lia]at hs ⊢;exact h _ h1 (bw _) hs (.inl rfl)
abbrev DS:=Option (Option Nat)×Nat×Nat
def Il(lo:Nat)(_:Nat)(c:DS):StateT SortSt Sem (ForInStep DS):=do
 let x<-ltAt' (lo+c.2.1) (lo+c.2.1 - 1)
 match x with
 | some smaller=>
  if smaller=true then
   if c.2.2>0 then do
    reverseSlice' (lo+c.2.1 - (c.2.2+1)) (lo+c.2.1)
    pure (.yield (none,c.2.1+1,0))
   else pure (.yield (none,c.2.1+1,0))
  else do
   let x<-ltAt' (lo+c.2.1 - 1) (lo+c.2.1)
   match x with
   | some larger=>if larger=true then pure (.done (none,c.2.1,c.2.2))else pure (.yield (none,c.2.1+1,c.2.2+1))
   | _=>pure (.done (some none,c.2.1,c.2.2))
 | _=>pure (.done (some none,c.2.1,c.2.2))
def Si.mi(o:Ord lt){xs:Array Keyed}{lo n q:Nat}(hs:Si lt xs lo (lo+n))(hz:lo+n<=xs.size)(hq:q+1<=n)(he:∀i j,lo+n - (q+1)<=i->i<=j->j<lo+n->lt (X xs j) (X xs i)=false)(i j:Nat)(NF:i<=j)(hi:lo<=i)(hj:j<lo+n):lt (X (mirror xs (lo+n - (q+1)) (lo+n) ((lo+n - (lo+n - (q+1))) / 2)) i) (X (mirror xs (lo+n - (q+1)) (lo+n) ((lo+n - (lo+n - (q+1))) / 2)) j)=false:=by
 rw[sN hz,sN hz];split<;>split
 .exact he _ _ (by lia) (by lia) (by lia)
 .omega
 .exact hs _ _ hi (by lia) (by lia)
 .exact hs _ _ hi NF hj
def J0(o:Ord lt)(C:Cmp prog w A s κ lt P){st:SortSt}(b:Bs κ P a₀ st){lo a M8:Nat}{Q:DS->SortSt->Prop}(ha:1<=a)(h1:a<=M8)(hn:lo+M8<=a₀.size)(hs:Si lt (arrOf st) lo (lo+a)) (h:∀n q xs,Fx lo (lo+M8) (arrOf st) xs->a<=n->n<=M8->Si lt xs lo (lo+n)->q+1<=n->(∀i j,lo+n - (q+1)<=i->i<=j->j<lo+n->lt (X xs j) (X xs i)=false)->Q (none,n,q) (setArr st xs)):wpS (model prog w) A E s (forIn [a:M8] ((none,a,0):DS) (Il lo)) Q st:=by
 refine cI (I:=λx c MY=>∃q xs,MY=setArr st xs/\c=(none,x,q)/\Fx lo (lo+M8) (arrOf st) xs/\Si lt xs lo (lo+x)/\q+1<=x/\∀i j,lo+x - (q+1)<=i->i<=j->j<lo+x->lt (X xs j) (X xs i)=false) ?_ ?_ ⟨0,arrOf st,rfl,rfl,.refl,hs,ha,λi j h1 h2 h3=>(show i=j by lia) ▸ o.ir _⟩
 .rintro x c _ OS hx2 ⟨q,xs,rfl,rfl,fx,hs,hq,he⟩
  have b':Bs κ P a₀ (setArr st xs):=b.set fx.1;have hz:xs.size=a₀.size:=b'.sz;unfold Il;dsimp only;refine br (wl C b' (by lia) (by lia) ?_);dsimp only;cases e:lt (X xs (lo+x)) (X xs (lo+x - 1))with
  | true=>
   rw[bA rfl];have one:∀ys:Array Keyed,∀i j,lo+(x+1) - (0+1)<=i->i<=j->j<lo+(x+1)->lt (X ys j) (X ys i)=false:=λys i j h1 h2 h3=>by
    obtain rfl:i=j:=by lia
    exact o.ir _
   split
   .refine br (Cd (bu ⟨0,_,rfl,rfl,fx.trans (.mi (by show _<=xs.size;lia) (by lia) (by lia)),?_,by lia,one _⟩));refine Si.snoc (n:=lo+x) o (λi j hi NF hj=>Si.mi o hs (by lia) hq he i j NF hi hj) λ_=>?_;show lt (X (mirror xs _ _ _) _) (X (mirror xs _ _ _) _)=false;rw[sN (by lia),sN (by lia),bA (by lia),bv (by lia)];exact o.tr _ _ _ (o.as _ _ e) (hs _ _ (by lia) (by lia) (by lia))
   .exact bu ⟨0,xs,rfl,rfl,fx,hs.snoc o λ_=>o.as _ _ e,by lia,one _⟩
  | false=>
   rw[bv (by exact Bool.noConfusion)];refine br (wl C b' (by lia) (by lia) ?_);dsimp only;cases e2:lt (X xs (lo+x - 1)) (X xs (lo+x))with
   | true=>exact bu (h x q xs fx OS (by lia) hs hq he)
   | false=>
    refine bu ⟨q+1,xs,rfl,rfl,fx,hs.snoc o λ_=>e2,by lia,λi j h1 h2 h3=>?_⟩;by_cases hj:j<lo+x
    .exact he i j (by lia) h2 hj
    .obtain rfl:j=lo+x:=by lia
     by_cases hi:i=lo+x
     .subst hi;exact o.ir _
     .exact o.tr _ _ _ (he i (lo+x - 1) (by lia) (by lia) (by lia)) e
 .rintro c _ ⟨q,xs,rfl,rfl,fx,hs,hq,he⟩
  rw[show max a M8=M8 by lia]at hs hq he ⊢;exact h _ _ _ fx h1 (bw _) hs hq he
def Gq(o:Ord lt)(C:Cmp prog w A s κ lt P){st:SortSt}(b:Bs κ P a₀ st){lo M8:Nat}{Q:Option Nat->SortSt->Prop}(h1:1<=M8)(hn:lo+M8<=a₀.size) (h:∀m xs,Fx lo (lo+M8) (arrOf st) xs->1<=m->m<=M8->So lt xs lo (lo+m)->Q (some m) (setArr st xs)):wpS (model prog w) A E s (countRun' lo M8) Q st:=by
 have fin:∀(K:AS->StateT SortSt Sem (Option Nat)) n xs,(∀m st,Q (some m) st->wpS (model prog w) A E s (K (none,m)) Q st)->Fx lo (lo+M8) (arrOf st) xs->1<=n->n<=M8->Si lt xs lo (lo+n)->wpS (model prog w) A E s (do
   reverseSlice' lo (lo+n)
   let c<-forIn [n:M8] ((none,n):AS) (G5 lo)
   K c) Q (setArr st xs):=λK n xs hK fx n1 n2 hs=>by
  have hz:xs.size=a₀.size:=(b.set fx.1).sz;have f2:Fx lo (lo+M8) xs (mirror xs lo (lo+n) ((lo+n - lo) / 2)):=.mi (by lia) (by lia) (by lia);refine br (Cd (br (Hk o C (b.set (f2.1.trans fx.1)) n1 n2 hn (λi j hi NF hj=>?_) λm m1 m2 hm _=>hK _ _ (h m _ (fx.trans f2) (by lia) m2 hm))));show lt (X (mirror xs _ _ _) _) (X (mirror xs _ _ _) _)=false;rw[sN (by lia),sN (by lia),bA (by lia),bA (by lia)];exact hs _ _ (by lia) (by lia) (by lia)
 have Ox:∀(K K':AS->StateT SortSt Sem (Option Nat)) m q ys,(∀m st,Q (some m) st->wpS (model prog w) A E s (K (none,m)) Q st)->(∀m st,Q (some m) st->wpS (model prog w) A E s (K' (none,m)) Q st)->Fx lo (lo+M8) (arrOf st) ys->1<=m->m<=M8->Si lt ys lo (lo+m)->q+1<=m->(∀i j,lo+m - (q+1)<=i->i<=j->j<lo+m->lt (X ys j) (X ys i)=false)->wpS (model prog w) A E s (if q>0 then do
   reverseSlice' (lo+m - (q+1)) (lo+m)
   reverseSlice' lo (lo+m)
   let c<-forIn [m:M8] ((none,m):AS) (G5 lo)
   K c
  else do
   reverseSlice' lo (lo+m)
   let c<-forIn [m:M8] ((none,m):AS) (G5 lo)
   K' c) Q (setArr st ys):=λK K' m q ys hK hK' fy m1 m2 hm hq he=>by
  have hz:ys.size=a₀.size:=(b.set fy.1).sz;split
  .have f2:Fx lo (lo+M8) ys (mirror ys (lo+m - (q+1)) (lo+m) ((lo+m - (lo+m - (q+1))) / 2)):=.mi (by lia) (by lia) (by lia);exact br (Cd (fin K m _ hK (fy.trans f2) (by lia) m2 λi j hi NF hj=>Si.mi o hm (by lia) hq he i j NF hi hj))
  .exact fin K' m ys hK' fy (by lia) m2 hm
 have dsc:∀(K:DS->StateT SortSt Sem (Option Nat)) n xs,(∀m q ys,Fx lo (lo+M8) (arrOf st) ys->1<=m->m<=M8->Si lt ys lo (lo+m)->q+1<=m->(∀i j,lo+m - (q+1)<=i->i<=j->j<lo+m->lt (X ys j) (X ys i)=false)->wpS (model prog w) A E s (K (none,m,q)) Q (setArr st ys))->Fx lo (lo+M8) (arrOf st) xs->n+1<=M8->Si lt xs lo (lo+n+1)->wpS (model prog w) A E s (do
   liftM (rule "list.sort.descending-run")
   let c<-forIn [n+1:M8] ((none,n+1,0):DS) (Il lo)
   K c) Q (setArr st xs):=λK n xs hK fx n2 hs=>
  br (g9 (dI ⟨rfl,br (J0 o C (b.set fx.1) (by lia) n2 hn hs λm q ys fy m1 m2 hm hq he=>hK m q ys (fx.trans fy) (by lia) m2 hm hq he)⟩))
 rw[countRun'_eq];refine br (Hk o C b (bw 1) h1 hn (So.one o) λn n1 n2 hs hor=>?_);dsimp only;by_cases hnn:n=M8
 .rw[bA (by simpa using hnn)];exact bu (h n _ .refl n1 n2 hs)
 rw[bv (by simpa using hnn)];have e:=hor.resolve_left hnn;split
 .refine br (wl C b (by lia) (by lia) ?_);dsimp only;cases er:lt (X (arrOf st) lo) (X (arrOf st) (lo+n - 1))with
  | true=>exact bu (h n _ .refl n1 n2 hs)
  | false=>
   have hz:=b.sz;have fx:Fx lo (lo+M8) (arrOf st) (mirror (arrOf st) lo (lo+n) ((lo+n - lo) / 2)):=.mi (by lia) (by lia) (by lia);have hsi:Si lt (mirror (arrOf st) lo (lo+n) ((lo+n - lo) / 2)) lo (lo+n+1):=Si.snoc o (λi j hi NF hj=>by
    rw[sN (by lia),sN (by lia),bA (by lia),bA (by lia)];exact hs _ _ (by lia) (by lia) (by lia)) λ_=>by
    rw[sN (by lia),sN (by lia),bA (by lia),bv (by lia),show lo+(lo+n) - 1 - (lo+n - 1)=lo by lia];exact o.tr _ _ _ (o.as _ _ e) er
   exact br (Cd (dsc _ n _ (λm q ys fy m1 m2 hm hq he=>Ox _ _ m q ys (λm st q=>bu q) (λm st q=>bu q) fy m1 m2 hm hq he) fx (by lia) hsi))
 .obtain rfl:n=1:=by lia
  exact dsc _ 1 _ (λm q ys fy m1 m2 hm hq he=>Ox _ _ m q ys (λm st q=>bu q) (λm st q=>bu q) fy m1 m2 hm hq he) .refl (by lia) (Si.snoc o (λi j hi NF hj=>(show i=j by lia) ▸ o.ir _) λ_=>o.as _ _ e)
def JV(o:Ord lt)(C:Cmp prog w A s κ lt P){st:SortSt}(b:Bs κ P a₀ st){lo n ok:Nat}{Q:Bool->SortSt->Prop}(hn:lo+n<=a₀.size)(h1:1<=ok)(h2:ok<=n)(hs:So lt (arrOf st) lo (lo+ok)) (h:∀xs,Fx lo (lo+n) (arrOf st) xs->So lt xs lo (lo+n)->Q true (setArr st xs)):wpS (model prog w) A E s (binarySort' lo n ok) Q st:=by
 rw[binarySort'_eq];refine br (d9 (cI (I:=λk c MY=>c=(none,())/\∃xs,MY=setArr st xs/\Fx lo (lo+n) (arrOf st) xs/\So lt xs lo (lo+min k n)) (Q:=λc MY=>c=(none,())/\∃xs,MY=setArr st xs/\Fx lo (lo+n) (arrOf st) xs/\So lt xs lo (lo+n)) ?_ ?_ ⟨rfl,_,rfl,.refl,?_⟩) ?_)
 .rintro k c _ hk1 N0 ⟨rfl,xs,rfl,fx,hs⟩
  rw[show min k n=k by lia]at hs;have b':Bs κ P a₀ (setArr st xs):=b.set fx.1;have hz:xs.size=a₀.size:=b'.sz;refine br (d9 (cI (I:=λx c P4=>P4=setArr st xs/\∃l r,c=(none,l,r)/\l<=r/\r<=k/\r - l<=k - x/\(∀i,i<l->lt (X xs (lo+k)) (X xs (lo+i))=false)/\(∀i,r<=i->i<k->lt (X xs (lo+k)) (X xs (lo+i))=true))
   (Q:=λc P4=>P4=setArr st xs/\∃l r,c=(none,l,r)/\l<=k/\(∀i,i<l->lt (X xs (lo+k)) (X xs (lo+i))=false)/\(∀i,l<=i->i<k->lt (X xs (lo+k)) (X xs (lo+i))=true)) ?_ ?_ ⟨rfl,0,k,rfl,by lia,by lia,by lia,λi hi=>by lia,λi h1 h2=>by lia⟩) ?_)
  .rintro x c _ _ hx ⟨rfl,l,r,rfl,hlr,hrk,hm,h3,h4⟩
   dsimp only;split
   .obtain rfl:l=r:=by lia
    exact bu ⟨rfl,l,l,rfl,hrk,h3,h4⟩
   .refine br (wl C b' (by lia) (by lia) ?_);dsimp only;cases e:lt (X xs (lo+k)) (X xs (lo+(l+r) / 2))with
    | true=>exact bu ⟨rfl,l,(l+r) / 2,rfl,by lia,by lia,by lia,h3,λi h5 h6=>o.ll e (hs _ _ (by lia) (by lia) (by lia))⟩
    | false=>exact bu ⟨rfl,(l+r) / 2+1,r,rfl,by lia,by lia,by lia,λi h5=>o.tr _ _ _ (hs _ _ (by lia) (by lia) (by lia)) e,h4⟩
  .rintro c _ ⟨rfl,l,r,rfl,hlr,hrk,hm,h3,h4⟩
   obtain rfl:l=r:=by lia
   exact⟨rfl,l,l,rfl,hrk,h3,h4⟩
  .rintro c _ ⟨rfl,l,r,rfl,hlk,h3,h4⟩
   refine br (J4 (bu ⟨rfl,_,rfl,fx.trans (.bub (by show _<xs.size;lia) (by lia) (by lia) (by lia)),?_⟩));rw[show min (k+1) n=k+1 by lia];intro i j hi NF hj;show lt (X (bubble xs _ _) j) (X (bubble xs _ _) i)=false;rw[Hi (by lia) (by lia),Hi (by lia) (by lia),show lo+k - (lo+k - (lo+l))=lo+l by lia];have g3:∀i,lo<=i->i<lo+l->lt (X xs (lo+k)) (X xs i)=false:=λi a b=>by have:=h3 (i - lo) (by lia);rwa [show lo+(i - lo)=i by lia]at this
   have g4:∀i,lo+l<=i->i<lo+k->lt (X xs (lo+k)) (X xs i)=true:=λi a b=>by have:=h4 (i - lo) (by lia) (by lia);rwa [show lo+(i - lo)=i by lia]at this
   repeat' split
   all_goals first
    | (exfalso;lia)
    | exact o.ir _
    | exact g3 _ hi (by lia)
    | exact o.as _ _ (g4 _ (by lia) (by lia))
    | exact hs _ _ (by lia) (by lia) (by lia)
 .rintro c _ ⟨rfl,xs,rfl,fx,hs⟩
  rw[show min (max (max ok 1) n) n=n by lia]at hs;exact⟨rfl,xs,rfl,fx,hs⟩
 .rw[show min (max ok 1) n=ok by lia];exact hs
 .rintro c _ ⟨rfl,xs,rfl,fx,hs⟩
  exact bu (h xs fx hs)
def BC:Bool->Keyed->Array Keyed->Nat->Nat->Nat->StateT SortSt Sem (Option Nat):=sortPriv% PySem.Builtin.gallop
def pK(lt:Keyed->Keyed->Bool)(left:Bool)(key x:Keyed):Bool:=if left=true then lt x key else !(lt key x)
def rB{xs:Array Keyed}{i:Nat}(h:i<xs.size):xs[i]?=some (X xs i)/\X xs i∈xs.toList:=by
 have e:xs[i]?=some xs[i]:=dG _ i h;have ex:X xs i=xs[i]:=by unfold X;rw[e];rfl
 rw[ex];exact⟨e,by simp⟩
def oY{st:SortSt}{xs:Array Keyed}{i:Nat}{Q:Keyed->SortSt->Prop}(h:i<xs.size)(q:Q (X xs i) st):wpS (model prog w) A E s (elem' xs i) Q st:=by rw[elem'_eq,(rB h).1];exact bu q
def Bo(C:Cmp prog w A s κ lt P){st:SortSt}(hk:kindOf st=κ){left:Bool}{key:Keyed}{xs:Array Keyed}{i:Nat}{Q:Option Bool->SortSt->Prop}(hi:i<xs.size)(hp:∀x∈xs.toList,P x)(hy:P key)(q:Q (some (pK lt left key (X xs i))) st):
  wpS (model prog w) A E s (elem' xs i>>=λx=>if left=true then lt' x key else lt' key x>>=λr=>pure (r.map λb=>!b)) Q st:=by
 refine br (oY hi ?_);have px:=hp _ (rB hi).2;unfold pK at q;cases left with
 | true=>exact z9 C hk px hy q
 | false=>exact br (z9 C hk hy px (bu q))
abbrev BS:=Option (Option Nat)×Nat×Nat
def Mt(left:Bool)(key:Keyed)(xs:Array Keyed)(base:Nat)(_:Nat)(c:BS):StateT SortSt Sem (ForInStep BS):=if c.2.1>=c.2.2 then pure (.done (none,c.2.1,c.2.2))else
 (elem' xs (base+(c.2.1+(c.2.2 - c.2.1) / 2))>>=λx=>if left=true then lt' x key else lt' key x>>=λr=>pure (r.map λb=>!b))>>=λx=>match x with
  | some more=>if more=true then pure (.yield (none,c.2.1+(c.2.2 - c.2.1) / 2+1,c.2.2))else pure (.yield (none,c.2.1,c.2.1+(c.2.2 - c.2.1) / 2))
  | _=>pure (.done (some none,c.2.1,c.2.2))
def JY(C:Cmp prog w A s κ lt P){st:SortSt}(hk:kindOf st=κ){left:Bool}{key:Keyed}{xs:Array Keyed}{base n:Nat}{Q:BS->SortSt->Prop}(hb:base+n<=xs.size)(hp:∀x∈xs.toList,P x)(hy:P key) (mono:∀i j,i<=j->j<n->pK lt left key (X xs (base+j))=true->pK lt left key (X xs (base+i))=true) (no:∀i j,i<=j->j<n->pK lt left key (X xs (base+i))=false->pK lt left key (X xs (base+j))=false) {lo hi:Nat} (h1:lo<=hi) (h2:hi<=n) (h3:∀i,i<lo->pK lt left key (X xs (base+i))=true) (h4:∀i,hi<=i->i<n->pK lt left key (X xs (base+i))=false) (h:∀k,k<=n->(∀i,i<n->pK lt left key (X xs (base+i))=decide (i<k))->Q (none,k,k) st):wpS (model prog w) A E s (forIn [:n] ((none,lo,hi):BS) (Mt left key xs base)) Q st:=by
 have fin:∀k,k<=n->(∀i,i<k->pK lt left key (X xs (base+i))=true)->(∀i,k<=i->i<n->pK lt left key (X xs (base+i))=false)->Q (none,k,k) st:=λk hk h3 h4=>h k hk λi hi=>by
  by_cases e:i<k
  .rw[h3 i e,bZ e]
  .rw[h4 i (by lia) hi,cB e]
 refine cI (I:=λx c MY=>MY=st/\∃lo hi,c=(none,lo,hi)/\lo<=hi/\hi<=n/\hi - lo<=n - x/\(∀i,i<lo->pK lt left key (X xs (base+i))=true)/\(∀i,hi<=i->i<n->pK lt left key (X xs (base+i))=false)) ?_ ?_ ⟨rfl,lo,hi,rfl,h1,h2,by lia,h3,h4⟩
 .rintro x c _ _ hx ⟨rfl,lo,hi,rfl,h1,h2,hm,h3,h4⟩
  unfold Mt;dsimp only;split
  .obtain rfl:lo=hi:=by lia
   exact bu (fin _ h2 h3 h4)
  .refine br (Bo C hk (by lia) hp hy ?_);dsimp only;cases e:pK lt left key (X xs (base+(lo+(hi - lo) / 2)))with
   | true=>exact bu ⟨rfl,_,hi,rfl,by lia,h2,by lia,λi hi=>mono _ _ (by lia) (by lia) e,h4⟩
   | false=>exact bu ⟨rfl,lo,_,rfl,by lia,by lia,by lia,h3,λi h5 h6=>no _ _ h5 h6 e⟩
 .rintro c _ ⟨rfl,lo,hi,rfl,h1,h2,hm,h3,h4⟩
  obtain rfl:lo=hi:=by lia
  exact fin _ h2 h3 h4
def uP(C:Cmp prog w A s κ lt P){st:SortSt}(hk:kindOf st=κ){left:Bool}{key:Keyed}{xs:Array Keyed}{base n Nm:Nat}{Q:Option Nat->SortSt->Prop}(hb:base+n<=xs.size)(hp:∀x∈xs.toList,P x)(hy:P key)(hh:Nm<n) (mono:∀i j,i<=j->j<n->pK lt left key (X xs (base+j))=true->pK lt left key (X xs (base+i))=true) (h:∀k,k<=n->(∀i,i<n->pK lt left key (X xs (base+i))=decide (i<k))->Q (some k) st):wpS (model prog w) A E s (BC left key xs base n Nm) Q st:=by
 unfold BC;have no:∀i j,i<=j->j<n->pK lt left key (X xs (base+i))=false->pK lt left key (X xs (base+j))=false:=λi j h1 h2 h3=>by
  cases e:pK lt left key (X xs (base+j))with
  | false=>rfl
  | true=>exact((mono i j h1 h2 e).symm.trans h3)
 refine br (Bo C hk (by lia) hp hy ?_);dsimp only;cases e:pK lt left key (X xs (base+Nm))with
 | true=>
  rw[bA rfl];refine br (d9 (cI (I:=λx c MY=>MY=st/\∃la of,c=(none,la,of)/\pK lt left key (X xs (base+(Nm+la)))=true/\Nm+la<n/\la<of/\x+1<=of) (Q:=λc MY=>MY=st/\∃la of,c=(none,la,of)/\pK lt left key (X xs (base+(Nm+la)))=true/\Nm+la<n/\la<of/\(n - Nm<=of\/(Nm+of<n/\pK lt left key (X xs (base+(Nm+of)))=false))) ?_ ?_ ⟨rfl,0,1,rfl,e,hh,by lia,by lia⟩) ?_)
  .rintro x c _ _ hx ⟨rfl,la,of,rfl,h1,h2,h3,h4⟩
   dsimp only;split
   .exact bu ⟨rfl,la,of,rfl,h1,h2,h3,.inl (by lia)⟩
   .refine br (Bo C hk (by lia) hp hy ?_);dsimp only;cases e2:pK lt left key (X xs (base+(Nm+of)))with
    | true=>exact bu ⟨rfl,of,2*of+1,rfl,e2,by lia,by lia,by lia⟩
    | false=>exact bu ⟨rfl,la,of,rfl,h1,h2,h3,.inr ⟨by lia,e2⟩⟩
  .rintro c _ ⟨rfl,la,of,rfl,h1,h2,h3,h4⟩
   exact⟨rfl,la,of,rfl,h1,h2,h3,.inl (by lia)⟩
  .rintro c _ ⟨rfl,la,of,rfl,h1,h2,h3,h4⟩
   dsimp only;refine br (JY C hk hb hp hy mono no (by lia) (by lia) (λi hi=>mono i _ (by lia) h2 h1) (λi h5 h6=>?_) λk k1 k2=>bu (h k k1 k2));rcases h4 with h4|⟨h4,h7⟩
   .omega
   .exact no _ _ (by lia) h6 h7
 | false=>
  rw[bv (by exact Bool.noConfusion)];refine br (d9 (cI (I:=λx c MY=>MY=st/\∃la of,c=(none,la,of)/\pK lt left key (X xs (base+(Nm - la)))=false/\la<=Nm/\la<of/\x+1<=of) (Q:=λc MY=>MY=st/\∃la of,c=(none,la,of)/\pK lt left key (X xs (base+(Nm - la)))=false/\la<=Nm/\la<of/\(Nm+1<=of\/(of<=Nm/\pK lt left key (X xs (base+(Nm - of)))=true))) ?_ ?_ ⟨rfl,0,1,rfl,e,by lia,by lia,by lia⟩) ?_)
  .rintro x c _ _ hx ⟨rfl,la,of,rfl,h1,h2,h3,h4⟩
   dsimp only;split
   .exact bu ⟨rfl,la,of,rfl,h1,h2,h3,.inl (by lia)⟩
   .refine br (Bo C hk (by lia) hp hy ?_);dsimp only;cases e2:pK lt left key (X xs (base+(Nm - of)))with
    | true=>exact bu ⟨rfl,la,of,rfl,h1,h2,h3,.inr ⟨by lia,e2⟩⟩
    | false=>exact bu ⟨rfl,of,2*of+1,rfl,e2,by lia,by lia,by lia⟩
  .rintro c _ ⟨rfl,la,of,rfl,h1,h2,h3,h4⟩
   exact⟨rfl,la,of,rfl,h1,h2,h3,.inl (by lia)⟩
  .rintro c _ ⟨rfl,la,of,rfl,h1,h2,h3,h4⟩
   dsimp only;refine br (JY C hk hb hp hy mono no (by lia) (by lia) (λi hi=>?_) (λi h5 h6=>no _ _ h5 h6 h1) λk k1 k2=>bu (h k k1 k2));rcases h4 with h4|⟨h4,h7⟩
   .omega
   .exact mono _ _ (by lia) (by lia) h7
def zV:Array Keyed->Array Keyed->StateT SortSt Sem (Array Keyed):=sortPriv% PySem.Builtin.mergeLo
abbrev sG(st:SortSt)(g:Nat):SortSt:=SortSt.mk' (kindOf st) (arrOf st) (pendingOf st) g (failedOf st)
abbrev Sl(lt:Keyed->Keyed->Bool)(l:T0 Keyed):Prop:=l.Pairwise λx y=>lt y x=false
def nw{α:Type}{st:SortSt}{c:Prop}[Decidable c]{t e:StateT SortSt Sem α}{Q:α->SortSt->Prop}(ht:c->wpS (model prog w) A E s t Q st)(he:¬c->wpS (model prog w) A E s e Q st):wpS (model prog w) A E s (if c then t else e) Q st:=by
 split
 .exact ht ‹_›
 .exact he ‹_›
structure MI(lt:Keyed->Keyed->Bool)(c out α β:List Keyed):Prop where
 p:(out++(α++β)).Perm c
 so:Sl lt out
 sa:Sl lt α
 sb:Sl lt β
 le:∀x∈out,∀y∈α++β,lt y x=false
def MI.ta{c out u α β:T0 Keyed}(m:MI lt c out (u++α) β)(h:∀x∈u,∀y∈β,lt y x=false):MI lt c (out++u) α β:=by
 obtain⟨s1,s2,s3⟩:=gQ.mp m.sa;refine⟨by simpa using m.p,gQ.mpr ⟨m.so,s1,λx hx y hy=>m.le x hx y (by simp[hy])⟩,s2,m.sb,λx hx y hy=>?_⟩;rcases bT.mp hx with hx|hx
 .exact m.le x hx y (by rcases bT.mp hy with z|z<;>simp[z])
 .rcases bT.mp hy with z|z
  .exact s3 x hx y z
  .exact h x hx y z
def MI.swap{c out α β:T0 Keyed}(m:MI lt c out α β):MI lt c out β α:=⟨(jb out jc).trans m.p,m.so,m.sb,m.sa,λx hx y hy=>m.le x hx y (by simpa [or_comm]using hy)⟩
def MI.tb{c out u α β:T0 Keyed}(m:MI lt c out α (u++β))(h:∀x∈u,∀y∈α,lt y x=false):MI lt c (out++u) α β:=(m.swap.ta h).swap
def MI.fin{c out α:T0 Keyed}(m:MI lt c out α []):(out++α).Perm c/\Sl lt (out++α):=⟨by simpa using m.p,gQ.mpr ⟨m.so,m.sa,λx hx y hy=>m.le x hx y (by simp[hy])⟩⟩
def xJ(a:Array Keyed)(i:Nat):(a.extract i a.size).toList=a.toList.drop i:=by simp[cV];exact fm (by simp)
def HC(a:Array Keyed)(i k:Nat):(a.extract i (i+k)).toList=(a.toList.drop i).take k:=by simp[cV]
def vO{a:Array Keyed}{i:Nat}(h:i<a.size):a.toList.drop i=X a i::a.toList.drop (i+1):=by
 have e:X a i=a[i]:=by unfold X;rw[dG a i h];rfl
 rw[dh (by simpa using h),e];simp
def FH{a:Array Keyed}{i k:Nat}{x:Keyed}(h:x∈(a.toList.drop i).take k):∃j,j<k/\i+j<a.size/\x=X a (i+j):=by obtain⟨j,hj,e⟩:=fR h;rw[df,fL,bX]at hj;refine⟨j,by lia,by lia,?_⟩;rw[jS,jT]at e;rw[<-e];unfold X;rw[dG a (i+j) (by lia)];simp
def Sl.x{a:Array Keyed}(s:Sl lt a.toList)(o:Ord lt){i j:Nat}(h:i<=j)(hj:j<a.size):lt (X a j) (X a i)=false:=by
 by_cases e:i=j
 .subst e;exact o.ir _
 .have:=di.mp s i j (by simp;lia) (by simpa using hj) (by lia);unfold X;rw[dG a i (by lia),dG a j hj]
  simpa using this
def Fin(lt:Keyed->Keyed->Bool)(a b r:Array Keyed):Prop:=r.toList.Perm (a.toList++b.toList)/\Sl lt r.toList
abbrev J(lt:Keyed->Keyed->Bool)(a b out:Array Keyed)(ia ib:Nat):Prop:=MI lt (a.toList++b.toList) out.toList (a.toList.drop ia) (b.toList.drop ib)
def J.hb(m:J lt a b out ia ib)(o:Ord lt)(h:ib<b.size):∀y∈b.toList.drop ib,lt y (X b ib)=false:=λy hy=>by
 have s:=m.sb;rw[vO h]at s hy;rcases bq.mp hy with rfl|hy
 .exact o.ir _
 .exact(jH.mp s).1 y hy
def J.ha(m:J lt a b out ia ib)(o:Ord lt)(h:ia<a.size):∀y∈a.toList.drop ia,lt y (X a ia)=false:=λy hy=>by
 have s:=m.sa;rw[vO h]at s hy;rcases bq.mp hy with rfl|hy
 .exact o.ir _
 .exact(jH.mp s).1 y hy
def J.ak(m:J lt a b out ia ib)(o:Ord lt)(h2:ib<b.size)(h:∀i,i<k->ia+i<a.size->lt (X b ib) (X a (ia+i))=false):J lt a b (out++a.extract ia (ia+k)) (ia+k) ib:=by
 have hb:=m.hb o h2;have m:MI lt (a.toList++b.toList) out.toList ((a.toList.drop ia).take k++(a.toList.drop ia).drop k) (b.toList.drop ib):=by rw[dt];exact m
 have m2:=m.ta λx hx y hy=>by obtain⟨j,h3,h4,rfl⟩:=FH hx;exact o.tr _ _ _ (h j h3 h4) (hb y hy)
 rw[hG]at m2;unfold J;rw[bU,HC];exact m2
def J.bk(m:J lt a b out ia ib)(o:Ord lt)(h2:ia<a.size)(h:∀i,i<k->ib+i<b.size->lt (X b (ib+i)) (X a ia)=true):J lt a b (out++b.extract ib (ib+k)) ia (ib+k):=by
 have ha:=m.ha o h2;have m:MI lt (a.toList++b.toList) out.toList (a.toList.drop ia) ((b.toList.drop ib).take k++(b.toList.drop ib).drop k):=by rw[dt];exact m
 have m2:=m.tb λx hx y hy=>by obtain⟨j,h3,h4,rfl⟩:=FH hx;exact o.as _ _ (o.ll (h j h3 h4) (ha y hy))
 rw[hG]at m2;unfold J;rw[bU,HC];exact m2
def J.a1(m:J lt a b out ia ib)(o:Ord lt)(h1:ia<a.size)(h2:ib<b.size)(h:lt (X b ib) (X a ia)=false):J lt a b (out.push (X a ia)) (ia+1) ib:=by have hb:=m.hb o h2;unfold J at m;rw[vO h1]at m;unfold J;rw[cX];exact MI.ta (u:=[X a ia]) m λx hx y hy=>by rw[bK.mp hx];exact o.tr _ _ _ h (hb y hy)
def J.b1(m:J lt a b out ia ib)(o:Ord lt)(h1:ia<a.size)(h2:ib<b.size)(h:lt (X b ib) (X a ia)=true):J lt a b (out.push (X b ib)) ia (ib+1):=by have ha:=m.ha o h1;unfold J at m;rw[vO h2]at m;unfold J;rw[cX];exact MI.tb (u:=[X b ib]) m λx hx y hy=>by rw[bK.mp hx];exact o.as _ _ (o.ll h (ha y hy))
def J.fb(m:J lt a b out ia ib)(h:ib=b.size):Fin lt a b (out++a.extract ia a.size++b.extract ib b.size):=by
 subst h;unfold J at m;have e:b.toList.drop b.size=[]:=by simp
 rw[e]at m;unfold Fin;rw[bU,bU,xJ,xJ,e,b5];exact m.fin
def J.fa(m:J lt a b out ia ib)(h:ia=a.size):Fin lt a b (out++a.extract ia a.size++b.extract ib b.size):=by
 subst h;unfold J at m;have e:a.toList.drop a.size=[]:=by simp
 rw[e]at m;unfold Fin;rw[bU,bU,xJ,xJ,e,b5];exact m.swap.fin
def J.fl(m:J lt a b out ia ib)(o:Ord lt)(h:ia+1=a.size)(h2:∀y∈b.toList,lt y (X a (a.size - 1))=true):Fin lt a b (out++b.extract ib b.size++a.extract ia a.size):=by
 unfold J at m;have e:a.toList.drop ia=[X a ia]:=by rw[vO (by lia),h];simp
 rw[e]at m;unfold Fin;rw[bU,bU,xJ,xJ,e];have m2:MI lt (a.toList++b.toList) out.toList [X a ia] (b.toList.drop ib++[]):=by rw[b5];exact m
 have:=(m2.tb λx hx y hy=>by
  rw[bK.mp hy,show ia=a.size - 1 by lia];exact o.as _ _ (h2 x (List.mem_of_mem_drop hx))).fin
 exact this
def Ord.me{lt:Keyed->Keyed->Bool}(o:Ord lt){a b c:Keyed}(h:lt b a=false)(g:lt b c=true):lt a c=true:=by
 cases e:lt a c with
 | true=>rfl
 | false=>exact((o.tr _ _ _ e h).symm.trans g)
def IB{xs:Array Keyed}{lo hi:Nat}(s:So lt xs lo hi)(o:Ord lt){key:Keyed}{i j:Nat}(hl:lo<=i)(h:i<=j)(hj:j<hi)(g:pK lt false key (X xs j)=true):pK lt false key (X xs i)=true:=by have g:(!(lt key (X xs j)))=true:=g;show(!(lt key (X xs i)))=true;rw[o.tr _ _ _ (s i j hl h hj) (by simpa using g)];rfl
def Jq{xs:Array Keyed}{lo hi:Nat}(s:So lt xs lo hi)(o:Ord lt){key:Keyed}{i j:Nat}(hl:lo<=i)(h:i<=j)(hj:j<hi)(g:pK lt true key (X xs j)=true):pK lt true key (X xs i)=true:=o.me (s i j hl h hj) g
def Hl{a:Array Keyed}(s:Sl lt a.toList)(o:Ord lt){key:Keyed}{i j:Nat}(h:i<=j)(hj:j<a.size)(g:pK lt false key (X a j)=true):pK lt false key (X a i)=true:=by have g:(!(lt key (X a j)))=true:=g;show(!(lt key (X a i)))=true;rw[o.tr _ _ _ (s.x o h hj) (by simpa using g)];rfl
def Ci{a:Array Keyed}(s:Sl lt a.toList)(o:Ord lt){key:Keyed}{i j:Nat}(h:i<=j)(hj:j<a.size)(g:pK lt true key (X a j)=true):pK lt true key (X a i)=true:=o.me (s.x o h hj) g
def FQ{st MY:SortSt}{Q:PUnit->SortSt->Prop}(h:Q ⟨⟩ MY):wpS (model prog w) A E s (set MY:StateT SortSt Sem PUnit) Q st:=by unfold wpS;rw[StateT.run_set];exact bj ⟨rfl,h⟩
def JO(o:Ord lt)(C:Cmp prog w A s κ lt P){st:SortSt}(hk:kindOf st=κ){a b:Array Keyed}{Q:Array Keyed->SortSt->Prop}(ha:1<=a.size)(hb:1<=b.size)(sa:Sl lt a.toList)(sb:Sl lt b.toList)(pa:∀x∈a.toList,P x)(pb:∀x∈b.toList,P x) (h1:∀x∈a.toList,lt (X b 0) x=true) (h2:∀y∈b.toList,lt y (X a (a.size - 1))=true) (h:∀out g,Fin lt a b out->Q out (sG st g)):wpS (model prog w) A E s (zV a b) Q st:=by
 have N0:∀g,kindOf (sG st g)=κ:=λ_=>hk;have j0:J lt a b #[X b 0] 0 1:=by have m:J lt a b #[] 0 0:=⟨by simp,.nil,by simpa using sa,by simpa using sb,λx hx=>by simp at hx⟩;exact m.b1 o (by lia) (by lia) (h1 _ (rB (by lia)).2)
 unfold zV;refine br (g9 (dI ⟨rfl,?_⟩));refine br (oY (by lia) ?_);refine nw (λg=>bu (h _ (gallopOf st) (j0.fb (by simpa using g)))) (λg=>?_);refine nw (λg'=>bu (h _ (gallopOf st) (j0.fl o (by simpa using g') h2))) (λg'=>?_);have g:1≠b.size:=by simpa using g
 have g':1≠a.size:=by simpa using g'
 refine br (eV ?_);refine br (d9 (cI (I:=λx c MY=>∃g out ia ib mg,MY=sG st g/\c=(none,out,ia,ib,mg)/\J lt a b out ia ib/\ib<b.size/\ia+1<a.size/\x+1<=ia+ib) (Q:=λc MY=>∃g r d,MY=sG st g/\c=(some r,d)/\Fin lt a b r) ?_ ?_ ⟨gallopOf st,_,0,1,_,rfl,rfl,j0,by lia,by lia,by lia⟩) ?_)
 .clear g g' j0
  rintro x c _ _ hx ⟨g,out,ia,ib,mg,rfl,rfl,j,hib,hia,hs⟩
  refine br (d9 (cI (I:=λy d MY=>MY=sG st g/\∃out i j ac bc,d=(none,out,i,j,ac,bc)/\J lt a b out i j/\j<b.size/\i+1<a.size/\ia+ib+y<=i+j) (Q:=λd MY=>MY=sG st g/\((∃r e,d=(some r,e)/\Fin lt a b r)\/∃out i j ac bc,d=(none,out,i,j,ac,bc)/\J lt a b out i j/\j<b.size/\i+1<a.size/\ia+ib+1<=i+j)) ?_ ?_ ⟨rfl,out,ia,ib,0,0,rfl,j,hib,hia,by lia⟩) ?_)
  .clear j hib hia
   rintro y d _ _ hy ⟨rfl,out,i,j,ac,bc,rfl,m,hj,hi,hs⟩
   refine br (oY (by show j<_;lia) (br (oY (by show i<_;lia) (br (z9 (st:=sG st g) C hk (pb _ (rB (by show j<_;lia)).2) (pa _ (rB (by show i<_;lia)).2) ?_)))));cases e:lt (X b j) (X a i)with
   | true=>
    refine nw (λ_=>?_) (λz=>absurd rfl z);have m1:=m.b1 o (by lia) hj e;refine br (oY (by show j<_;lia) ?_);refine nw (λz=>bu ⟨rfl,.inl ⟨_,_,rfl,m1.fb (by simpa using z)⟩⟩) (λz=>?_);have z:j+1≠b.size:=by simpa using z
    exact nw (λ_=>bu ⟨rfl,.inr ⟨_,i,j+1,_,_,rfl,m1,by lia,hi,by lia⟩⟩) (λ_=>bu ⟨rfl,_,i,j+1,_,_,rfl,m1,by lia,hi,by lia⟩)
   | false=>
    refine nw (λz=>absurd z (by exact Bool.noConfusion)) (λ_=>?_);have m1:=m.a1 o (by lia) hj e;refine br (oY (by show i<_;lia) ?_);refine nw (λz=>bu ⟨rfl,.inl ⟨_,_,rfl,m1.fl o (by simpa using z) h2⟩⟩) (λz=>?_);have z:i+1+1≠a.size:=by simpa using z
    exact nw (λ_=>bu ⟨rfl,.inr ⟨_,i+1,j,_,_,rfl,m1,hj,by lia,by lia⟩⟩) (λ_=>bu ⟨rfl,_,i+1,j,_,_,rfl,m1,hj,by lia,by lia⟩)
  .rintro d _ ⟨rfl,out,i,j,ac,bc,rfl,m,hj,hi,hs⟩
   exact⟨rfl,.inr ⟨_,_,_,_,_,rfl,m,hj,hi,by lia⟩⟩
  .rintro d _ ⟨rfl,⟨r,e,rfl,hr⟩|⟨out,i,j,ac,bc,rfl,m,hj,hi,NB⟩⟩
   .exact bu ⟨g,r,_,rfl,rfl,hr⟩
   .refine br (g9 (dI ⟨rfl,?_⟩));refine br (d9 (cI (I:=λy d MY=>∃g,MY=sG st g/\∃out i j mg ac bc,d=(none,out,i,j,mg,ac,bc)/\J lt a b out i j/\j<b.size/\i+1<a.size/\ia+ib+1<=i+j) (Q:=λd MY=>∃g,MY=sG st g/\((∃r e,d=(some r,e)/\Fin lt a b r)\/∃out i j mg ac bc,d=(none,out,i,j,mg,ac,bc)/\J lt a b out i j/\j<b.size/\i+1<a.size/\ia+ib+1<=i+j)) ?_ ?_ ⟨g,rfl,out,i,j,mg+1,ac,bc,rfl,m,hj,hi,NB⟩) ?_)
    .clear m hj hi NB
     rintro y d _ _ hy ⟨g,rfl,out,i,j,mg,ac,bc,rfl,m,hj,hi,NB⟩
     refine nw (λ_=>?_) (λ_=>?_)
     all_goals
      refine br (dC (br (oY hj (br (uP C (N0 _) (by show i+(a.size - i)<=a.size;lia) pa (pb _ (rB hj).2) (by show 0<a.size - i;lia) (λt u h1 h2 h3=>Hl sa o (by lia) (by have h2:u<a.size - i:=h2;show i+u<_;lia) h3) λk k1 k2=>?_)))));have kf:∀t,t<k->i+t<a.size->lt (X b j) (X a (i+t))=false:=λt ht h=>by simpa [pK,ht]using k2 t (by show t<a.size - i;lia)
      have kt:i+k<a.size->lt (X b j) (X a (i+k))=true:=λh=>by simpa [pK]using k2 k (by show k<a.size - i;lia)
      have k1:k<=a.size - i:=k1;refine nw (λk0=>?_) (λk0=>?_)
      .have m1:=m.ak o hj kf;refine nw (λz=>bu ⟨_,rfl,.inl ⟨_,_,rfl,m1.fl o (by simpa using z) h2⟩⟩) (λz=>nw (λz2=>bu ⟨_,rfl,.inl ⟨_,_,rfl,m1.fa (by simpa using z2)⟩⟩) (λz2=>?_));have b1:i+k+1<a.size:=by
        have z:i+k+1≠a.size:=by simpa using z
        have z2:i+k≠a.size:=by simpa using z2
        lia
       have e1:=kt (by lia);have s1:ia+ib+1<=i+k+j:=by lia
       refine br (oY hj ?_);have m2:=m1.b1 o (ce b1) hj e1;refine nw (λz=>bu ⟨_,rfl,.inl ⟨_,_,rfl,m2.fb (by simpa using z)⟩⟩) (λz=>?_);have Pi:j+1<b.size:=by
        have z:j+1≠b.size:=by simpa using z
        lia
       refine br (oY (ce b1) (br (uP C (N0 _) (by show j+1+(b.size - (j+1))<=b.size;lia) pb (pa _ (rB (ce b1)).2) (by show 0<b.size - (j+1);lia) (λt u h1 h2 h3=>Ci sb o (by lia) (by have h2:u<b.size - (j+1):=h2;show j+1+u<_;lia) h3) λl l1 l2=>?_)));have m3:=m2.bk (k:=l) o (ce b1) λt ht h=>by simpa [pK,ht]using l2 t (by show t<b.size - (j+1);lia)
       have lf:=λh:j+1+l<b.size=>l2 l (by show l<b.size - (j+1);lia);refine nw (λl0=>?_) (λl0=>?_)
       .refine nw (λz=>bu ⟨_,rfl,.inl ⟨_,_,rfl,m3.fb (by simpa using z)⟩⟩) (λz=>?_);have Oz:j+1+l<b.size:=by
         have z:j+1+l≠b.size:=by simpa using z
         have l1:l<=b.size - (j+1):=l1;lia
        refine br (oY (ce b1) ?_);have m4:=m3.a1 o (ce b1) Oz (by simpa [pK]using lf Oz);refine nw (λz=>bu ⟨_,rfl,.inl ⟨_,_,rfl,m4.fl o (by simpa using z) h2⟩⟩) (λz=>?_);have b2:=gg b1 (by simpa using z);exact nw (λ_=>bu ⟨_,rfl,.inr ⟨_,_,_,_,_,_,rfl,m4,Oz,b2,by(try dsimp only);lia⟩⟩) (λ_=>bu ⟨_,rfl,_,_,_,_,_,_,rfl,m4,Oz,b2,by(try dsimp only);lia⟩)
       .obtain rfl:l=0:=by lia
        refine br (oY (ce b1) ?_);have m4:=m2.a1 o (ce b1) Pi (by simpa [pK]using lf Pi);refine nw (λz=>bu ⟨_,rfl,.inl ⟨_,_,rfl,m4.fl o (by simpa using z) h2⟩⟩) (λz=>?_);have b2:=gg b1 (by simpa using z);exact nw (λ_=>bu ⟨_,rfl,.inr ⟨_,_,_,_,_,_,rfl,m4,Pi,b2,by(try dsimp only);lia⟩⟩) (λ_=>bu ⟨_,rfl,_,_,_,_,_,_,rfl,m4,Pi,b2,by(try dsimp only);lia⟩)
      .obtain rfl:k=0:=by lia
       have m1:=m;have b1:=hi;have e1:=kt (by lia);have s1:=NB;refine br (oY hj ?_);have m2:=m1.b1 o (ce b1) hj e1;refine nw (λz=>bu ⟨_,rfl,.inl ⟨_,_,rfl,m2.fb (by simpa using z)⟩⟩) (λz=>?_);have Pi:j+1<b.size:=by
        have z:j+1≠b.size:=by simpa using z
        lia
       refine br (oY (ce b1) (br (uP C (N0 _) (by show j+1+(b.size - (j+1))<=b.size;lia) pb (pa _ (rB (ce b1)).2) (by show 0<b.size - (j+1);lia) (λt u h1 h2 h3=>Ci sb o (by lia) (by have h2:u<b.size - (j+1):=h2;show j+1+u<_;lia) h3) λl l1 l2=>?_)));have m3:=m2.bk (k:=l) o (ce b1) λt ht h=>by simpa [pK,ht]using l2 t (by show t<b.size - (j+1);lia)
       have lf:=λh:j+1+l<b.size=>l2 l (by show l<b.size - (j+1);lia);refine nw (λl0=>?_) (λl0=>?_)
       .refine nw (λz=>bu ⟨_,rfl,.inl ⟨_,_,rfl,m3.fb (by simpa using z)⟩⟩) (λz=>?_);have Oz:j+1+l<b.size:=by
         have z:j+1+l≠b.size:=by simpa using z
         have l1:l<=b.size - (j+1):=l1;lia
        refine br (oY (ce b1) ?_);have m4:=m3.a1 o (ce b1) Oz (by simpa [pK]using lf Oz);refine nw (λz=>bu ⟨_,rfl,.inl ⟨_,_,rfl,m4.fl o (by simpa using z) h2⟩⟩) (λz=>?_);have b2:=gg b1 (by simpa using z);exact nw (λ_=>bu ⟨_,rfl,.inr ⟨_,_,_,_,_,_,rfl,m4,Oz,b2,by(try dsimp only);lia⟩⟩) (λ_=>bu ⟨_,rfl,_,_,_,_,_,_,rfl,m4,Oz,b2,by(try dsimp only);lia⟩)
       .obtain rfl:l=0:=by lia
        refine br (oY (ce b1) ?_);have m4:=m2.a1 o (ce b1) Pi (by simpa [pK]using lf Pi);refine nw (λz=>bu ⟨_,rfl,.inl ⟨_,_,rfl,m4.fl o (by simpa using z) h2⟩⟩) (λz=>?_);have b2:=gg b1 (by simpa using z);exact nw (λ_=>bu ⟨_,rfl,.inr ⟨_,_,_,_,_,_,rfl,m4,Pi,b2,by(try dsimp only);lia⟩⟩) (λ_=>bu ⟨_,rfl,_,_,_,_,_,_,rfl,m4,Pi,b2,by(try dsimp only);lia⟩)
    .rintro d _ ⟨g,rfl,out,i,j,mg,ac,bc,rfl,m,hj,hi,NB⟩
     exact⟨g,rfl,.inr ⟨_,_,_,_,_,_,rfl,m,hj,hi,NB⟩⟩
    .rintro d _ ⟨g,rfl,⟨r,e,rfl,hr⟩|⟨out,i,j,mg,ac,bc,rfl,m,hj,hi,NB⟩⟩
     .exact bu ⟨g,r,_,rfl,rfl,hr⟩
     .exact br (dC (bu ⟨_,out,i,j,_,rfl,rfl,m,hj,hi,by lia⟩))
 .rintro c _ ⟨g,out,ia,ib,mg,rfl,rfl,j,hib,hia,hs⟩
  lia
 .rintro c _ ⟨g,r,d,rfl,rfl,hr⟩
  exact bu (h r g hr)
abbrev dl(lt:Keyed->Keyed->Bool):Keyed->Keyed->Bool:=λx y=>lt y x
def Fd{a:Array Keyed}{n:Nat}(h:n<a.size):(a.toList.take (n+1)).reverse=X a n::(a.toList.take n).reverse:=by
 rw[fu,dZ];have:a.toList[n]?=some (X a n):=by rw[ci];exact(rB h).1
 rw[this];rfl
def zX{a:Array Keyed}{n:Nat}{x:Keyed}(h:x∈a.toList.take n):∃i,i<n/\i<a.size/\x=X a i:=by obtain⟨i,h1,h2,h3⟩:=FH (i:=0) (k:=n) (by simpa using h);exact⟨i,h1,by lia,by rw[h3,gN]⟩
def Kw{a:Array Keyed}{n k:Nat}{x:Keyed}(h:x∈(a.toList.take n).drop k):∃i,k<=i/\i<n/\i<a.size/\x=X a i:=by obtain⟨i,hi,e⟩:=fR h;rw[fL,df,bX]at hi;refine⟨k+i,by lia,by lia,by lia,?_⟩;rw[jT,jS]at e;rw[<-e];unfold X;rw[dG a (k+i) (by lia)];simp
abbrev H(lt:Keyed->Keyed->Bool)(a b out:Array Keyed)(na nb:Nat):Prop:=MI (dl lt) (a.toList++b.toList) out.toList (a.toList.take na).reverse (b.toList.take nb).reverse
def H.a1(m:H lt a b out (na+1) nb)(h:na<a.size)(g:∀i,i<nb->i<b.size->lt (X a na) (X b i)=false):H lt a b (out.push (X a na)) na nb:=by unfold H at m ⊢;rw[Fd h]at m;rw[cX];exact MI.ta (u:=[X a na]) m λx hx y hy=>by rw[bK.mp hx];obtain⟨i,h1,h2,rfl⟩:=zX (dP.mp hy);exact g i h1 h2
def H.b1(m:H lt a b out na (nb+1))(h:nb<b.size)(g:∀i,i<na->i<a.size->lt (X b nb) (X a i)=false):H lt a b (out.push (X b nb)) na nb:=by unfold H at m ⊢;rw[Fd h]at m;rw[cX];exact MI.tb (u:=[X b nb]) m λx hx y hy=>by rw[bK.mp hx];obtain⟨i,h1,h2,rfl⟩:=zX (dP.mp hy);exact g i h1 h2
def Fs(l:T0 Keyed){k n:Nat}(h:k<=n):(l.take n).reverse=((l.take n).drop k).reverse++(l.take k).reverse:=by rw[<-dZ];congr 1;rw[show l.take k=(l.take n).take k by rw[List.take_take,gR h],dt]
def Hn(a:Array Keyed)(k n:Nat):((a.extract k n).reverse).toList=((a.toList.take n).drop k).reverse:=by rw[fO,fP,cV,List.drop_take]
def H.ak(m:H lt a b out na nb)(h:k<=na)(g:∀i j,k<=i->i<na->i<a.size->j<nb->j<b.size->lt (X a i) (X b j)=false):H lt a b (out++(a.extract k na).reverse) k nb:=by unfold H at m ⊢;rw[Fs _ h]at m;rw[bU,Hn];exact m.ta λx hx y hy=>by obtain⟨i,h1,h2,h3,rfl⟩:=Kw (dP.mp hx);obtain⟨j,h4,h5,rfl⟩:=zX (dP.mp hy);exact g i j h1 h2 h3 h4 h5
def H.bk(m:H lt a b out na nb)(h:k<=nb)(g:∀i j,k<=i->i<nb->i<b.size->j<na->j<a.size->lt (X b i) (X a j)=false):H lt a b (out++(b.extract k nb).reverse) na k:=by unfold H at m ⊢;rw[Fs _ h]at m;rw[bU,Hn];exact m.tb λx hx y hy=>by obtain⟨i,h1,h2,h3,rfl⟩:=Kw (dP.mp hx);obtain⟨j,h4,h5,rfl⟩:=zX (dP.mp hy);exact g i j h1 h2 h3 h4 h5
def yc{r:Array Keyed}{l:T0 Keyed}(e:r.toList=l.reverse)(h:l.Perm (a.toList++b.toList)/\Sl (dl lt) l):Fin lt a b r:=by unfold Fin;rw[e];exact⟨(iu l).trans h.1,gF.mpr h.2⟩
def xk(a:Array Keyed)(n:Nat):(a.extract 0 n).toList=a.toList.take n:=by simp[cV]
def H.fa(m:H lt a b out na nb)(h:na=0):Fin lt a b (a.extract 0 na++b.extract 0 nb++out.reverse):=by subst h;refine yc ?_ (MI.fin m.swap);rw[bU,bU,xk,xk,fO,dZ,fQ];rfl
def H.fb(m:H lt a b out na nb)(h:nb=0):Fin lt a b (a.extract 0 na++b.extract 0 nb++out.reverse):=by subst h;refine yc ?_ (MI.fin m);rw[bU,bU,xk,xk,fO,dZ,fQ];simp
def H.ff(m:H lt a b out na nb)(h:nb=1)(hb:1<=b.size)(h1:∀x∈a.toList,lt x (X b 0)=false):Fin lt a b (b.extract 0 nb++a.extract 0 na++out.reverse):=by
 subst h;have m2:MI (dl lt) (a.toList++b.toList) out.toList ((a.toList.take na).reverse++[]) (b.toList.take 1).reverse:=by rw[b5];exact m
 refine yc ?_ (MI.fin (m2.ta λx hx y hy=>?_).swap)
 .rw[bU,bU,xk,xk,fO,dZ,dZ,fQ,fQ];simp
 .obtain⟨i,i1,i2,rfl⟩:=zX (dP.mp hy);obtain rfl:i=0:=by lia
  exact h1 x (List.mem_of_mem_take (dP.mp hx))
def zG:Array Keyed->Array Keyed->StateT SortSt Sem (Array Keyed):=sortPriv% PySem.Builtin.mergeHi
def Kj(o:Ord lt)(C:Cmp prog w A s κ lt P){st:SortSt}(hk:kindOf st=κ){a b:Array Keyed}{Q:Array Keyed->SortSt->Prop}(ha:1<=a.size)(hb:1<=b.size)(sa:Sl lt a.toList)(sb:Sl lt b.toList)(pa:∀x∈a.toList,P x)(pb:∀x∈b.toList,P x) (h1:∀x∈a.toList,lt (X b 0) x=true) (h2:∀y∈b.toList,lt y (X a (a.size - 1))=true) (h:∀out g,Fin lt a b out->Q out (sG st g)):wpS (model prog w) A E s (zG a b) Q st:=by
 have N0:∀g,kindOf (sG st g)=κ:=λ_=>hk;have Oh:∀x∈a.toList,lt x (X b 0)=false:=λx hx=>o.as _ _ (h1 x hx);have j0:H lt a b #[X a (a.size - 1)] (a.size - 1) b.size:=by
  have m:H lt a b #[] (a.size - 1+1) b.size:=by have e1:a.toList.take (a.size - 1+1)=a.toList:=fm (by simp;lia);have e2:b.toList.take b.size=b.toList:=fm (by simp);unfold H;rw[e1,e2];exact⟨by simpa using(iu a.toList).append (iu b.toList),.nil,gF.mpr sa,gF.mpr sb,λx hx=>by simp at hx⟩
  exact m.a1 (by lia) λi _ hi=>o.as _ _ (h2 _ (rB hi).2)
 unfold zG;refine br (g9 (dI ⟨rfl,?_⟩));refine br (oY (by lia) ?_);refine nw (λg=>bu (h _ (gallopOf st) (j0.fa (by simpa using g)))) (λg=>?_);refine nw (λg'=>bu (h _ (gallopOf st) (j0.ff (by simpa using g') hb Oh))) (λg'=>?_);have g:a.size - 1≠0:=by simpa using g
 have g':b.size≠1:=by simpa using g'
 refine br (eV ?_);obtain⟨i0,e0⟩:∃i,a.size - 1=i+1:=⟨a.size - 2,by lia⟩;obtain⟨n0,f0⟩:∃j,b.size=j+2:=⟨b.size - 2,by lia⟩;refine br (d9 (cI (I:=λx c MY=>∃g i j out mg,MY=sG st g/\c=(none,i+1,j+2,out,mg)/\H lt a b out (i+1) (j+2)/\i+1<=a.size/\j+2<=b.size/\x+1+(i+1+(j+2))<=a.size+b.size) (Q:=λc MY=>∃g r d,MY=sG st g/\c=(some r,d)/\Fin lt a b r) ?_ ?_ ⟨gallopOf st,i0,n0,#[X a (a.size - 1)],_,rfl,by rw[<-e0,<-f0],by rw[<-e0,<-f0];exact j0,by lia,by lia,by lia⟩) ?_)
 .clear g g' j0 e0 f0
  rintro x c _ _ hx ⟨g,ia,ib,out,mg,rfl,rfl,m,hia,hib,hs⟩
  refine br (d9 (cI (I:=λy d MY=>MY=sG st g/\∃i j out ac bc,d=(none,i+1,j+2,out,ac,bc)/\H lt a b out (i+1) (j+2)/\i+1<=a.size/\j+2<=b.size/\y+(i+j)<=ia+ib) (Q:=λd MY=>MY=sG st g/\((∃r e,d=(some r,e)/\Fin lt a b r)\/∃i j out ac bc,d=(none,i+1,j+2,out,ac,bc)/\H lt a b out (i+1) (j+2)/\i+1<=a.size/\j+2<=b.size/\1+(i+j)<=ia+ib)) ?_ ?_ ⟨rfl,ia,ib,out,0,0,rfl,m,hia,hib,by lia⟩) ?_)
  .clear m
   rintro y d _ _ hy ⟨rfl,i,j,out,ac,bc,rfl,m,hi,hj,hs⟩
   have NC:j+1<b.size:=by lia
   refine br (oY NC (br (oY (fw hi) (br (z9 (st:=sG st g) C hk (pb _ (rB NC).2) (pa _ (rB (fw hi)).2) ?_)))));refine nw (λe=>?_) (λe=>?_)
   .have e:lt (X b (j+1)) (X a i)=true:=e;have m1:=m.a1 (fw hi) λt t1 t2=>o.tr _ _ _ (sb.x o (i:=t) (by lia) NC) (o.as _ _ e);refine br (oY (fw hi) ?_);refine nw (λz=>bu ⟨rfl,.inl ⟨_,_,rfl,m1.fa (by simpa using z)⟩⟩) (λz=>?_);obtain⟨i,rfl⟩:∃t,i=t+1:=⟨i - 1,by
      have z:i≠0:=by simpa using z
      lia⟩
    exact nw (λ_=>bu ⟨rfl,.inr ⟨i,j,_,_,_,rfl,m1,by lia,hj,by lia⟩⟩) (λ_=>bu ⟨rfl,i,j,_,_,_,rfl,m1,by lia,hj,by lia⟩)
   .have e:lt (X b (j+1)) (X a i)=false:=eJ.mpr e;have m1:=m.b1 NC λt t1 t2=>o.tr _ _ _ (sa.x o (i:=t) (by lia) (fw hi)) e;refine br (oY NC ?_);refine nw (λz=>bu ⟨rfl,.inl ⟨_,_,rfl,m1.ff (by simpa using z) hb Oh⟩⟩) (λz=>?_);obtain⟨j,rfl⟩:∃t,j=t+1:=⟨j - 1,by
      have z:j≠0:=by simpa using z
      lia⟩
    exact nw (λ_=>bu ⟨rfl,.inr ⟨i,j,_,_,_,rfl,m1,hi,by lia,by lia⟩⟩) (λ_=>bu ⟨rfl,i,j,_,_,_,rfl,m1,hi,by lia,by lia⟩)
  .rintro d _ ⟨rfl,i,j,out,ac,bc,rfl,m,hi,hj,hs⟩
   exact⟨rfl,.inr ⟨_,_,_,_,_,rfl,m,hi,hj,by lia⟩⟩
  .rintro d _ ⟨rfl,⟨r,e,rfl,hr⟩|⟨i,j,out,ac,bc,rfl,m,hi,hj,NB⟩⟩
   .exact bu ⟨g,r,_,rfl,rfl,hr⟩
   .refine br (g9 (dI ⟨rfl,?_⟩));refine br (d9 (cI (I:=λy d MY=>∃g,MY=sG st g/\∃i j out mg ac bc,d=(none,i+1,j+2,out,mg,ac,bc)/\H lt a b out (i+1) (j+2)/\i+1<=a.size/\j+2<=b.size/\1+(i+j)<=ia+ib) (Q:=λd MY=>∃g,MY=sG st g/\((∃r e,d=(some r,e)/\Fin lt a b r)\/∃i j out mg ac bc,d=(none,i+1,j+2,out,mg,ac,bc)/\H lt a b out (i+1) (j+2)/\i+1<=a.size/\j+2<=b.size/\1+(i+j)<=ia+ib)) ?_ ?_ ⟨g,rfl,i,j,out,mg+1,ac,bc,rfl,m,hi,hj,NB⟩) ?_)
    .clear m hi hj NB
     rintro y d _ _ hy ⟨g,rfl,i,j,out,mg,ac,bc,rfl,m,hi,hj,NB⟩
     have NC:j+1<b.size:=by lia
     refine nw (λ_=>?_) (λ_=>?_)
     all_goals
      refine br (dC (br (oY NC (br (uP C (N0 _) (by show 0+(i+1)<=a.size;lia) pa (pb _ (rB NC).2) (by show i<i+1;lia) (λt u h1 h2 h3=>Hl sa o (by lia) (by have h2:u<i+1:=h2;lia) h3) λk k1 k2=>?_)))));have k1:k<=i+1:=k1;have kf:∀t,t<k->lt (X b (j+1)) (X a t)=false:=λt ht=>by simpa [pK,ht]using k2 t (by show t<i+1;lia)
      have kt:∀t,k<=t->t<i+1->lt (X b (j+1)) (X a t)=true:=λt h h'=>by simpa [pK,kI.mpr h]using k2 t h'
      refine nw (λk0=>?_) (λk0=>?_)
      .have m1:=m.ak k1 λt u t1 t2 _ u1 _=>o.tr _ _ _ (sb.x o (i:=u) (by lia) NC) (o.as _ _ (kt t t1 t2));refine nw (λz=>bu ⟨_,rfl,.inl ⟨_,_,rfl,m1.fa (by simpa using z)⟩⟩) (λz=>?_);obtain⟨i1,rfl⟩:∃t,k=t+1:=⟨k - 1,by
         have z:k≠0:=by simpa using z
         lia⟩
       refine br (oY NC ?_);have m2:=m1.b1 NC λt t1 _=>kf t (by lia);refine nw (λz=>bu ⟨_,rfl,.inl ⟨_,_,rfl,m2.ff (by simpa using z) hb Oh⟩⟩) (λz=>?_);obtain⟨j1,rfl⟩:∃t,j=t+1:=⟨j - 1,by
         have z:j≠0:=by simpa using z
         lia⟩
       have NS:i1<a.size:=by lia
       refine br (oY NS (br (uP C (N0 _) (by show 0+(j1+2)<=b.size;lia) pb (pa _ (rB NS).2) (by show j1+1<j1+2;lia) (λt u h1 h2 h3=>Ci sb o (by lia) (by have h2:u<j1+2:=h2;lia) h3) λl l1 l2=>?_)));have l1:l<=j1+2:=l1;have P5:∀t,t<l->lt (X b t) (X a i1)=true:=λt ht=>by simpa [pK,ht]using l2 t (by show t<j1+2;lia)
       have lf:∀t,l<=t->t<j1+2->lt (X b t) (X a i1)=false:=λt h h'=>by simpa [pK,kI.mpr h]using l2 t h'
       refine nw (λl0=>?_) (λl0=>?_)
       .have m3:=m2.bk l1 λt u t1 t2 _ u1 _=>o.tr _ _ _ (sa.x o (i:=u) (by lia) NS) (lf t t1 t2);refine nw (λz=>bu ⟨_,rfl,.inl ⟨_,_,rfl,m3.ff (by simpa using z) hb Oh⟩⟩) (λz=>nw (λz2=>bu ⟨_,rfl,.inl ⟨_,_,rfl,m3.fb (by simpa using z2)⟩⟩) (λz2=>?_));obtain⟨j2,rfl⟩:∃t,l=t+2:=⟨l - 2,by
          have z:l≠1:=by simpa using z
          have z2:l≠0:=by simpa using z2
          lia⟩
        refine br (oY NS ?_);have m4:=m3.a1 NS λt t1 _=>o.as _ _ (P5 t t1);refine nw (λz=>bu ⟨_,rfl,.inl ⟨_,_,rfl,m4.fa (by simpa using z)⟩⟩) (λz=>?_);obtain⟨i2,rfl⟩:∃t,i1=t+1:=⟨i1 - 1,by
          have z:i1≠0:=by simpa using z
          lia⟩
        exact nw (λ_=>bu ⟨_,rfl,.inr ⟨i2,j2,_,_,_,_,rfl,m4,by lia,by lia,by lia⟩⟩) (λ_=>bu ⟨_,rfl,i2,j2,_,_,_,_,rfl,m4,by lia,by lia,by lia⟩)
       .obtain rfl:l=j1+2:=by have l0:¬j1+2 - l>0:=l0;lia
        have m3:=m2;obtain⟨j2,e2⟩:∃t,t=j1:=⟨_,rfl⟩;subst e2;refine br (oY NS ?_);have m4:=m3.a1 NS λt t1 _=>o.as _ _ (P5 t t1);refine nw (λz=>bu ⟨_,rfl,.inl ⟨_,_,rfl,m4.fa (by simpa using z)⟩⟩) (λz=>?_);obtain⟨i2,rfl⟩:∃t,i1=t+1:=⟨i1 - 1,by
          have z:i1≠0:=by simpa using z
          lia⟩
        exact nw (λ_=>bu ⟨_,rfl,.inr ⟨i2,j2,_,_,_,_,rfl,m4,by lia,by lia,by lia⟩⟩) (λ_=>bu ⟨_,rfl,i2,j2,_,_,_,_,rfl,m4,by lia,by lia,by lia⟩)
      .obtain rfl:k=i+1:=by have k0:¬i+1 - k>0:=k0;lia
       have m1:=m;obtain⟨i1,e1⟩:∃t,t=i:=⟨_,rfl⟩;subst e1;refine br (oY NC ?_);have m2:=m1.b1 NC λt t1 _=>kf t (by lia);refine nw (λz=>bu ⟨_,rfl,.inl ⟨_,_,rfl,m2.ff (by simpa using z) hb Oh⟩⟩) (λz=>?_);obtain⟨j1,rfl⟩:∃t,j=t+1:=⟨j - 1,by
         have z:j≠0:=by simpa using z
         lia⟩
       have NS:i1<a.size:=by lia
       refine br (oY NS (br (uP C (N0 _) (by show 0+(j1+2)<=b.size;lia) pb (pa _ (rB NS).2) (by show j1+1<j1+2;lia) (λt u h1 h2 h3=>Ci sb o (by lia) (by have h2:u<j1+2:=h2;lia) h3) λl l1 l2=>?_)));have l1:l<=j1+2:=l1;have P5:∀t,t<l->lt (X b t) (X a i1)=true:=λt ht=>by simpa [pK,ht]using l2 t (by show t<j1+2;lia)
       have lf:∀t,l<=t->t<j1+2->lt (X b t) (X a i1)=false:=λt h h'=>by simpa [pK,kI.mpr h]using l2 t h'
       refine nw (λl0=>?_) (λl0=>?_)
       .have m3:=m2.bk l1 λt u t1 t2 _ u1 _=>o.tr _ _ _ (sa.x o (i:=u) (by lia) NS) (lf t t1 t2);refine nw (λz=>bu ⟨_,rfl,.inl ⟨_,_,rfl,m3.ff (by simpa using z) hb Oh⟩⟩) (λz=>nw (λz2=>bu ⟨_,rfl,.inl ⟨_,_,rfl,m3.fb (by simpa using z2)⟩⟩) (λz2=>?_));obtain⟨j2,rfl⟩:∃t,l=t+2:=⟨l - 2,by
          have z:l≠1:=by simpa using z
          have z2:l≠0:=by simpa using z2
          lia⟩
        refine br (oY NS ?_);have m4:=m3.a1 NS λt t1 _=>o.as _ _ (P5 t t1);refine nw (λz=>bu ⟨_,rfl,.inl ⟨_,_,rfl,m4.fa (by simpa using z)⟩⟩) (λz=>?_);obtain⟨i2,rfl⟩:∃t,i1=t+1:=⟨i1 - 1,by
          have z:i1≠0:=by simpa using z
          lia⟩
        exact nw (λ_=>bu ⟨_,rfl,.inr ⟨i2,j2,_,_,_,_,rfl,m4,by lia,by lia,by lia⟩⟩) (λ_=>bu ⟨_,rfl,i2,j2,_,_,_,_,rfl,m4,by lia,by lia,by lia⟩)
       .obtain rfl:l=j1+2:=by have l0:¬j1+2 - l>0:=l0;lia
        have m3:=m2;obtain⟨j2,e2⟩:∃t,t=j1:=⟨_,rfl⟩;subst e2;refine br (oY NS ?_);have m4:=m3.a1 NS λt t1 _=>o.as _ _ (P5 t t1);refine nw (λz=>bu ⟨_,rfl,.inl ⟨_,_,rfl,m4.fa (by simpa using z)⟩⟩) (λz=>?_);obtain⟨i2,rfl⟩:∃t,i1=t+1:=⟨i1 - 1,by
          have z:i1≠0:=by simpa using z
          lia⟩
        exact nw (λ_=>bu ⟨_,rfl,.inr ⟨i2,j2,_,_,_,_,rfl,m4,by lia,by lia,by lia⟩⟩) (λ_=>bu ⟨_,rfl,i2,j2,_,_,_,_,rfl,m4,by lia,by lia,by lia⟩)
    .rintro d _ ⟨g,rfl,i,j,out,mg,ac,bc,rfl,m,hi,hj,NB⟩
     exact⟨g,rfl,.inr ⟨_,_,_,_,_,_,rfl,m,hi,hj,NB⟩⟩
    .rintro d _ ⟨g,rfl,⟨r,e,rfl,hr⟩|⟨i,j,out,mg,ac,bc,rfl,m,hi,hj,NB⟩⟩
     .exact bu ⟨g,r,_,rfl,rfl,hr⟩
     .exact br (dC (bu ⟨_,i,j,out,_,rfl,rfl,m,hi,hj,by lia⟩))
 .rintro c _ ⟨g,i,j,out,mg,rfl,rfl,m,hi,hj,hs⟩
  lia
 .rintro c _ ⟨g,r,d,rfl,rfl,hr⟩
  exact bu (h r g hr)
def put(xs r:Array Keyed)(s:Nat):Array Keyed:=r.toList.zipIdx.foldl (λa (p:Keyed×Nat)=>a.setIfInBounds (s+p.2) p.1) xs
theorem DI(s t:Nat):∀(l:T0 Keyed) (n:Nat) (xs:Array Keyed),((l.zipIdx n).foldl (λa (p:Keyed×Nat)=>a.setIfInBounds (s+p.2) p.1) xs)[t]?=if s+n<=t/\t<s+n+l.length/\t<xs.size then l[t - (s+n)]? else xs[t]?
 | [],n,xs=>by rw[bv (by simp;lia)];rfl
 | p::l,n,xs=>by
  rw[iL,dD,DI s t l (n+1),Array.size_setIfInBounds,Array.getElem?_setIfInBounds,bR];dsimp only;by_cases h:s+n=t
  .subst h;rw[bv (by lia),bA rfl];by_cases hs:s+n<xs.size
   .rw[bA hs,bA (by lia),kX];rfl
   .rw[bv hs,bv (by lia)];exact(getElem?_neg xs _ hs).symm
  .rw[bv h];by_cases g:s+(n+1)<=t/\t<s+(n+1)+l.length/\t<xs.size
   .rw[bA g,bA (by lia),show t - (s+n)=t - (s+(n+1))+1 by lia];rfl
   .rw[bv g,bv (by lia)]
def D0{xs r:Array Keyed}{s:Nat}(h:s+r.size<=xs.size)(t:Nat):(put xs r s)[t]?=if s<=t/\t<s+r.size then r[t - s]? else xs[t]?:=by
 have e:=DI s t r.toList 0 xs;unfold put;rw[e,bX,Nat.add_zero];by_cases g:s<=t/\t<s+r.size
 .rw[bA g,bA (by lia),ci]
 .rw[bv g,bv (by lia)]
def Hd{xs r:Array Keyed}{s:Nat}(h:s+r.size<=xs.size)(t:Nat):X (put xs r s) t=if s<=t/\t<s+r.size then X r (t - s)else X xs t:=by
 have e:=D0 h t;split
 .rename_i g;rw[bA g]at e;exact Af e
 .rename_i g;rw[bv g]at e;exact Af e
def KR{xs r:Array Keyed}{s:Nat}(h:s+r.size<=xs.size)(p:r.toList.Perm ((xs.toList.drop s).take r.size)):(put xs r s).Perm xs:=by
 have e:(put xs r s).toList=xs.toList.take s++(r.toList++(xs.toList.drop s).drop r.size):=by
  refine iq λt=>?_;rw[ci,D0 h,jl,jl,df,bX,bX,hG,gR (by lia),List.getElem?_drop];by_cases h1:t<s
  .rw[bv (by lia),bA h1,iB h1,ci]
  .rw[bv h1];by_cases h2:t - s<r.size
   .rw[bA (by lia),bA h2,ci]
   .rw[bv (by lia),bv h2,show s+r.size+(t - s - r.size)=t by lia,ci]
 rw[eF,e];have e2:xs.toList=xs.toList.take s++((xs.toList.drop s).take r.size++(xs.toList.drop s).drop r.size):=by rw[dt,dt]
 refine List.Perm.trans ?_ (kJ e2.symm);exact(p.append_right _).append_left _
def E9{xs:Array Keyed}{u v i:Nat}(hv:v<=xs.size)(h:u+i<v):X (xs.extract u v) i=X xs (u+i):=by unfold X;rw[Array.getElem?_extract_of_lt (by lia),dG xs (u+i) (by lia)]
def So.sl{xs:Array Keyed}{u v:Nat}(s:So lt xs u v)(hv:v<=xs.size):Sl lt (xs.extract u v).toList:=by
 refine di.mpr λi j hi hj NF=>?_;have NC:u+j<v:=by rw[bX,h9]at hj;lia
 have e:∀t (ht:t<(xs.extract u v).toList.length),u+t<v->(xs.extract u v).toList[t]=X xs (u+t):=λt ht h=>by rw[<-E9 hv h];unfold X;rw[dG _ t (by rw[bX]at ht;exact ht)];simp
 rw[e i hi (by lia),e j hj NC];exact s _ _ (by lia) (by lia) NC
def E1{xs:Array Keyed}{u v:Nat}{x:Keyed}(h:x∈(xs.extract u v).toList):∃t,u<=t/\t<v/\t<xs.size/\x=X xs t:=by rw[fP,cV]at h;obtain⟨j,h1,h2,rfl⟩:=FH h;exact⟨u+j,by lia,by lia,h2,rfl⟩
def Ka(o:Ord lt)(C:Cmp prog w A s κ lt P){st:SortSt}(b:Bs κ P a₀ st){i sa na sb nb p q:Nat}{Q:Bool->SortSt->Prop}(p1:(pendingOf st)[i]?=some (sa,na,p))(p2:(pendingOf st)[i+1]?=some (sb,nb,q))(e:sb=sa+na)(n1:1<=na)(n2:1<=nb)(hz:sb+nb<=a₀.size)(s1:So lt (arrOf st) sa sb)(s2:So lt (arrOf st) sb (sb+nb)) (h:∀xs g,Fx sa (sb+nb) (arrOf st) xs->So lt xs sa (sb+nb)->Q true (SortSt.mk' (kindOf st) xs (((pendingOf st).setIfInBounds i (sa,na+nb,p)).eraseIdxIfInBounds (i+1)) g (failedOf st))):wpS (model prog w) A E s (mergeAt' i) Q st:=by
 have hs:=b.sz;have pa:∀x∈(arrOf st).toList,P x:=λx hx=>b.all x ((eF.mp b.p).mem_iff.mp hx);have N0:∀p g,kindOf (SortSt.mk' (kindOf st) (arrOf st) p g (failedOf st))=κ:=λ_ _=>b.k;unfold mergeAt';refine br (eV ?_);rw[p1,p2];refine br (FQ (br (oY (i:=sb) (by show sb<(arrOf st).size;lia) (br (uP C (N0 _ _) (by show sa+na<=(arrOf st).size;lia) pa (pa _ (rB (by show sb<(arrOf st).size;lia)).2) (by lia) (λt u h1 h2 h3=>IB s1 o (by lia) (by lia) (by lia) h3) λk k1 k2=>?_)))));have kf:∀t,sa<=t->t<sa+k->lt (X (arrOf st) sb) (X (arrOf st) t)=false:=λt h1 h2=>by
  have:=k2 (t - sa) (by lia);rw[show sa+(t - sa)=t by lia,bZ (by lia)]at this
  simpa [pK]using this
 have kt:∀t,sa+k<=t->t<sb->lt (X (arrOf st) sb) (X (arrOf st) t)=true:=λt h1 h2=>by
  have:=k2 (t - sa) (by lia);rw[show sa+(t - sa)=t by lia,cB (by lia)]at this
  simpa [pK]using this
 clear k2;have two:(∀t,sa<=t->t<sb->lt (X (arrOf st) sb) (X (arrOf st) t)=false)->So lt (arrOf st) sa (sb+nb):=λg i j hi NF hj=>by
  by_cases j1:j<sb
  .exact s1 i j hi NF j1
  .by_cases i1:i<sb
   .exact o.tr _ _ _ (g i hi i1) (s2 sb j (by lia) (by lia) hj)
   .exact s2 i j (by lia) NF hj
 refine nw (λz=>?_) (λz=>?_)
 .have z:na - k=0:=by simpa using z
  exact bu (h _ _ .refl (two λt t1 t2=>kf t t1 (by lia)))
 have z:na - k≠0:=by simpa using z
 obtain⟨L,eL⟩:∃L,sa+k+(na - k) - 1=L:=⟨_,rfl⟩;refine br (oY (i:=sa+k+(na - k) - 1) (by show _<(arrOf st).size;lia) (br (uP C (N0 _ _) (by show sb+nb<=(arrOf st).size;lia) pa (pa _ (rB (by show _<(arrOf st).size;lia)).2) (by show nb - 1<nb;lia) (λt u h1 h2 h3=>Jq s2 o (by lia) (by lia) (by lia) h3) λl l1 l2=>?_)));rw[eL]at l2;have eL:L=sb - 1:=by lia
 have P5:∀t,sb<=t->t<sb+l->lt (X (arrOf st) t) (X (arrOf st) L)=true:=λt h1 h2=>by
  have:=l2 (t - sb) (by lia);rw[show sb+(t - sb)=t by lia,bZ (by lia)]at this
  simpa [pK]using this
 have lf:∀t,sb+l<=t->t<sb+nb->lt (X (arrOf st) t) (X (arrOf st) L)=false:=λt h1 h2=>by
  have:=l2 (t - sb) (by lia);rw[show sb+(t - sb)=t by lia,cB (by lia)]at this
  simpa [pK]using this
 clear l2;refine nw (λz2=>?_) (λz2=>?_)
 .have z2:l=0:=by simpa using z2
  exact bu (h _ _ .refl (two λt t1 t2=>o.tr _ _ _ (s1 t L t1 (by lia) (by lia)) (lf sb (by lia) (by lia))))
 have z2:l≠0:=by simpa using z2
 have zx:((arrOf st).extract (sa+k) sb).size=na - k:=by rw[h9];lia
 have zy:((arrOf st).extract sb (sb+l)).size=l:=by rw[h9];lia
 have sx:Sl lt ((arrOf st).extract (sa+k) sb).toList:=So.sl (λi j h1 h2 h3=>s1 i j (by lia) h2 h3) (by lia);have sy:Sl lt ((arrOf st).extract sb (sb+l)).toList:=So.sl (λi j h1 h2 h3=>s2 i j h1 h2 (by lia)) (by lia);have px:∀{u v x},x∈((arrOf st).extract u v).toList->P x:=λhx=>by obtain⟨t,_,_,ht,rfl⟩:=E1 hx;exact pa _ (rB ht).2
 have g1:∀x∈((arrOf st).extract (sa+k) sb).toList,lt (X ((arrOf st).extract sb (sb+l)) 0) x=true:=λx hx=>by obtain⟨t,t1,t2,_,rfl⟩:=E1 hx;rw[E9 (by lia) (by lia)];exact kt t t1 t2
 have g2:∀y∈((arrOf st).extract sb (sb+l)).toList,lt y (X ((arrOf st).extract (sa+k) sb) (((arrOf st).extract (sa+k) sb).size - 1))=true:=λy hy=>by obtain⟨t,t1,t2,_,rfl⟩:=E1 hy;rw[zx,E9 (by lia) (by lia),show sa+k+(na - k - 1)=L by lia];exact P5 t t1 t2
 have ef:(failedOf st).isNone=true:=by rw[b.f];rfl
 have fin:∀out g,Fin lt ((arrOf st).extract (sa+k) sb) ((arrOf st).extract sb (sb+l)) out->Q (failedOf st).isNone (SortSt.mk' (kindOf st) (put (arrOf st) out (sa+k)) (((pendingOf st).setIfInBounds i (sa,na+nb,p)).eraseIdxIfInBounds (i+1)) g (failedOf st)):=λout g ⟨hp,ho⟩=>by
  rw[ef];have zo:out.size=na - k+l:=by have:=hp.length_eq;rw[bF,bX,bX,bX,zx,zy]at this;exact this
  have Pj:sa+k+out.size<=(arrOf st).size:=by lia
  have mem:∀t,t<out.size->∃u,X out t=X (arrOf st) u/\((sa+k<=u/\u<sb)\/(sb<=u/\u<sb+l)):=λt ht=>by
   rcases bT.mp (hp.mem_iff.mp (rB ht).2)with hx|hx
   .obtain⟨u,u1,u2,_,e⟩:=E1 hx;exact⟨u,e,.inl ⟨u1,u2⟩⟩
   .obtain⟨u,u1,u2,_,e⟩:=E1 hx;exact⟨u,e,.inr ⟨u1,u2⟩⟩
  refine h _ g ⟨KR Pj (hp.trans (kJ ?_)),λt ht=>by rw[D0 Pj,bv (by lia)]⟩ λi j hi NF hj=>?_
  .rw[zo,fP,fP,cV,cV,List.take_add,hG,show sa+k+(na - k)=sb by lia,show sb - (sa+k)=na - k by lia,show sb+l - sb=l by lia]
  .rw[Hd Pj,Hd Pj];by_cases j1:j<sa+k
   .rw[bv (by lia),bv (by lia)];exact s1 i j hi NF (by lia)
   .by_cases j2:j<sb+l
    .rw[bA (by lia)];by_cases i1:i<sa+k
     .rw[bv (by lia)];obtain⟨u,e,hu⟩:=mem (j - (sa+k)) (by lia);rw[e];rcases hu with hu|hu
      .exact s1 i u hi (by lia) hu.2
      .exact o.tr _ _ _ (kf i hi i1) (s2 sb u (by lia) hu.1 (by lia))
     .rw[bA (by lia)];exact Sl.x ho o (by lia) (by lia)
    .rw[bv (by lia)];by_cases i1:i<sa+k
     .rw[bv (by lia)];exact o.tr _ _ _ (kf i hi i1) (s2 sb j (by lia) (by lia) hj)
     .by_cases i2:i<sb+l
      .rw[bA (by lia)];obtain⟨u,e,hu⟩:=mem (i - (sa+k)) (by lia);rw[e];rcases hu with hu|hu
       .exact o.tr _ _ _ (s1 u L (by lia) (by lia) (by lia)) (lf j (by lia) hj)
       .exact s2 u j hu.1 (by lia) hj
      .rw[bv (by lia)];exact s2 i j (by lia) NF hj
 refine nw (λ_=>?_) (λ_=>?_)
 .exact br (JO o C (N0 _ _) (by rw[zx];lia) (by rw[zy];lia) sx sy (λx hx=>px hx) (λx hx=>px hx) g1 g2 λout g hf=>br (dC (br (eV (bu (fin out g hf))))))
 .exact br (Kj o C (N0 _ _) (by rw[zx];lia) (by rw[zy];lia) sx sy (λx hx=>px hx) (λx hx=>px hx) g1 g2 λout g hf=>br (dC (br (eV (bu (fin out g hf))))))
def Pn(lt:Keyed->Keyed->Bool)(xs:Array Keyed):T0 (Nat×Nat×Nat)->Nat->Nat->Prop
 | [],lo,hi=>lo=hi
 | (s,n,_)::r,lo,hi=>s=lo/\1<=n/\So lt xs lo (lo+n)/\Pn lt xs r (lo+n) hi
def So.fx{xs ys:Array Keyed}{lo hi:Nat}(s:So lt xs lo hi)(h:∀t,lo<=t->t<hi->X ys t=X xs t):So lt ys lo hi:=λi j h1 h2 h3=>by rw[h i h1 (by lia),h j (by lia) h3];exact s i j h1 h2 h3
theorem Pn.le{xs:Array Keyed}:∀{l:T0 (Nat×Nat×Nat)} {lo hi:Nat},Pn lt xs l lo hi->lo+l.length<=hi
 | [],_,_,h=>by cases h;simp
 | (s,n,_)::r,lo,hi,h=>by have:=h.2.2.2.le;rw[bR];have:=h.2.1;lia
theorem Pn.fx{xs ys:Array Keyed}:∀{l:T0 (Nat×Nat×Nat)} {lo hi:Nat},Pn lt xs l lo hi->(∀t,lo<=t->t<hi->X ys t=X xs t)->Pn lt ys l lo hi
 | [],_,_,h,_=>h
 | (s,n,_)::r,lo,hi,h,g=>by have:=h.2.2.2.le;exact⟨h.1,h.2.1,h.2.2.1.fx λt t1 t2=>g t t1 (by lia),h.2.2.2.fx λt t1 t2=>g t (by lia) t2⟩
theorem Pn.snoc{xs:Array Keyed}{n p:Nat}(hn:1<=n):∀{l:T0 (Nat×Nat×Nat)} {lo hi:Nat},Pn lt xs l lo hi->So lt xs hi (hi+n)->Pn lt xs (l++[(hi,n,p)]) lo (hi+n)
 | [],_,_,h,s=>by cases h;exact⟨rfl,hn,s,rfl⟩
 | (a,m,_)::r,lo,hi,h,s=>⟨h.1,h.2.1,h.2.2.1,Pn.snoc hn h.2.2.2 s⟩
theorem Pn.map{xs:Array Keyed}:∀{l l':T0 (Nat×Nat×Nat)} {lo hi:Nat},Pn lt xs l lo hi->l.map (λp=>(p.1,p.2.1))=l'.map (λp=>(p.1,p.2.1))->Pn lt xs l' lo hi
 | [],[],_,_,h,_=>h
 | [],_::_,_,_,_,e=>by cases e
 | _::_,[],_,_,_,e=>by cases e
 | (a,m,_)::r,(a',m',_)::r',lo,hi,h,e=>by rw[cb,cb,List.cons.injEq]at e;cases e.1;exact⟨h.1,h.2.1,h.2.2.1,h.2.2.2.map e.2⟩
theorem Pn.two{xs:Array Keyed}{sa na p sb nb q:Nat}:∀{l:T0 (Nat×Nat×Nat)} {lo hi i:Nat},Pn lt xs l lo hi->l[i]?=some (sa,na,p)->l[i+1]?=some (sb,nb,q)->lo<=sa/\sb=sa+na/\1<=na/\1<=nb/\sb+nb<=hi/\So lt xs sa sb/\So lt xs sb (sb+nb)/\
  ∀ys,(∀t,t<sa\/sb+nb<=t->X ys t=X xs t)->So lt ys sa (sb+nb)->Pn lt ys ((l.set i (sa,na+nb,p)).eraseIdx (i+1)) lo hi
 | [],_,_,_,_,e,_=>by cases e
 | [_],_,_,0,_,_,e=>by cases e
 | (s1,n1,p1)::(s2,n2,p2)::r,lo,hi,0,h,e1,e2=>by cases e1;cases e2;obtain⟨rfl,h2,h3,rfl,h5,h6,h7⟩:=h;have:=h7.le;exact⟨bw _,rfl,h2,h5,by lia,h3,h6,λys hy s=>⟨rfl,by lia,by rw[<-kP];exact s,by rw[<-kP];exact h7.fx λt t1 t2=>hy t (.inr t1)⟩⟩
 | (s1,n1,p1)::r,lo,hi,i+1,h,e1,e2=>by obtain⟨h1,h2,h3,h4⟩:=h;obtain⟨g1,g2,g3,g4,g5,g6,g7,g8⟩:=Pn.two h4 (i:=i) e1 e2;exact⟨by lia,g2,g3,g4,g5,g6,g7,λys hy s=>⟨h1,h2,h3.fx λt t1 t2=>hy t (.inl (by lia)),g8 ys hy s⟩⟩
def DJ(o:Ord lt)(C:Cmp prog w A s κ lt P){st:SortSt}(b:Bs κ P a₀ st){i lo:Nat}{Q:Bool->SortSt->Prop}(pn:Pn lt (arrOf st) (pendingOf st).toList 0 lo)(hl:lo<=a₀.size)(hi:i+1<(pendingOf st).size) (h:∀MY,Bs κ P a₀ MY->Pn lt (arrOf MY) (pendingOf MY).toList 0 lo->(pendingOf MY).size+1=(pendingOf st).size->(∀t,lo<=t->X (arrOf MY) t=X (arrOf st) t)->Q true MY):wpS (model prog w) A E s (mergeAt' i) Q st:=by
 obtain⟨⟨sa,na,p⟩,p1⟩:∃r,(pendingOf st)[i]?=some r:=⟨_,dG _ i (by lia)⟩;obtain⟨⟨sb,nb,q⟩,p2⟩:∃r,(pendingOf st)[i+1]?=some r:=⟨_,dG _ (i+1) hi⟩;obtain⟨g1,g2,g3,g4,g5,g6,g7,g8⟩:=pn.two (i:=i) (by rw[ci];exact p1) (by rw[ci];exact p2);refine Ka o C b p1 p2 g2 g3 g4 (by lia) g6 g7 λxs g fx so=>h _ ⟨b.k,b.f,fx.1.trans b.p,b.all⟩ ?_ ?_ λt ht=>fx.x (.inr (by lia))
 .show Pn lt xs (((pendingOf st).setIfInBounds i (sa,na+nb,p)).eraseIdxIfInBounds (i+1)).toList 0 lo;rw[gG,ij];exact g8 xs (λt ht=>fx.x ht) so
 .show(((pendingOf st).setIfInBounds i (sa,na+nb,p)).eraseIdxIfInBounds (i+1)).size+1=_;rw[<-bX,gG,ij,List.length_eraseIdx,List.length_set,bX,bA hi];lia
theorem yj{α β:Type}{f:α->α}{g:α->β}(h:∀x,g (f x)=g x):∀(l:List α) (i:Nat),(l.modify i f).map g=l.map g
 | [],_=>by simp
 | a::l,0=>by simp[h]
 | a::l,i+1=>by simp[yj h l i]
def w_sort(o:Ord lt)(C:Cmp prog w A s κ lt P){st:SortSt}(b:Bs κ P a₀ st)(hp:pendingOf st=#[])(h1:1<=a₀.size){Q:Unit->SortSt->Prop}(h:∀MY,Bs κ P a₀ MY->So lt (arrOf MY) 0 a₀.size->Q () MY):wpS (model prog w) A E s sortRuns' Q st:=by
 rw[sortRuns'_eq];have hz:(arrOf st).size=a₀.size:=b.sz;refine br (eV ?_);rw[hz];refine br (d9 (cI (I:=λx c MY=>∃lo,c=(none,lo)/\Bs κ P a₀ MY/\Pn lt (arrOf MY) (pendingOf MY).toList 0 lo/\lo<=a₀.size/\x<=lo) (Q:=λc MY=>∃lo,c=(none,lo)/\Bs κ P a₀ MY/\Pn lt (arrOf MY) (pendingOf MY).toList 0 a₀.size) ?_ ?_ ⟨0,rfl,b,by rw[hp];rfl,by lia,by lia⟩) ?_)
 .clear b hp hz
  rintro x c MY _ hx ⟨lo,rfl,b,pn,hl,hxl⟩
  refine nw (λg=>bu ⟨lo,rfl,b,(show lo=a₀.size by have g:lo>=a₀.size:=g;lia) ▸ pn⟩) (λg=>?_);have g:¬lo>=a₀.size:=g;refine br (Gq o C b (by show 1<=a₀.size - lo;lia) (by show lo+(a₀.size - lo)<=_;lia) λn xs fx n1 n2 so=>?_);have n2:n<=a₀.size - lo:=n2;refine nw (λg2=>?_) (λg2=>?_)
  .have g2:n<minRun' a₀.size a₀.size 0:=g2;refine br (g9 (dI ⟨rfl,?_⟩));generalize minRun' a₀.size a₀.size 0=mr at g2 ⊢;refine br (JV o C (b.set fx.1) (by show lo+min (a₀.size - lo) mr<=_;lia) n1 (by show n<=min (a₀.size - lo) mr;lia) so λys fy so=>nw (λz=>by cases z) λ_=>?_);have fy:Fx lo (lo+(a₀.size - lo)) (arrOf MY) ys:=⟨fy.1.trans fx.1,λk hk=>(fy.2 k (by show k<lo\/lo+min (a₀.size - lo) mr<=k;lia)).trans (fx.2 k hk)⟩;have n1:1<=min (a₀.size - lo) mr:=by lia
   have n2:min (a₀.size - lo) mr<=a₀.size - lo:=by lia
   have b2:Bs κ P a₀ (setArr MY ys):=b.set fy.1;have pn2:Pn lt ys (pendingOf MY).toList 0 lo:=pn.fx λt _ t2=>fy.x (.inl t2);refine br (eV ?_);split
   .refine br (d9 (cI (I:=λx c Nf=>c=(none,())/\Bs κ P a₀ Nf/\Pn lt (arrOf Nf) (pendingOf Nf).toList 0 lo/\So lt (arrOf Nf) lo (lo+min (a₀.size - lo) mr)) (Q:=λc Nf=>c=(none,())/\Bs κ P a₀ Nf/\Pn lt (arrOf Nf) (pendingOf Nf).toList 0 lo/\So lt (arrOf Nf) lo (lo+min (a₀.size - lo) mr)) ?_ (λc Nf hh=>hh) ⟨rfl,b2,pn2,so⟩) ?_)
    .rintro x c Nf _ _ ⟨rfl,b3,OT,OU⟩
     refine br (eV ?_);dsimp only;split
     .rename_i heq;have hs:(pendingOf Nf).size>1:=by
       by_cases g:(pendingOf Nf).size>1
       .exact g
       .rw[bv g]at heq;cases heq
      refine nw (λ_=>bu ⟨rfl,b3,OT,OU⟩) (λ_=>?_);exact br (DJ o C b3 OT hl (by show(pendingOf Nf).size - 2+1<_;lia) λst4 b4 pn4 _ ht=>nw (λz=>by cases z) λ_=>bu ⟨rfl,b4,pn4,OU.fx λt t1 _=>ht t t1⟩)
     .exact bu ⟨rfl,b3,OT,OU⟩
    .rintro c Nf ⟨rfl,b3,OT,OU⟩
     refine br (dC (br (dC (bu ⟨_,rfl,⟨b3.k,b3.f,b3.p,b3.all⟩,?_,by lia,by lia⟩))));rw[cX,jv];exact Pn.snoc n1 (OT.map (by rw[yj];intro x;rfl)) OU
   .refine br (dC (bu ⟨_,rfl,⟨b2.k,b2.f,b2.p,b2.all⟩,?_,by lia,by lia⟩));rw[cX];exact Pn.snoc n1 pn2 so
  .have so:So lt xs lo (lo+n):=so;have b2:Bs κ P a₀ (setArr MY xs):=b.set fx.1;have pn2:Pn lt xs (pendingOf MY).toList 0 lo:=pn.fx λt _ t2=>fx.x (.inl t2);refine br (eV ?_);split
   .refine br (d9 (cI (I:=λx c Nf=>c=(none,())/\Bs κ P a₀ Nf/\Pn lt (arrOf Nf) (pendingOf Nf).toList 0 lo/\So lt (arrOf Nf) lo (lo+n)) (Q:=λc Nf=>c=(none,())/\Bs κ P a₀ Nf/\Pn lt (arrOf Nf) (pendingOf Nf).toList 0 lo/\So lt (arrOf Nf) lo (lo+n)) ?_ (λc Nf hh=>hh) ⟨rfl,b2,pn2,so⟩) ?_)
    .rintro x c Nf _ _ ⟨rfl,b3,OT,OU⟩
     refine br (eV ?_);dsimp only;split
     .rename_i heq;have hs:(pendingOf Nf).size>1:=by
       by_cases g:(pendingOf Nf).size>1
       .exact g
       .rw[bv g]at heq;cases heq
      refine nw (λ_=>bu ⟨rfl,b3,OT,OU⟩) (λ_=>?_);exact br (DJ o C b3 OT hl (by show(pendingOf Nf).size - 2+1<_;lia) λst4 b4 pn4 _ ht=>nw (λz=>by cases z) λ_=>bu ⟨rfl,b4,pn4,OU.fx λt t1 _=>ht t t1⟩)
     .exact bu ⟨rfl,b3,OT,OU⟩
    .rintro c Nf ⟨rfl,b3,OT,OU⟩
     refine br (dC (br (dC (bu ⟨_,rfl,⟨b3.k,b3.f,b3.p,b3.all⟩,?_,by lia,by lia⟩))));rw[cX,jv];exact Pn.snoc n1 (OT.map (by rw[yj];intro x;rfl)) OU
   .refine br (dC (bu ⟨_,rfl,⟨b2.k,b2.f,b2.p,b2.all⟩,?_,by lia,by lia⟩));rw[cX];exact Pn.snoc n1 pn2 so
 .rintro c MY ⟨lo,rfl,b,pn,hl,hxl⟩
  exact⟨lo,rfl,b,(show lo=a₀.size by lia) ▸ pn⟩
 .clear b hp hz
  rintro c MY ⟨lo,rfl,b,pn⟩
  refine br (d9 (cI (I:=λx c MY=>c=(none,())/\Bs κ P a₀ MY/\Pn lt (arrOf MY) (pendingOf MY).toList 0 a₀.size/\((pendingOf MY).size<=1\/(pendingOf MY).size+x<=a₀.size)) (Q:=λc MY=>c=(none,())/\Bs κ P a₀ MY/\Pn lt (arrOf MY) (pendingOf MY).toList 0 a₀.size/\(pendingOf MY).size<=1) ?_ ?_ ⟨rfl,b,pn,.inr (by have:=pn.le;rw[bX]at this;lia)⟩) ?_)
  .rintro x c MY _ _ ⟨rfl,b,pn,hs⟩
   refine br (eV ?_);refine nw (λg=>bu ⟨rfl,b,pn,g⟩) (λg=>?_);have g:¬(pendingOf MY).size<=1:=g;refine br (DJ o C b pn (bw _) ?_ λst4 b4 pn4 hs4 _=>nw (λz=>by cases z) λ_=>bu ⟨rfl,b4,pn4,by lia⟩);have key:∀(c:Prop) [Decidable c],(if c then(pendingOf MY).size - 2 - 1 else(pendingOf MY).size - 2)+1<(pendingOf MY).size:=λc _=>by split<;>lia
   exact key _
  .rintro c MY ⟨rfl,b,pn,hs⟩
   exact⟨rfl,b,pn,by lia⟩
  .rintro c MY ⟨rfl,b,pn,hs⟩
   refine bu (h MY b ?_)
   match hq:(pendingOf MY).toList,pn with
   | [],e=>exact absurd (show 0=a₀.size from e) (by lia)
   | [(s,n,p)],e=>obtain⟨rfl,_,so,e⟩:=e;rw[gN]at so e;rw[<-show n=a₀.size from e];exact so
   | _::_::_,_=>have:=de List.length hq;rw[bX,bR,bR]at this;lia
end Srt
namespace L2
variable {prog:Pg}{w:Wo}{A:Ar}{E:QQX}{s:Sd}
theorem AG{α β:Type}{f:α->Sem β}{g:α->β}:∀{l:List α} {Q:List β->Sd->Prop},(∀v∈l,∀(Q:β->Sd->Prop),Q (g v) s->wpAny (model prog w) A (f v) Q E s)->Q (l.map g) s->wpAny (model prog w) A (l.mapM f) Q E s
 | [],_,_,q=>by rw[List.mapM_nil];exact bj q
 | x::l,_,h,q=>by rw[List.mapM_cons];exact bh (h x bM _ (bh (AG (λv hv=>h v (bL _ hv)) (bj q))))
def qh(h:Heap)(a:Addr)(vs:T0 Vl):Heap:=((h.update a (Obj.mapSeq λ_=>#[])).push (seqObj "tuple" vs.toArray 0)).push (seqObj "list" #[] 0)
def Bk{lt:Keyed->Keyed->Bool}{Pk:Keyed->Prop}(o:Srt.Ord lt){κ:SortKind}{a:Addr}{vs:T0 Vl}{n:Nat}{P:Fin->Sd->Prop}(ho:s.heap.get? a=some (seqObj "list" vs.toArray n))(hz:vs.length<=sizeLine) (hK:∀(Q:SortKind->Sd->Prop),2<=vs.length->Q κ {s with heap:=qh s.heap a vs}->wpAny (model prog w) A (keyKind' vs.toArray) Q E {s with heap:=qh s.heap a vs})
  (C:Srt.Cmp prog w A {s with heap:=qh s.heap a vs} κ lt Pk) (hP:∀v∈vs,Pk (v,v))
  (h:∀out:Array Vl,out.toList.Perm vs->out.toList.Pairwise (λx y=>lt (y,y) (x,x)=false)->P (.done (.ret .none)) {s with heap:=sortedHeap s.heap a vs out}):
  wpAny (model prog w) A (Builtin.«list.sort» ⟨[.ref a],[]⟩) P E s:=by
 rw[list_sort_plain];have ha:a<s.heap.objs.size:=bB ho;refine bh (em ho rfl ?_);refine bh (jr ho rfl ?_);obtain⟨e1,ho1⟩:∃e1,(s.heap.update a (Obj.mapSeq λ_=>#[])).get? a=some (seqObj "list" #[] e1):=⟨_,get?_update_seq ho (λ_=>#[])⟩;refine bh (j9 ho1 rfl ?_);refine bh (ja ?_ hz);refine bh (jq ?_);refine cE ?_;have ho6:(qh s.heap a vs).get? a=some (seqObj "list" #[] e1):=by unfold qh;rw[jU _ _ _ (by rw[kF,iM];exact bG (cR ha)),jU _ _ _ (by rw[iM];exact bG ha)];exact ho1
 show wpAny (model prog w) A _ P E {s with heap:=qh s.heap a vs};dsimp only;have hsz:vs.toArray.size=vs.length:=by simp
 by_cases h2:vs.toArray.size<2
 .rw[bA h2,bA h2];refine bh (bj ?_);rw[StateT.run_pure];refine bh (bj ?_);dsimp only;refine bh (j9 ho6 rfl ?_);have ea:(arrOf (SortSt.mk' general' (vs.toArray.zip vs.toArray) #[] 7 none)).map (·.2)=vs.toArray:=by
   show(vs.toArray.zip vs.toArray).map (·.2)=_;apply Array.ext
   .simp
   .intro i h1 h2;simp
  rw[ea];refine bh (jr ho6 rfl ?_ (hsz2:=by rw[hsz];lia));simp only[jV,hZ,iD];refine bj (h _ (.refl _) ?_)
  match vs,hsz,h2 with
  | [],_,_=>exact .nil
  | [_],_,_=>exact iS ..
  | _::_::_,_,h2=>simp at h2;lia
 .rw[bv h2,bv h2];refine bh (hK _ (by lia) ?_);have e0:(vs.toArray.zip vs.toArray).toList=vs.zip vs:=by simp
  refine bh (cz (Srt.w_sort o C (a₀:=vs.toArray.zip vs.toArray) (st:=SortSt.mk' κ (vs.toArray.zip vs.toArray) #[] 7 none) ⟨rfl,rfl,Array.Perm.refl _,λx hx=>?_⟩ rfl (by simp;lia) (Q:=λ_ MY=>Srt.Bs κ Pk (vs.toArray.zip vs.toArray) MY/\Srt.So lt (arrOf MY) 0 (vs.toArray.zip vs.toArray).size) λMY b1 b2=>⟨b1,b2⟩) ?_ λ_ _ e=>e)
  .rw[e0]at hx;obtain⟨q1,q2⟩:=mem_zip_self hx;obtain⟨x1,x2⟩:=x;cases q1;exact hP _ q2
  rintro ⟨⟨⟩,MY⟩ s' ⟨rfl,b1,b2⟩
  dsimp only;refine bh (j9 ho6 rfl ?_);have pl:(arrOf MY).toList.Perm (vs.zip vs):=by rw[<-e0];exact eF.mp b1.p
  have sz:=b1.sz;refine bh (jr ho6 rfl ?_ (hsz2:=by rw[Array.size_map,sz];simp;lia));rw[b1.f];simp only[jV,hZ,iD];refine bj (h _ ?_ ?_)
  .rw[Array.toList_map];have:=pl.map (·.2)
   rwa [List.map_snd_zip (bw _)]at this
  .rw[di];intro i j hi hj NF;have li:i<(arrOf MY).size:=by simpa using hi
   have lj:j<(arrOf MY).size:=by simpa using hj
   have q:=b2 i j (cF _) (fV NF) (by rw[<-sz];exact lj);have self:∀k (lk:k<(arrOf MY).size),Srt.X (arrOf MY) k=((arrOf MY)[k].2,(arrOf MY)[k].2):=λk lk=>by
    have m:(arrOf MY)[k]∈(arrOf MY).toList:=by simp
    have:=(mem_zip_self (pl.mem_iff.mp m)).1;unfold Srt.X;rw[eM lk];exact Prod.ext this rfl
   rw[self i li,self j lj]at q
   simpa using q
def FE{h:Heap}{a b:Addr}{vs:T0 Vl}{o:Obj}(hb:b≠a)(e:h.get? b=some o):(qh h a vs).get? b=some o:=by unfold qh;exact bp _ (bp _ (by rw[jw _ _ _ _ hb];exact e))
def AB{ps:QXQ}{Q:SortKind->Sd->Prop}(hp:∀p∈ps,s.TypeIs (.ref p) "list")(h2:2<=ps.length)(q:Q oneType' s):wpAny (model prog w) A (keyKind' (ps.map Value.ref).toArray) Q E s:=by
 have tp:∀v∈ps.map Value.ref,s.TypeIs v "list":=λv hv=>by obtain⟨p,hp',rfl⟩:=bP.mp hv;exact hp p hp'
 rw[keyKind'_eq,jW,ko];refine bh (bh (AG (g:=λ_=>none) (λv hv Q q=>?_) (bj ?_)))
 .show wpAny _ _ (typeOf v>>=_) _ _ s;exact bh (fB (tp v hv) (wx (by decide) (bj q)))
 obtain⟨p1,p2,ps,rfl⟩:∃p1 p2 r,ps=p1::p2::r:=by
  match ps,h2 with
  | p1::p2::r,_=>exact⟨p1,p2,r,rfl⟩
 refine pU (by simp) (pU (by simp) ?_);rw[oneTypeOnly'_eq,jW,ko];refine bh (bh (bh (AG (g:=λ_=>Value.type "list") (λv hv Q q=>fB (tp v hv) q) (bj ?_))));have h0:(List.map (λ_=>Value.type "list") (List.map Value.ref (p1::p2::ps))).toArray[0]?=some (Value.type "list"):=by simp
 rw[h0];have Oe:((List.map (λ_=>Value.type "list") (List.map Value.ref (p1::p2::ps))).toArray.all λx=>x==Value.type "list")=true:=by simp only[List.all_toArray,iK,cD];intro _ _;rfl
 refine bj ?_;rw[bA Oe];exact bj q
def Fh(f:Addr->QQQ):Vl->QQQ
 | .ref p=>f p
 | _=>[]
def x8{l:Addr}{ps:QXQ}{f:Addr->QQQ}{Q:QQX}(hu:A.units+9<cLine)(hl:s.heap.IsList l (ps.map Value.ref).toArray)(hz:ps.length<=sizeLine)(hp:∀p∈ps,∃us,s.heap.IsList p us.toArray/\StrsAre us (f p)) (h:∀out:QXQ,out.Perm ps->out.Pairwise (λp q=>rM (f q) (f p)=false)->Q (.ref (s.heap.objs.size+1)) {s with heap:=sortedAll s.heap (ps.map Value.ref) (out.map Value.ref).toArray}):wpAny (model prog w) A (call (.builtin "sorted") [.ref l]) Q E s:=by
 have lv:(ps.map Value.ref).length<=sizeLine:=by rw[bi];exact hz
 refine iz kind_sorted plain_sorted entry_sorted (args_sorted1 _) ?_;unfold Builtin.«sorted»;refine bh (m:=checkCount "sorted" 1 1 _) (bj ?_);refine bh (collect_list hl ?_ lv);refine bh (jq ?_ lv);have hsz:((s.heap.push (seqObj "list" #[] 0)).update s.heap.objs.size (Obj.mapSeq (·++(ps.map Value.ref).toArray))).objs.size=s.heap.objs.size+1:=by rw[iM,kF]
 have Pq:(((s.heap.push (seqObj "list" #[] 0)).update s.heap.objs.size (Obj.mapSeq (·++(ps.map Value.ref).toArray))).push (seqObj "list" (ps.map Value.ref).toArray 0)).get? (s.heap.objs.size+1)=some (seqObj "list" (ps.map Value.ref).toArray 0):=by rw[<-hsz];exact bD _ rfl
 show wpAny _ _ _ _ _ {s with heap:=((s.heap.push (seqObj "list" #[] 0)).update s.heap.objs.size (Obj.mapSeq (·++(ps.map Value.ref).toArray))).push (seqObj "list" (ps.map Value.ref).toArray 0)};rw[hsz];have Of:∀p us,s.heap.IsList p us->(qh (((s.heap.push (seqObj "list" #[] 0)).update s.heap.objs.size (Obj.mapSeq (·++(ps.map Value.ref).toArray))).push (seqObj "list" (ps.map Value.ref).toArray 0)) (s.heap.objs.size+1) (ps.map Value.ref)).IsList p us:=λp us ⟨o,e,r⟩=>by have lt:=bB e;refine⟨o,FE (bG (cR lt)) (bp _ ?_),r⟩;rw[jw _ _ _ _ (bG lt)];exact bp _ e
 refine bh (cE (cq slot_list_sort ⟨_,Pq,rfl⟩ entry_list_sort (Bk (lt:=λx y=>rM (Fh f x.1) (Fh f y.1)) (Pk:=λx=>∃p,p∈ps/\x.1=.ref p) (κ:=oneType') ⟨λ_ _=>Fj,λ_ _ _=>El⟩ Pq lv (λQ h2 q=>AB (λp hp'=>?_) (by simpa using h2) q) ?_ (λv hv=>?_) λout a1 a2=>⟨_,rfl,?_⟩) (args_list_sort _)))
 .obtain⟨us,q,_⟩:=hp p hp';exact(Of p _ q).typeIs
 .rintro ⟨x,_⟩ ⟨y,_⟩ ⟨p,p1,e1⟩ ⟨q,p2,e2⟩ Q E h
  cases e1;cases e2;obtain⟨us,q1,q2⟩:=hp p p1;obtain⟨us',q3,q4⟩:=hp q p2;rw[keyLt'_oneType];exact A6 (by show A.units+1+1<cLine;lia) (Of _ _ q1) (Of _ _ q3) q2 q4 h
 .obtain⟨p,hp',rfl⟩:=bP.mp hv;exact⟨p,hp',rfl⟩
 .have:∃o2:QXQ,out=(o2.map Value.ref).toArray/\o2.Perm ps:=by
   let un:Vl->Addr:=λv=>match v with|.ref p=>p|_=>0
   refine⟨out.toList.map un,Array.toList_inj.mp ?_,?_⟩
   .show out.toList=(out.toList.map un).map Value.ref;rw[cj];refine(jI out.toList).symm.trans (gX λv hv=>?_);obtain⟨p,_,rfl⟩:=bP.mp (a1.mem_iff.mp hv);rfl
   .have:=a1.map un;rw[cj]at this;exact this.trans (.of_eq (jI ps))
  obtain⟨o2,rfl,p2⟩:=this;refine bj ⟨_,rfl,h o2 p2 ?_⟩
  simpa [fz,Fh]using a2
variable {X:Cx}
theorem qW:∀{ss:QQQ} {its:T0 Vl},nj (ss.map V.str) its->StrsAre its ss
 | [],[],_=>.nil
 | [],_::_,h=>nomatch h
 | _::_,[],h=>nomatch h
 | n::ns,v::its,h=>by
  cases h with
  | cons a b=>obtain⟨t,rfl⟩:=a;exact .cons _ t (qW b)
theorem uq:∀{ps:QXQ} {its:T0 Vl},nj (ps.map V.ref) its->its=ps.map Value.ref
 | [],[],_=>rfl
 | [],_::_,h=>nomatch h
 | _::_,[],h=>nomatch h
 | n::ns,v::its,h=>by
  cases h with
  | cons a b=>rw[uq b,show v=.ref n from a];rfl
theorem xi:∀ps:QXQ,nj (ps.map V.ref) (ps.map Value.ref)
 | []=>.nil
 | _::ps=>.cons rfl (xi ps)
def yN(hu:X.A.units+9<cLine):sQ X (.builtin "sorted") (λxs H Q=>∃p,∃ps:QXQ,∃f:Addr->QQQ,xs=[.ref p]/\qM X.K H p (ps.map V.ref)/\(∀q∈ps,qM X.K H q ((f q).map V.str))/\∀l (out:QXQ),H l=none->out.Perm ps->out.Pairwise (λp q=>rM (f q) (f p)=false)->Q (.ref l) (upd H l (.lst (out.map V.ref)))):=by
 intro MV s Y H xs us Q I r h;obtain⟨p,ps,f,rfl,hq,hf,q⟩:=h;obtain⟨u,rfl,rx⟩:=sJ r;cases rx;obtain⟨its,r',pl,hz⟩:=I.list hq;obtain rfl:=uq r';refine x8 (f:=f) hu pl.isList (by simpa using hz) (λp hp=>?_) λout a1 a2=>?_
 .obtain⟨its,r2,pl2,_⟩:=I.list (hf p hp);exact⟨its,pl2.isList,qW r2⟩
 .obtain⟨e,he⟩:=sortedAll_at s.heap (ps.map Value.ref) (out.map Value.ref).toArray;refine⟨.ref (s.heap.objs.size+1),_,I.laid (t':=s.toks) (λ_ _=>sortedAll_old) (dF _) (show og X.prog X.w _ _ _ (.lst (out.map V.ref))from⟨?_,out.map Value.ref,e,xi out,he⟩),rfl,q _ out (I.lA.fresh (dF _)) a1 a2⟩;rw[bi,a1.length_eq]
  simpa using hz
end L2
namespace L3
open L2
variable {X:Cx}
def Em(ds:T0 D)(M:Mp)(Q:DK):Prop:=match ds with
 | [.ref a]=>∃ps:QXQ,∃f:Addr->QQQ,md M a=some (ps.map D.ref)/\(∀q∈ps,md M q=some ((f q).map D.str))/\∀(out:QXQ) p,M p=none->out.Perm ps->out.Pairwise (λp q=>rM (f q) (f p)=false)->Q (.ref p) (mN M p (.lst (out.map D.ref)))
 | _=>False
theorem yg{K:mZ}{H:Hp}:∀{ns:QXQ} {vs:T0 V},mS K H (ns.map D.ref) vs->vs=ns.map V.ref
 | [],vs,h=>by cases h;rfl
 | n::ns,vs,h=>by obtain⟨x,r,rfl,h1,h2⟩:=h.inv;rw[h1.k8,yg h2];rfl
theorem zB{K:mZ}{H:Hp}:∀ns:QXQ,mS K H (ns.map D.ref) (ns.map V.ref)
 | []=>.nil
 | _::ns=>.cons .ref (zB ns)
theorem si{K:mZ}{H:Hp}:∀{ns:QQQ} {vs:T0 V},mS K H (ns.map D.str) vs->vs=ns.map V.str
 | [],vs,h=>by cases h;rfl
 | n::ns,vs,h=>by obtain⟨x,r,rfl,h1,h2⟩:=h.inv;rw[h1.str_inv,si h2];rfl
def Au(hu:X.A.units+9<cLine):C3 X (.builtin "sorted") Em:=by
 intro MV s Y H vs us Q' I rv h;obtain⟨ds,M,Q,hd,hm,q,k⟩:=h;unfold Em at q;split at q
 .obtain⟨v,rfl,hv⟩:=nQ hd;obtain⟨ps,f,e0,e1,q⟩:=q;cases hv.k8;obtain⟨xs,h1,h2,_⟩:=mL hm e0;obtain rfl:=yg h2;refine yN hu MV s Y H _ us Q' I rv ⟨_,ps,f,rfl,h1,λp hp=>?_,λl out hl p1 p2=>?_⟩
  .obtain⟨xs,h3,h4,_⟩:=mL hm (e1 p hp);obtain rfl:=si h4;exact h3
  .exact k _ _ _ _ .ref (hm.new (c:=.lst (out.map D.ref)) hl ⟨_,mY,zB out⟩) (.new hl) (q out l (hm.fresh hl) p1 p2)
 .exact q.elim
end L3
namespace L2
variable {X:Cx}
def CY:rH X (compareOp .Gt) (λx y H Q=>∃i j,x=.str i/\y=.str j/\Q (.bl (rg j i)) H):=by intro MV s Y H x y v u Q I rx ry h;obtain⟨i,j,rfl,rfl,q⟩:=h;obtain⟨t,rfl⟩:=rx;obtain⟨t',rfl⟩:=ry;show wpAny _ _ (richCompare .Gt _ _) _ _ s;refine gq (T:="str") (id:="str.__gt__") (eZ s i t) (eZ s j t') iN (cq iN (eZ s i t) PyProof.Rows.entry_str_gt ?_ (PyProof.Rows.args_str_gt _ _));show wpAny _ _ (ret (.bool (decide (j.cps.toList<i.cps.toList)))) _ _ s;exact bj ⟨_,rfl,by simp,wz I q rfl⟩
end L2
namespace L3
open L2
variable {X:Cx}{a b:Expr}{ta tb:T3}{pos:Pos}
def Lc(x y:D)(M:Mp)(Q:DK):Prop:=match x,y with|.str i,.str j=>Q (.bl (rg j i)) M|_,_=>False
def MP:rH X (compareOp .Gt) (R3 X.K Lc):=by
 intro MV s Y H vx vy v u Q' I rx ry h;obtain⟨x,y,M,Q,hx,hy,hm,q,k⟩:=h;unfold Lc at q;split at q
 .cases hx.str_inv;cases hy.str_inv;exact CY MV s Y H _ _ v u Q' I rx ry ⟨_,_,rfl,rfl,k _ _ _ _ .bl hm .refl q⟩
 .exact q.elim
def g3(ta tb:T3):T3:=λU M Q=>ta U M λx M1=>tb U M1 λy M2=>Lc x y M2 Q
def KQ(ha:E3 X a ta)(hb:E3 X b tb)(hm:behindInMarks .Gt b=false:=by first|exact uj _|with_unfolding_all rfl):B3 X (.Compare a [.Gt] [b] pos) (b3 (g3 ta tb)):=PT.mono (vq MP ha hb hm) λY H Q' zz=>x7 zz λU M Q hs hm ht k=>
 wN Y H _ ⟨U,M,_,hs,hm,ht,λv H1 d M1 hd MX e1 q1=>by
  cases d with
  | bl c=>exact⟨c,hd.lh,k c H1 M1 MX e1 q1⟩
  | _=>exact q1.elim⟩
end L3
namespace L2
def LC(a:Addr)(ob:Obj)(ks:QQQ):It:=⟨λi H=>∃kvs,H a=some (.frz ob (.dK kvs))/\kvs.map (·.1)=ks.map Sum.inr/\i<ks.length,λi H x H'=>H'=H/\∃k,ks[i]?=some k/\x=.str k,λi H=>∃kvs,H a=some (.frz ob (.dK kvs))/\kvs.map (·.1)=ks.map Sum.inr/\ks.length<=i⟩
def GS{k:nS}{v:Vl}(h:wg k v=true)(x:Str)(e:k=.inr x):∃t,v=.str x t:=by
 subst e;rcases nL h with⟨_,_,z,_⟩|⟨y,t,z,rfl⟩
 .cases z
 .cases z;exact⟨t,rfl⟩
variable {X:Cx}{MV:T0 (Addr × Obj)}{Y:St}{H:Hp}{s:Sd}
def Dz{P:Pg}{w:Wo}{h:Heap}{a:Addr}{ob:Obj}{es:Array DictEntry}{ep:Nat}{kvs:T0 (nS×V)}(ok:tL P w H h)(e:H a=some (.frz ob (.dK kvs)))(hd:ob.data=.dict es ep):∃vs,KV kvs vs/\h.DictAt (nK P w) a vs ep:=by obtain⟨e1,_,_,vs,kv,o',NK,Po,e2,r1,r2,r3⟩:=(show og P w H h a (.frz ob (.dK kvs))from ok a _ e);rw[e1]at e2;cases e2;rw[hd]at r2;cases r2;exact⟨vs,kv,ob,es,e1,r1,hd,r3⟩
def CU{P:Pg}{w:Wo}{K:mZ}{tg:Expr}(a it:Addr){ob:Obj}{es:Array DictEntry}{ep:Nat}{ks:QQQ}(hd:ob.data=.dict es ep):wG P w K tg (LC a ob ks) [it] it (λi h=>h.IsKeyIter it a i ks.length ep) where
 mem:=by simp
 obj:=λi h st b hb=>by
  have e:b=it:=by simpa using hb
  subst e;obtain⟨o,e,c,d⟩:=st;exact⟨o,e,λv z=>by rw[d]at z;cases z⟩
 keep:=λi h h' st k=>st.at λo e=>k it (by simp) o e
 item:=by
  intro X hP hw hK hc i MV s Y H E I hf st hg;subst hP hw hK;obtain⟨kvs,e1,ke,lt⟩:=hg;obtain⟨vs,kv,da⟩:=Dz I.lA e1 hd;have kk:=(KV.keys kv).symm.trans ke;have ln:ks.length=vs.length:=by
   have:=de List.length kk
   simpa using this.symm
  obtain⟨f0,f1,f2,f3,f4,f5⟩:=hf it (by simp);obtain⟨⟨k,y⟩,hx⟩:∃p,vs[i]?=some p:=⟨_,bC (by lia)⟩;obtain⟨z,hz⟩:∃z,ks[i]?=some z:=⟨_,bC lt⟩;have ek:k=.inr z:=by
   have e2:=de (λl:List nS=>l[i]?) kk
   simpa only [bJ,hx,hz,fT,io]using e2
  rw[ln]at st;refine wpAny_pyNext_dict_item st da hx λkey h' Oc MY sb=>?_;obtain⟨t,rfl⟩:=GS Oc z ek;have I1:Inv X MV Y H {s with heap:=h'}:=I.turned (t':=s.toks) (λb o hb e=>(sb.2 b hb).trans e) f0 f1 f3 f4 f5;obtain⟨o,e,c,d⟩:=id MY;rw[<-ln]at MY;exact⟨_,rfl,Ab (s:={s with heap:=h'}) e c d (by decide) ⟨.str z,H,I1,⟨t,rfl⟩,⟨rfl,z,hz,rfl⟩,MY,λb hb=>(hf b hb).1⟩⟩
 done:=by
  intro X hP hw hK hc i MV s Y H E I hf st hg;subst hP hw hK;obtain⟨kvs,e1,ke,le⟩:=hg;obtain⟨vs,kv,da⟩:=Dz I.lA e1 hd;have ln:ks.length=vs.length:=by
   have:=de List.length ((KV.keys kv).symm.trans ke)
   simpa using this.symm
  obtain⟨f0,f1,f2,f3,f4,f5⟩:=hf it (by simp);rw[ln]at st;exact wpAny_pyNext_dict_end (I.ok.hd hc) st da (dn (by lia)) λh' eb=>⟨rfl,I.turned (t':=s.toks) (λb o hb e=>eb b o hb e) f0 f1 f3 f4 f5⟩
 self:=λ_ _ _ _ _ st h=>wpAny_pyIter_keyiter st h
def Gr{tg l:Expr}{tl:TE}(hl:PE X l tl):PI X tg l (λY H R=>tl Y H λx H1=>∃a kvs ks,x=.ref a/\H1 a=some (.dK kvs)/\kvs.map (·.1)=ks.map Sum.inr/\∀ob,R (LC a ob ks) (upd H1 a (.frz ob (.dK kvs)))):=by
 intro MV s Y H R I h;refine o6 (hl MV s Y H _ I h) λv s1 zz=>?_;obtain⟨x,H1,I1,r1,a,kvs,ks,ex,e1,hk,q⟩:=zz;subst ex;obtain rfl:v=Value.ref a:=r1;obtain⟨z1,z2,vs,kv,ob,es,ep,e2,r⟩:=(show og X.prog X.w H1 s1.heap a (.dK kvs)from I1.lA a _ e1);have I2:Inv X MV Y (upd H1 a (.frz ob (.dK kvs))) s1:=I1.write (x:=a) (e:=a) (t':=s1.toks) (h':=s1.heap) (o:=.frz ob (.dK kvs)) (by rw[e1];trivial) (.inl rfl) (λ_ _ _ e=>e) ⟨_,e2⟩ ⟨e2,z1,z2,vs,kv,ob,es,ep,e2,r⟩;refine wpAny_pyIter_dict (kvs:=vs) (ep:=ep) z2 ⟨ob,es,e2,r⟩ ?_;rw[show vs.length=ks.length by have:=de List.length ((KV.keys kv).symm.trans hk);simpa using this];refine⟨s1.heap.objs.size,[s1.heap.objs.size],_,_,_,rfl,I2.kept (t':=s1.toks) λb o e=>bp _ e,CU a _ r.2.1,⟨_,bD _ rfl,rfl,rfl⟩,λb hb=>?_,q ob⟩;obtain rfl:b=s1.heap.objs.size:=by simpa using hb
 exact I2.lQ (bw _) (I2.lA.fresh (bw _))
end L2
namespace L3
open L2
variable {X:Cx}{K:mZ}{H H1:Hp}{M:Mp}{tg l o i:Expr}{t td tk:T3}{pos:Pos}
def Dv{a:Addr}{ob:Obj}{ks:QQQ}{kvs:T0 (nS×D)}(hk:kvs.map (·.1)=ks.map Sum.inr):wK K H1 (LC a ob ks) (ks.map D.str) (λM=>M a=some (.fd ob kvs)) where
 go:=λi H M hi hm ok e1=>by obtain⟨vs,e,k1,_⟩:=hm a _ ok;exact⟨vs,e,k1.trans hk,by simpa using hi⟩
 mB:=λi d H M x H' hd hm ok e1 y=>by obtain⟨e,k,e2,rfl⟩:=y;subst e;rw[bJ,e2]at hd;cases hd;exact⟨.str,hm,.refl⟩
 stop:=λH M hm ok e1=>by obtain⟨vs,e,k1,_⟩:=hm a _ ok;exact⟨vs,e,k1.trans hk,by simp⟩
def KI(t:T3):Dj:=λU M R=>t U M λx M1=>match x with
 | .ref a=>(xK M1 a).elim False λkvs=>∃ks:QQQ,kvs.map (·.1)=ks.map Sum.inr/\∀ob,R (ks.map D.str) (λM=>M a=some (.fd ob kvs)) (mN M1 a (.fd ob kvs))
 | _=>False
def BL(h:E3 X l t):I3 X tg l (KI t):=PI.mono (Gr h) λY H R' zz=>x7 zz λU M R hs hm ht k=>
 ⟨U,M,_,hs,hm,ht,λv H1 d M1 hd MX e1 q1=>by
  cases d with
  | ref a=>cases hd.k8;obtain⟨kvs,e0,ks,hk,q⟩:=ny q1;obtain⟨vs,h1,h2,h3⟩:=zu MX e0;refine⟨a,vs,ks,rfl,h1,h2.trans hk,λob=>?_⟩;obtain⟨p1,p2⟩:=MX.put (p:=a) (o:=.frz ob (.dK vs)) (c:=.fd ob kvs) (yp e0) λx=>⟨vs,mY,h2,h3.mono x⟩;exact k _ _ _ _ _ (Dv hk) p1 (e1.trans p2) mM (q ob)
  | _=>exact q1.elim⟩
def HQ(M:Mp)(a:Addr):Option (T0 (nS×D)):=match M a with
 | some (.fd _ kvs)=>some kvs
 | _=>none
def Ed{K:mZ}{H:Hp}{M:Mp}{a:Addr}{kvs:T0 (nS×D)}(hm:HM K H M)(h:HQ M a=some kvs):∃ob vs,H a=some (.frz ob (.dK vs))/\vs.map (·.1)=kvs.map (·.1)/\mS K H (kvs.map (·.2)) (vs.map (·.2)):=by
 unfold HQ at h;split at h
 .rename_i e;cases h;obtain⟨vs,r⟩:=hm a _ e;exact⟨_,vs,r⟩
 .cases h
def D8(x y:D)(M:Mp)(Q:DK):Prop:=match x,y with
 | .ref a,.str k=>(HQ M a).elim False λkvs=>(qU kvs (.inr k)).elim False λd=>Q d M
 | _,_=>False
def J2(td tk:T3):T3:=λU M Q=>td U M λx M1=>tk U M1 λy M2=>D8 x y M2 Q
def BB(hu:X.A.units+9<cLine)(ho:E3 X o td)(hi:E3 X i tk)(hs:tY i:=by exact λ_ _=>rfl):E3 X (.Subscript o i pos) (J2 td tk):=by
 refine PE.mono (Cb (r:=R3 X.K D8) (λvalue Nc MV s Y H vx vy v u Q' I rx ry h hs=>?_) ho hi hs) wN;obtain⟨x,y,M,Q,hx,hy,hm,q,k⟩:=h;unfold D8 at q;split at q
 .rename_i a0 k0;obtain⟨kvs,e1,q⟩:=ny q;obtain⟨d,e2,q⟩:=ny q;cases hx.k8;cases hy.str_inv;obtain⟨ob,vs,h1,h2,h3⟩:=Ed hm e1;obtain⟨w,e3,hw⟩:=(yi h2 h3).1 d e2;refine B0 (by lia) value Nc MV s Y H _ _ v u Q' I rx ry ⟨_,w,rfl,?_,k _ _ _ _ hw hm .refl q⟩ hs;have g:AU H a0 (kV (Sum.inr k0)) (rL vs (Sum.inr k0)):=.inl ⟨vs,.inr k0,.inr ⟨ob,h1⟩,rfl,rfl⟩;rw[e3]at g;exact g
 .exact q.elim
def pS(p:Str×Str):D:=.tup [.str p.1,.str p.2]
def qQ(h:Heap):Vl->Option (Str×Str)
 | .ref t=>match h.get? t with
  | some o=>match o.data with
   | .seq its _=>match its.toList with
    | [.str a _,.str b _]=>some (a,b)
    | _=>none
   | _=>none
  | none=>none
 | _=>none
variable {MV:T0 (Addr × Obj)}{Y:L2.St}{s:Sd}
def Ih(I:Inv X MV Y H s){p:Str×Str}{v:V}{u:Vl}(h:nR X.K H (pS p) v)(r:nE v u):qQ s.heap u=some p:=by
 obtain⟨t,xs,rfl,h1,h2⟩:=h.lm;obtain rfl:u=Value.ref t:=r;obtain⟨x1,r1,rfl,g1,g2⟩:=h2.inv;obtain⟨x2,r2,rfl,g3,g4⟩:=g2.inv;cases g1.str_inv;cases g3.str_inv;cases g4.nil_inv;obtain⟨its,rv,pl,_⟩:=I.tuple h1;obtain⟨o,ho,hd⟩:∃o,s.heap.get? t=some o/\∃n,o.data=.seq its.toArray n:=by obtain⟨o,ho,_,n,hd⟩:=pl;exact⟨o,ho,n,hd⟩
 obtain⟨n,hd⟩:=hd;cases rv with
 | cons a1 b1=>
  cases b1 with
  | cons a2 b2=>cases b2;obtain⟨t1,rfl⟩:=a1;obtain⟨t2,rfl⟩:=a2;show(match s.heap.get? t with|some o=>_|none=>none)=some p;rw[ho];show(match o.data with|.seq its _=>_|_=>none)=some p;rw[hd]
theorem EF(I:Inv X MV Y H s):∀{ps:T0 (Str×Str)} {xs:T0 V} {us:T0 Vl},mS X.K H (ps.map pS) xs->nj xs us->us.map (qQ s.heap)=ps.map some
 | [],xs,us,h,r=>by cases h.nil_inv;cases r;rfl
 | p::ps,xs,us,h,r=>by
  obtain⟨x,xs',rfl,h1,h2⟩:=h.inv;cases r with
  | cons a b=>rw[cb,cb,Ih I h1 a,EF I h2 b]
def Jv(x y:D)(M:Mp)(Q:DK):Prop:=match x,y with
 | .tup [.str a,.str b],.ref p=>∃ps:T0 (Str×Str),md M p=some (ps.map pS)/\Q (.bl (ps.contains (a,b))) M
 | _,_=>False
def Gp(p q:Str×Str):vM M 8 (pS p) (pS q)=some (p==q):=by have:vM M 8 (pS p) (pS q)=some (((p.1==q.1)&&((p.2==q.2)&&true))&&true):=rfl;rw[this,kQ,kQ];rfl
def LW(hu:X.A.units+9<cLine):rH X (compareOp .In) (R3 X.K Jv):=by
 intro MV s Y H vx vy v u Q' I rx ry h;obtain⟨x,y,M,Q,hx,hy,hm,q,k⟩:=h;unfold Jv at q;split at q
 .rename_i a b p;obtain⟨ps,e0,q⟩:=q;cases hy.k8;cases ry;obtain⟨xs,h1,h2,_⟩:=mL hm e0;obtain⟨its,r,pl,hz⟩:=I.list h1;have pa:=EF I h2 r;refine ky (λw=>qQ s.heap w==some (a,b)) pl.isList (λw hw=>?_) ⟨.bl _,H,I,rfl,k _ _ _ _ .bl hm .refl (cast ?_ q)⟩
  .obtain⟨i,hi⟩:=List.getElem?_of_mem (by simpa using hw:w∈its);have hj:=de (λl:T0 (Option (Str×Str))=>l[i]?) pa;simp only[bJ,hi,fT]at hj;cases e:ps[i]? with
   | none=>rw[e]at hj;cases hj
   | some p0=>rw[e]at hj;have hj:qQ s.heap w=some p0:=bH hj;obtain⟨v0,e3,hv⟩:=h2.get (i:=i) (d:=pS p0) (by rw[bJ,e];rfl);obtain⟨w',e4,OE⟩:=r.get e3;rw[hi]at e4;cases e4;have:=(uk I hm 8 X.A.in1 (pS p0) (pS (a,b)) (p0==(a,b)) v0 _ w v (by show X.A.units+1+8<cLine;lia) (Gp p0 (a,b)) hv hx OE rx).2.1;show SeqAt.EqAt _ _ _ _ (qQ s.heap w==some (a,b));rw[hj];exact this
  .have:(its.toArray.any λw=>qQ s.heap w==some (a,b))=ps.contains (a,b):=by
    rw[show(its.toArray.any λw=>qQ s.heap w==some (a,b))=its.any λw=>qQ s.heap w==some (a,b)by simp];have e1:(its.any λw=>qQ s.heap w==some (a,b))=(its.map (qQ s.heap)).any (·==some (a,b)):=by rw[gS];rfl
    rw[e1,pa,gS,iO];congr 1;funext z;show(some z==some (a,b))=((a,b)==z);rw[kR];rfl
   rw[this]
 .exact q.elim
def MT(ta tb:T3):T3:=λU M Q=>ta U M λx M1=>tb U M1 λy M2=>Jv x y M2 Q
def Jx{a b:Expr}{ta tb:T3}{pos:Pos}(hu:X.A.units+9<cLine)(ha:E3 X a ta)(hb:E3 X b tb)(hm:behindInMarks .In b=false:=by first|exact uj _|with_unfolding_all rfl):E3 X (.Compare a [.In] [b] pos) (MT ta tb):=PE.mono (yw (LW hu) ha hb hm) wN
end L3
namespace L2
theorem Bw(f:Nat->Str):∀k,argBest (λi j=>rg (f i) (f j)) k<=k/\∀j,j<=k->rg (f j) (f (argBest (λi j=>rg (f i) (f j)) k))=false
 | 0=>⟨bw _,λj hj=>by
   have:j=0:=by lia
   subst this;exact uC _⟩
 | k+1=>by
  obtain⟨h1,h2⟩:=Bw f k;simp only[argBest];generalize argBest (λi j=>rg (f i) (f j)) k=b at h1 h2;by_cases hc:rg (f (k+1)) (f b)=true
  .rw[bA hc];refine⟨bw _,λj hj=>?_⟩;rcases gc j (k+1)with Nd|hge
   .have h3:=h2 j (by lia);cases z:rg (f j) (f (k+1))with
    | false=>rfl
    | true=>rw[DN z hc]at h3;cases h3
   .have:j=k+1:=by lia
    subst this;exact uC _
  .rw[bv hc];refine⟨by lia,λj hj=>?_⟩;rcases gc j (k+1)with Nd|hge
   .exact h2 j (by lia)
   .have:j=k+1:=by lia
    subst this
    simpa using hc
variable {prog:Pg}{w:Wo}{A:Ar}{E:QQX}{s:Sd}
def Df{l:Addr}{its:Array Vl}{Q:QQX}(hl:s.heap.IsList l its) (h:∀s₂:Sd,s₂={s with heap:=s.heap.push {cls:=.type "list_iterator",data:=.fields #[.ref l,.int 0 0]}}->
   (s₂.heap.IsListIter s.heap.objs.size l 0/\s₂.heap.IsList l its)->(∀b∈[s.heap.objs.size,l],b<s₂.heap.objs.size)->l≠s.heap.objs.size->Q (.ref s.heap.objs.size) s₂):
  wpAny (model prog w) A (pyIter (.ref l)) Q E s:=by
 have Nd:l<s.heap.objs.size:=by obtain⟨_,e,_⟩:=hl;exact bB e
 refine eG hl (h _ rfl ⟨⟨_,bD _ rfl,rfl,rfl⟩,hl.push _⟩ (λb hb=>?_) (bG Nd));show b<(s.heap.push _).objs.size;rw[bY];rcases bq.mp hb with rfl|hb
 .exact dM _
 .rw[bK.mp hb];exact cR Nd
def Fi{l:Addr}{vs:T0 Vl}{ss:QQQ}{Q:QQX}(hh:A.handled=none)(hl:s.heap.IsList l vs.toArray)(hS:StrsAre vs ss)(NY:0<ss.length) (h:∀m t h' tk,m∈ss->(∀n∈ss,rg n m=false)->(∀b o,s.heap.get? b=some o->h'.get? b=some o)->Q (.str m t) {s with heap:=h',toks:=tk}):
  wpAny (model prog w) A (call (.builtin "min") [.ref l]) Q E s:=by
 have Na:=hS.length;have at_:∀i v,vs.toArray[i]?=some v->∃t,v=Value.str (ss.getD i Str.empty) t:=λi v hv=>by
  rw[fD]at hv;rcases vn hS i with⟨e1,_⟩|⟨x,t,e1,e2⟩
  .rw[e1]at hv;cases hv
  .rw[e1]at hv;cases hv;exact⟨t,by rw[dJ,e2];rfl⟩
 refine call_min_walk (Df hl λs₂ e st hfp hlI=>?_);subst e;refine⟨_,_,_,_,_,_,λi j=>rg (ss.getD i Str.empty) (ss.getD j Str.empty),rfl,iv (A:=A.in1) hh _ l hlI vs.toArray,st,hfp,by rw[bz];lia,λi j vi vj s Q E hi hj hq=>?_,λv h' tk hP hk=>?_⟩
 .obtain⟨t,rfl⟩:=at_ i vi hi;obtain⟨u,rfl⟩:=at_ j vj hj;exact gq (op:=.Lt) (T:="str") (id:="str.__lt__") (eZ s _ t) (eZ s _ u) slot_str_lt (call_str_lt ⟨by simp,hq⟩)
 .obtain⟨t,rfl⟩:=at_ _ v hP;rw[bz,Na];obtain⟨g1,g2⟩:=Bw (λi=>ss.getD i Str.empty) (ss.length - 1);generalize argBest (λi j=>rg (ss.getD i Str.empty) (ss.getD j Str.empty)) (ss.length - 1)=b at g1 g2;have hb:b<ss.length:=by lia
  refine h _ t h' tk ?_ (λn hn=>?_) (old_kept hk)
  .rw[dJ,bC hb];exact fM hb
  .obtain⟨j,hj,rfl⟩:=fR hn;have:=g2 j (by lia)
   rwa [show ss.getD j Str.empty=ss[j]by rw[dJ,bC hj];rfl]at this
variable {X:Cx}
def Bd(hu:X.A.units<cLine):rH X (compareOp .Lt) (λx y H Q=>∃p q xs ys,x=.ref p/\y=.ref q/\qM X.K H p (List.map V.str xs)/\qM X.K H q (List.map V.str ys)/\Q (.bl (rM xs ys)) H):=by intro MV s Y H x y v u Q I rx ry h;obtain⟨p,q,xs,ys,rfl,rfl,h1,h2,qq⟩:=h;cases rx;cases ry;obtain⟨its,r1,pl1,_⟩:=I.list h1;obtain⟨NV,r2,pl2,_⟩:=I.list h2;have Ta:s.TypeIs (.ref p) "list":=pl1.isList.typeIs;have Tb:s.TypeIs (.ref q) "list":=pl2.isList.typeIs;show wpAny _ _ (richCompare .Lt _ _) _ _ s;refine wpAny_richCompare_same_room (T:="list") (id:="list.__lt__") Ta Tb fH (gi (eK fH.plain kH (fH.check _ _ _ _ _ _ _ _ Ta (kn _ _) ?_))) hu;show wpAny _ _ (isInstance (.ref q) (.type "list")>>=_) _ _ s;refine bh (fN (T:="list") (b:=true) Tb (by rw[d6];kernel_rfl) ?_);refine pU (by decide) (pU (by decide) (bj ⟨dH qg _,?_⟩));refine B1 pl1.isList pl2.isList (qW r1) (qW r2) (xs.length+1) 0 (by lia) (cF _) ?_;exact⟨by simp,wz I qq rfl⟩
end L2
namespace L3
open L2
def zI(h:Heap):Vl->QQQ
 | .ref t=>match h.get? t with
  | some o=>match o.data with
   | .seq its _=>its.toList.map strOf
   | _=>[]
  | none=>[]
 | _=>[]
variable {X:Cx}{a b:Expr}{ta tb:T3}{pos:Pos}
def Hw(ds:T0 D)(M:Mp)(Q:DK):Prop:=match ds with
 | [.ref a]=>∃ss:QQQ,md M a=some (ss.map D.str)/\0<ss.length/\∀m∈ss,(∀n∈ss,rg n m=false)->Q (.str m) M
 | _=>False
def Bt(hc:X.calm=true):C3 X (.builtin "min") Hw:=by
 intro MV s Y H vs us Q' I rv h;obtain⟨ds,M,Q,hd,hm,q,k⟩:=h;unfold Hw at q;split at q
 .rename_i a;obtain⟨v,rfl,hv⟩:=nQ hd;obtain⟨ss,e0,hn,q⟩:=q;cases hv.k8;obtain⟨u,rfl,ru⟩:=sJ rv;cases ru;obtain⟨xs,h1,h2,_⟩:=mL hm e0;obtain rfl:=si h2;obtain⟨its,r,pl,hz⟩:=I.list h1;exact Fi (I.ok.hd hc) pl.isList (qW r) hn λm t h' tk MX Nj hk=>⟨.str m,H,I.kept (h':=h') (t':=tk) hk,⟨t,rfl⟩,k _ _ _ _ .str hm .refl (q m MX Nj)⟩
 .exact q.elim
def Ij(x y:D)(M:Mp)(Q:DK):Prop:=match x,y with
 | .ref p,.ref q=>∃xs ys:QQQ,md M p=some (xs.map D.str)/\md M q=some (ys.map D.str)/\Q (.bl (rM xs ys)) M
 | _,_=>False
def Lr(hu:X.A.units+9<cLine):rH X (compareOp .Lt) (R3 X.K Ij):=by
 intro MV s Y H vx vy v u Q' I rx ry h;obtain⟨x,y,M,Q,hx,hy,hm,q,k⟩:=h;unfold Ij at q;split at q
 .obtain⟨xs,ys,e1,e2,q⟩:=q;cases hx.k8;cases hy.k8;obtain⟨vs,h1,h2,_⟩:=mL hm e1;obtain⟨us,g1,g2,_⟩:=mL hm e2;obtain rfl:=si h2;obtain rfl:=si g2;exact Bd (by lia) MV s Y H _ _ v u Q' I rx ry ⟨_,_,xs,ys,rfl,rfl,h1,g1,k _ _ _ _ .bl hm .refl q⟩
 .exact q.elim
def MK(ta tb:T3):T3:=λU M Q=>ta U M λx M1=>tb U M1 λy M2=>Ij x y M2 Q
def Jl(hu:X.A.units+9<cLine)(ha:E3 X a ta)(hb:E3 X b tb)(hm:behindInMarks .Lt b=false:=by first|exact uj _|with_unfolding_all rfl):B3 X (.Compare a [.Lt] [b] pos) (b3 (MK ta tb)):=PT.mono (vq (Lr hu) ha hb hm) λY H Q' zz=>x7 zz λU M Q hs hm ht k=>
 wN Y H _ ⟨U,M,_,hs,hm,ht,λv H1 d M1 hd MX e1 q1=>by
  cases d with
  | bl c=>exact⟨c,hd.lh,k c H1 M1 MX e1 q1⟩
  | _=>exact q1.elim⟩
def Ew(x y:D)(M:Mp)(Q:DK):Prop:=match x,y with
 | .ref p,.ref q=>∃(xs:QQQ) (ps:QXQ) (f:Addr->QQQ),md M p=some (xs.map D.str)/\md M q=some (ps.map D.ref)/\(∀z∈ps,md M z=some ((f z).map D.str))/\Q (.bl (!(ps.any λz=>f z==xs))) M
 | _,_=>False
theorem BM{M:Mp}:∀xs ys:QQQ,xs.length=ys.length->oC (vM M 7) (xs.map D.str) (ys.map D.str)=some (xs==ys)
 | [],[],_=>rfl
 | [],_::_,h=>by cases h
 | _::_,[],h=>by cases h
 | x::xs,y::ys,h=>by show(some (x==y)).bind _=_;show(oC (vM M 7) (xs.map D.str) (ys.map D.str)).map (λq=>(x==y)&&q)=_;rw[BM xs ys (by simpa using h)];rfl
def GJ{M:Mp}{p q:Addr}{xs ys:QQQ}(h1:md M p=some (xs.map D.str))(h2:md M q=some (ys.map D.str)):vM M 8 (.ref p) (.ref q)=some (xs==ys):=by
 show((md M p).bind λi=>(md M q).bind λj=>if i.length=j.length then oC (vM M 7) i j else some false)=_;rw[h1,h2];show(if (xs.map D.str).length=(ys.map D.str).length then oC (vM M 7) (xs.map D.str) (ys.map D.str)else some false)=_;rw[bi,bi];by_cases e:xs.length=ys.length
 .rw[bA e,BM xs ys e]
 .rw[bv e];have:(xs==ys)=false:=dX.mpr λz=>e (de List.length z);rw[this]
def E8{MV:QQY}{Y:L2.St}{H:Hp}{s:Sd}{M:Mp}(I:Inv X MV Y H s)(hm:HM X.K H M){q:Addr}{r:QQQ}(e:md M q=some (r.map D.str)):zI s.heap (.ref q)=r:=by obtain⟨xs,h1,h2,_⟩:=mL hm e;obtain rfl:=si h2;obtain⟨its,rv,pl,_⟩:=I.list h1;obtain⟨o,ho,_,n,hd⟩:=pl.isList;show(match s.heap.get? q with|some o=>_|none=>[])=r;rw[ho];show(match o.data with|.seq its _=>_|_=>[])=r;rw[hd];exact(qW rv).strs
def LD(hu:X.A.units+9<cLine):rH X (compareOp .NotIn) (R3 X.K Ew):=by
 intro MV s Y H vx vy v u Q' I rx ry h;obtain⟨x,y,M,Q,hx,hy,hm,q,k⟩:=h;unfold Ew at q;split at q
 .rename_i p p2;obtain⟨xs,ps,f,e1,e2,e3,q⟩:=q;cases hy.k8;cases ry;obtain⟨vs,h1,h2,_⟩:=mL hm e2;obtain rfl:=yg h2;obtain⟨its,r,pl,hz⟩:=I.list h1;obtain rfl:=uq r;refine jF (λw=>zI s.heap w==xs) pl.isList (λw hw=>?_) ⟨.bl _,H,I,rfl,k _ _ _ _ .bl hm .refl (cast ?_ q)⟩
  .obtain⟨z,Pj,rfl⟩:=bP.mp (by simpa using hw:w∈ps.map Value.ref);have:=(uk I hm 8 X.A.in1 (.ref z) (.ref p) (f z==xs) (.ref z) _ (.ref z) v (by show X.A.units+1+8<cLine;lia) (GJ (e3 z Pj) e1) .ref hx rfl rx).2.1;show SeqAt.EqAt _ _ _ _ (zI s.heap (.ref z)==xs);rw[E8 I hm (e3 z Pj)];exact this
  .have:((ps.map Value.ref).toArray.any λw=>zI s.heap w==xs)=ps.any λz=>f z==xs:=by rw[List.any_toArray,gS,kA,eP,eP];refine exists_congr λz=>and_congr_right λPj=>?_;show(zI s.heap (.ref z)==xs)=true↔_;rw[E8 I hm (e3 z Pj)]
   rw[this]
 .exact q.elim
def MQ(ta tb:T3):T3:=λU M Q=>ta U M λx M1=>tb U M1 λy M2=>Ew x y M2 Q
def FR(hu:X.A.units+9<cLine)(ha:E3 X a ta)(hb:E3 X b tb)(hm:behindInMarks .NotIn b=false:=by first|exact uj _|with_unfolding_all rfl):B3 X (.Compare a [.NotIn] [b] pos) (b3 (MQ ta tb)):=PT.mono (vq (LD hu) ha hb hm) λY H Q' zz=>x7 zz λU M Q hs hm ht k=>
 wN Y H _ ⟨U,M,_,hs,hm,ht,λv H1 d M1 hd MX e1 q1=>by
  cases d with
  | bl c=>exact⟨c,hd.lh,k c H1 M1 MX e1 q1⟩
  | _=>exact q1.elim⟩
end L3
namespace L3
open L2
def Cj(i:Nat){X:Cx}{pos:Pos}{x:Str}(h1:X.N[i]?=some x:=by rfl)(h2:Km X.env.scope x:=by first|exact Or.inl rfl|exact Or.inr (Or.inl rfl)|exact Or.inr (Or.inr rfl))(h3:ve x:=by decide)(h4:(x==("__classdict__":Str))=false:=by decide):E3 X (.Name x pos) (v3 i):=HK i (pv i h1 h2 h3 h4)
variable {X:Cx}{pos:Pos}
def MM{N:QQQ}(h:decide N.Nodup=true):N.Nodup:=eH h
def nh(i:Nat){x:Str}{e:Expr}{te:T3}{Nq:Pos}{ps:QQQ}{sc:Scope}(S:pQ X.N ps sc)(he:E3 X e te)(hi:X.N[i]?=some x:=by rfl)(hx:Dk X.env.scope x:=by first|exact Or.inl rfl|exact Or.inr rfl)(OK:swapsWith e (some (.Name x Nq)) pos.line X.env=pure false:=by rfl)(hf:DW X x:=by first|exact .inl rfl|exact .inr rfl|assumption):S3 X (.Assign [.Name x Nq] e pos) (Ig te (rA i)):=Iu S.nd hi hx he OK hf
def oh(i:Nat){x:Str}{ps:QQQ}{sc:Scope}(S:pQ X.N ps sc)(hi:X.N[i]?=some x:=by rfl)(hx:Dk X.env.scope x:=by first|exact Or.inl rfl|exact Or.inr rfl)(hf:DW X x:=by first|exact .inl rfl|exact .inr rfl|assumption):G3 X (.Name x pos) (rA i):=BY S.nd hi hx hf
def nO(i:Nat){x:Str}(hN:decide X.N.Nodup=true:=by kernel_rfl)(hi:X.N[i]?=some x:=by rfl)(hx:Dk X.env.scope x:=by first|exact Or.inl rfl|exact Or.inr rfl)(hf:DW X x:=by first|exact .inl rfl|exact .inr rfl|assumption):G3 X (.Name x pos) (rA i):=BY (MM hN) hi hx hf
abbrev Sc(n:Nat)(N:QQQ)(s:Stmt):=pQ N (N.take n) (m8 s)
def sk{n:Nat}{N:QQQ}{s:Stmt}(h:IV N (N.take n) (m8 s)=true:=by decide+kernel):Sc n N s:=MS h
def oB{X:Cx}{e0:Expr}{t0:T3}(h0:E3 X e0 t0)(g0:starEach [e0] X.env=(false,eval e0 X.env)::starEach [] X.env:=by rfl):A3 X [e0] (sX t0 vH):=(pk h0 rc g0)
def qd{X:Cx}{e0 e1:Expr}{t0 t1:T3}(h0:E3 X e0 t0)(h1:E3 X e1 t1)(g0:starEach [e0,e1] X.env=(false,eval e0 X.env)::starEach [e1] X.env:=by rfl)(g1:starEach [e1] X.env=(false,eval e1 X.env)::starEach [] X.env:=by rfl):A3 X [e0,e1] (sX t0 (sX t1 vH)):=(pk h0 (pk h1 rc g1) g0)
def tE{X:Cx}{e0 e1 e2:Expr}{t0 t1 t2:T3}(h0:E3 X e0 t0)(h1:E3 X e1 t1)(h2:E3 X e2 t2)(g0:starEach [e0,e1,e2] X.env=(false,eval e0 X.env)::starEach [e1,e2] X.env:=by rfl)(g1:starEach [e1,e2] X.env=(false,eval e1 X.env)::starEach [e2] X.env:=by rfl)(g2:starEach [e2] X.env=(false,eval e2 X.env)::starEach [] X.env:=by rfl):A3 X [e0,e1,e2] (sX t0 (sX t1 (sX t2 vH))):=(pk h0 (pk h1 (pk h2 rc g2) g1) g0)
abbrev u0:=@Cj 0
abbrev V1:=@Cj 1
abbrev V2:=@Cj 2
abbrev V3:=@Cj 3
abbrev v5:=@Cj 5
abbrev v4:=@Cj 4
abbrev v6:=@Cj 6
abbrev v7:=@Cj 7
abbrev v8:=@Cj 8
abbrev v9:=@Cj 9
abbrev MB:=@Cj 10
abbrev Mj:=@Cj 12
abbrev Mq:=@Cj 11
abbrev Mw:=@Cj 13
variable {P:Pg}{w:Wo}{K:mZ}{mg:QQZ}{base:Heap}
def fq{x qual:Str}{st:Stmt}{fa:FA}{N ps:QQQ}{k:Nat}{sp:pJ}(F:DG K st x qual ps fa)(S:pQ N ps (m8 st)) (hb:∀{Nk:Vl} {A:Ar} {outer:T0 Env} {s:Sd} {H:Hp} {E:XK},oE k (A.deeper (envOfC qual (m8 st) s.heap.objs.size fa.f Nk))->(A.deeper (envOfC qual (m8 st) s.heap.objs.size fa.f Nk)).units+9<cLine->
   ∃t,Ee (yr FC P w K mg base N qual (m8 st) fa.f Nk A outer s H E).mj (oz st) t/\∀ds M Q,sp ds M Q->t {nx:=λ_ M'=>∃Nn,oj Nn M'/\Q .lw Nn,rt:=λd M'=>∃Nn,oj Nn M'/\Q d Nn} (um N ds) M) (len:∀ds M Q,sp ds M Q->ds.length=ps.length:=by walk_at "l"):Fq P w K mg base (k+1) fa sp:=LL F S len λ_ _ _ _ _ _ h=>hb h (MD h)
def yO{X:Cx}{scope:Scope}{ix:T0 (Option Nat)}{N':QQQ}(h:AV X.env.scope X.N scope ix N'=true:=by kernel_rfl):nZ X scope ix N':=KO h
end L3
namespace Z
open L2 L3
def Ac{M:L3.Mp}{x:PySem.Addr}{ds:T0 L3.D}(h:M x=none):∃M',M'=L3.mN M x (.lst ds)/\oj M M'/\L3.md M' x=some ds:=⟨_,rfl,oj.new h,L3.mQ⟩
def qr(i:Nat):Stmt:=PySem.Challenge.pw_callboard_k35_rings_of_many_names.main.body.getD i (.Pass ⟨0,0,0,0⟩)
abbrev tm(i j:Nat):Stmt:=FG (qr i) j
def qO:Sc 1 ["plan","goals","on","wish"] (qr 2):=sk
def pC:Sc 2 ["goals","path","found","goal"] (qr 3):=sk
def qF:Sc 1 ["plan","goals","found","name"] (qr 4):=sk
def wc:Sc 1 ["told","word"] (qr 20):=sk
def Gb:Sc 2 ["holds","words"] (qr 35):=sk
def Az:Sc 1 ["text"] (qr 36):=sk
def wX:Sc 1 ["things"] (qr 37):=sk
def xT:Sc 3 ["chosen","known","most"] (qr 38):=sk
def oU:Sc 1 ["phones","name","lines","rank"] (qr 39):=sk
def oV:Sc 2 ["groups","phone_names","name","manner","members"] (qr 40):=sk
def wV:Sc 4 ["kind","part","phone_names","names"] (qr 41):=sk
def oT:Sc 3 ["wish","phone_names","names","form","parts","kind","part"] (qr 42):=sk
def pX:Sc 3 ["wishes","phone_names","names","on","wish"] (qr 43):=sk
def qS:Sc 3 ["phones","groups","wishes","phone_names","names"] (qr 44):=sk
def Cz:Sc 2 ["_law_script","_law_k"] (qr 47):=sk
def zO:Sc 3 ["_law_cell","_law_factor","_law_many"] (qr 48):=sk
def o9:Sc 2 ["_law_seed","_law_which","_law_letters","_law_size","_law_place","_law_rest","_law_sign"] (qr 49):=sk
def rO:Sc 3 ["_law_row","_law_cell","_law_most","_law_first","_law_size"] (qr 50):=sk
def pR:Sc 2 ["_law_seed","_law_own","_law_groups_here","_law_g","_law_manner"] (qr 51):=sk
def om:Sc 2 ["_law_cell","_law_names","_law_place","_law_b","_law_c","_law_hour","_law_some_here"] (qr 52):=sk
def rT:Sc 2 ["_law_rows","_law_pairs","_law_k","_law_row"] (qr 53):=sk
def oA:Sc 3 ["_law_pairs","_law_cell","_law_name","_law_come","_law_step","_law_nexts","_law_row","_law_least"] (qr 54):=sk
def oM:Sc 1 ["_law_script","_law_seed","_law_phones","_law_own","_law_groups_here","_law_names","_law_wishes","_law_k","_law_cell","_law_told","_law_pair","_law_pairs","_law_found","_law_row"] (qr 55):=sk
def yV:Sc 4 ["self","phones","groups","wishes"] (tm 45 0):=sk
def wD:Sc 1 ["self"] (tm 45 1):=sk
def zA:Sc 2 ["self","told"] (tm 11 0):=sk
def yh:Sc 1 ["self"] (tm 11 1):=sk
def yT:Sc 1 ["self"] (tm 10 1):=sk
def yR:Sc 2 ["self","told"] (tm 12 0):=sk
def wM:Sc 1 ["self"] (tm 12 1):=sk
def u7:Sc 2 ["self","told"] (tm 13 0):=sk
def ux:Sc 1 ["self"] (tm 13 1):=sk
def w9:Sc 2 ["self","told"] (tm 15 0):=sk
def vT:Sc 2 ["self","told"] (tm 17 0):=sk
def yK:Sc 2 ["self","told"] (tm 18 0):=sk
def wJ:Sc 1 ["self"] (tm 18 1):=sk
def wC:Sc 2 ["self","told"] (tm 19 0):=sk
def uX:Sc 1 ["self"] (tm 19 1):=sk
def sE:Sc 1 ["self"] (tm 45 2):=sk
def yz:Sc 2 ["self","told"] (tm 10 0):=sk
noncomputable def Dg:T0 (Str×QQQ):=[("bar",["phone","names"]),("shut",["name","phones"]),("always",["name","name"]),("night",["name","name","hour","hour"]),("busy",["name","name"]),("silent",["name","name","turns"]),("wait",["phone"]),("breaks",["phone"])]
set_option genInjectivity false in
structure Ad where
 (C h aa ab i E F y ac ad ae af ag ah H j I ai aj ak al am J L an M N g O P t k Q R S T U V ao w:FA)
 (x l m z u n v o q r e:Addr)
structure Gl(K:mZ)(mg:QQZ)(a:Ad):Prop where
 x:CG K mg "Wish" a.x
 l:CG K mg "Bar" a.l
 m:CG K mg "Shut" a.m
 z:CG K mg "Forward" a.z
 u:CG K mg "Always" a.u
 n:CG K mg "Night" a.n
 v:CG K mg "Busy" a.v
 o:CG K mg "Silent" a.o
 q:CG K mg "Wait" a.q
 r:CG K mg "Breaks" a.r
 e:CG K mg "Plan" a.e
 C:TG K mg (qr 2) "goals_of" ["plan"] a.C
 h:TG K mg (qr 3) "rings_along" ["goals","path"] a.h
 aa:TG K mg (qr 4) "rings_of" ["plan"] a.aa
 ab:TG K mg (qr 20) "wish_of" ["told"] a.ab
 i:TG K mg (qr 35) "need" ["holds","words"] a.i
 E:TG K mg (qr 36) "is_name" ["text"] a.E
 F:TG K mg (qr 37) "all_unlike" ["things"] a.F
 y:TG K mg (qr 38) "is_choice" ["chosen","known","most"] a.y
 ac:TG K mg (qr 39) "check_phones" ["phones"] a.ac
 ad:TG K mg (qr 40) "check_groups" ["groups","phone_names"] a.ad
 ae:TG K mg (qr 41) "part_holds" ["kind","part","phone_names","names"] a.ae
 af:TG K mg (qr 42) "check_wish" ["wish","phone_names","names"] a.af
 ag:TG K mg (qr 43) "check_wishes" ["wishes","phone_names","names"] a.ag
 ah:TG K mg (qr 44) "check_plan" ["phones","groups","wishes"] a.ah
 H:TG K mg (qr 47) "_law_at" ["_law_script","_law_k"] a.H
 j:TG K mg (qr 48) "_law_draw" ["_law_cell","_law_factor","_law_many"] a.j
 I:TG K mg (qr 49) "_law_word" ["_law_seed","_law_which"] a.I
 ai:TG K mg (qr 50) "_law_some" ["_law_row","_law_cell","_law_most"] a.ai
 aj:TG K mg (qr 51) "_law_groups" ["_law_seed","_law_own"] a.aj
 ak:TG K mg (qr 52) "_law_forward" ["_law_cell","_law_names"] a.ak
 al:TG K mg (qr 53) "_law_good" ["_law_rows","_law_pairs"] a.al
 am:TG K mg (qr 54) "_law_round" ["_law_pairs","_law_cell","_law_name"] a.am
 J:TG K mg (qr 55) "law" ["_law_script"] a.J
 L:MG K a.e (tm 45 0) "__init__" "Plan.__init__" ["self","phones","groups","wishes"] a.L
 an:MG K a.e (tm 45 1) "names" "Plan.names" ["self"] a.an
 M:MG K a.l (tm 11 0) "__init__" "Bar.__init__" ["self","told"] a.M
 N:MG K a.l (tm 11 1) "wants" "Bar.wants" ["self"] a.N
 g:MG K a.x (tm 10 1) "told" "Wish.told" ["self"] a.g
 O:MG K a.m (tm 12 0) "__init__" "Shut.__init__" ["self","told"] a.O
 P:MG K a.m (tm 12 1) "wants" "Shut.wants" ["self"] a.P
 t:MG K a.z (tm 13 0) "__init__" "Forward.__init__" ["self","told"] a.t
 k:MG K a.z (tm 13 1) "wants" "Forward.wants" ["self"] a.k
 Q:MG K a.n (tm 15 0) "__init__" "Night.__init__" ["self","told"] a.Q
 R:MG K a.o (tm 17 0) "__init__" "Silent.__init__" ["self","told"] a.R
 S:MG K a.q (tm 18 0) "__init__" "Wait.__init__" ["self","told"] a.S
 T:MG K a.q (tm 18 1) "wants" "Wait.wants" ["self"] a.T
 U:MG K a.r (tm 19 0) "__init__" "Breaks.__init__" ["self","told"] a.U
 V:MG K a.r (tm 19 1) "wants" "Breaks.wants" ["self"] a.V
 ao:MG K a.e (tm 45 2) "phone_names" "Plan.phone_names" ["self"] a.ao
 w:MG K a.x (tm 10 0) "__init__" "Wish.__init__" ["self","told"] a.w
 aK:Mk K a.e a.L.f
 aL:Mk K a.l a.M.f
 aM:Mk K a.m a.O.f
 aN:Mk K a.u a.t.f
 aO:Mk K a.n a.Q.f
 aP:Mk K a.v a.t.f
 aQ:Mk K a.o a.R.f
 aR:Mk K a.q a.S.f
 aS:Mk K a.r a.U.f
 aT:tF K a.u "wants" a.k.f
 aU:tF K a.n "wants" a.k.f
 aV:tF K a.v "wants" a.k.f
 aW:tF K a.o "wants" a.k.f
 aX:tF K a.l "told" a.g.f
 aY:tF K a.m "told" a.g.f
 aZ:tF K a.u "told" a.g.f
 a0:tF K a.n "told" a.g.f
 a1:tF K a.v "told" a.g.f
 a2:tF K a.o "told" a.g.f
 a3:tF K a.q "told" a.g.f
 a4:tF K a.r "told" a.g.f
 X:DR K a.x "__init__" a.w.f
 aA:DR K a.z "__init__" a.t.f
 A:uW K a.e ["phones","groups","wishes","on","phone_rows","group_rows"]
 ar:uW K a.l ["form","phone","targets"]
 au:uW K a.m ["form","target","callers"]
 av:uW K a.u ["form","target","goal"]
 Y:uW K a.n ["form","target","goal","first","last"]
 aw:uW K a.v ["form","target","goal"]
 ap:uW K a.o ["form","target","goal","turns"]
 aB:uW K a.q ["form","phone"]
 aC:uW K a.r ["form","phone"]
 aD:W.kitOne K (.type "list") (.type "list")=some true
 B:mg "range"=none
 c:mg "len"=none
 aE:mg "enumerate"=none
 aF:mg "sorted"=none
 Z:mg "list"=none
 aq:mg "dict"=none
 aG:mg "isinstance"=none
 ax:mg "set"=none
 ay:mg "min"=none
 az:mg "all"=none
 a5:mg "tuple"=none
 aH:mg "zip"=none
 a6:KD K mg "MOST_PHONES" (.int 8)
 a7:KD K mg "MOST_LINES" (.int 3)
 a8:KD K mg "MOST_RANK" (.int 9)
 a9:KD K mg "MOST_GROUPS" (.int 3)
 ba:KD K mg "MANNERS" (.tup ((["all","turns"]:QQQ).map D.str))
 bb:KD K mg "MOST_MEMBERS" (.int 4)
 bc:KD K mg "MOST_WISHES" (.int 16)
 bd:KD K mg "MOST_SIGNS" (.int 6)
 be:KD K mg "LETTERS" (.str "abcdefghijklmnopqrstuvwxyz")
 aI:Fu K mg "FORMS" Dg
 aJ:KD K mg "MOST_LISTED" (.int 6)
 bf:KD K mg "LAST_HOUR" (.int 23)
 bg:KD K mg "MOST_TURNS" (.int 9)
noncomputable def nB(c f m:Int):Int:=(c % 2147483647+5)*f % 2147483629 / 89 % m
def nI{c f m:Int}(h:0<m):0<=nB c f m:=cu _ (by lia)
def nF{c f m:Int}(h:0<m):nB c f m<m:=ck _ h
def GU:pJ:=λds M Q=>Bf λc f m=>ds=[.int c,.int f,.int m]/\0<m/\Q (.int (nB c f m)) M
noncomputable def pB:Str:="abcdefghijklmnopqrstuvwxyz"
noncomputable def oX(i:Int):Str:=⟨#[97+i.toNat]⟩
noncomputable def size(s:Int):Int:=1+s % 6
noncomputable def place(s:Int):Int:=s / 6 % size s
noncomputable def word(s v:Int):Str:=tf (oX (s / 36 % 26)) (place s)++oX ((s / 936+v) % 26)++tf (oX (s / 36 % 26)) (size s - 1 - place s)
def G6:pJ:=λds M Q=>Fw λs v=>ds=[.int s,.int v]/\Q (.str (word s v)) M
noncomputable def cell(ns:T0 Int)(i:Int):Int:=if 0<=i/\i<ns.length then ns.getD i.toNat 0 else 0
def JW:pJ:=λds M Q=>Fw λns i=>ds=[.rl (ns.map D.int),.int i]/\Q (.int (cell ns i)) M
def zj(c:Int):0<size c:=by unfold size;have:=cu c (show(6:Int)≠0 by decide);lia
def Bx(c:Int):size c<=6:=by unfold size;have:=ck c (show(0:Int)<6 by decide);lia
def zZ(i n:Int):(tf (oX i) n).length=n.toNat:=by show((List.replicate n.toNat (oX i).cps).foldl (·++·) #[]:Array Nat).size=n.toNat;rw[BI];show n.toNat*1=n.toNat;lia
def uD:pB.length<=sizeLine:=by decide+kernel
variable {P:Pg}{w:Wo}{K:mZ}{mg:QQZ}{base:Heap}{a:Ad}(G:Gl K mg a)
def oH:Fq P w K mg base 1 a.j GU:=by
 refine fq G.j.toDG zO (λr u=>⟨_,(mK (mT (mU (mU (mU (mU (mU (mU u0 mJ) mJ) V1) mJ) mJ) V2))),?_⟩)
 rintro ds M Q ⟨c,f,m,rfl,hm,q⟩
 refine⟨by decide,.inl ?_,by decide,⟨by decide,by decide⟩,hm,M,.refl,q⟩;have h1:0<=c % 2147483647:=cu _ (by decide);have h2:c % 2147483647<2147483647:=ck _ (by decide);exact⟨by lia,by lia⟩
def xI{i:Int}(h0:0<=i)(h1:i<26):ug pB.cps.toList i=some (97+i.toNat):=by
 obtain⟨n,rfl⟩:=cT h0;have hn:n<26:=by lia
 have key:∀n:_root_.Fin 26,ug pB.cps.toList ((n.val:Nat):Int)=some (97+n.val):=by decide+kernel
 exact key ⟨n,hn⟩
def B4:Fq P w K mg base 1 a.I G6:=by
 refine fq G.I.toDG o9 (λr u=>⟨_,(mI (nh 2 o9 mV)
 (mI (nh 3 o9 (mU mJ (mU u0 mJ)))
 (mI (nh 4 o9 (mU (mU u0 mJ) V3))
 (mI (nh 5 o9 (nc V2 (mU (mU u0 mJ) mJ)))
 (mI (nh 6 o9 (nc V2 (mU (mU (mU u0 mJ) V1) mJ)))
 (mK (mT (mU (mU (mU v5 v4) v6) (mU v5 (mU (mU V3 mJ) v4)))))))))),?_⟩)
 rintro ds M Q ⟨c,v,rfl,q⟩
 have hs:=zj c;have hs6:=Bx c;have hp0:0<=place c:=cu _ (by lia);have hp1:place c<size c:=ck _ hs;have l1:=zZ (c / 36 % 26) (place c);have l2:=zZ (c / 36 % 26) (size c - 1 - place c);have hz:=b7;refine⟨by decide,⟨by decide,by decide⟩,hs,⟨by decide,by decide⟩,by decide,uD,mH (xI (cu _ (by decide)) (ck _ (by decide))) ?_⟩;refine⟨⟨by decide,by decide⟩,by decide,uD,mH (xI (cu _ (by decide)) (ck _ (by decide))) ?_⟩;refine⟨⟨?_,?_,?_⟩,?_,⟨?_,?_,?_⟩,?_,M,.refl,q⟩
 .show place c<4096;lia
 .show -4096<place c;lia
 .show(1:Nat)<4096;decide
 .show(tf (oX (c / 36 % 26)) (place c)).length+1<=sizeLine;lia
 .show size c - 1 - place c<4096;lia
 .show -4096<size c - 1 - place c;lia
 .show(1:Nat)<4096;decide
 .show(tf (oX (c / 36 % 26)) (place c)++oX ((c / 936+v) % 26)).length+(tf (oX (c / 36 % 26)) (size c - 1 - place c)).length<=sizeLine;rw[PySem.size_cat];have:(oX ((c / 936+v) % 26)).length=1:=rfl;lia
def Hs:Fq P w K mg base 1 a.H JW:=by
 refine fq G.H.toDG Cz (λr u=>⟨_,(mI (n9 (EC u mJ V1 (mR nU rfl G.c nJ (oB u0)))
 (mK (mT (nc u0 V1)))
 nk)
 (mK (mT mJ))),?_⟩)
 rintro ds M Q ⟨ns,i,rfl,q⟩
 refine rJ (λh0=>?_) (λh0=>?_)
 .have h0:0<=i:=eH h0;refine rJ (λh1=>?_) (λh1=>?_)
  .have h1:i<((ns.map D.int).length:Int):=eH h1;rw[bi]at h1;have hi:i.toNat<ns.length:=by lia
   have e:ug (ns.map D.int) i=some (D.int (ns.getD i.toNat 0)):=by
    obtain⟨n,rfl⟩:=cT h0;have hn:n<ns.length:=by lia
    refine qH ?_;rw[bJ,bC hn];simp[hn]
   refine mH e ⟨M,.refl,?_⟩;have:cell ns i=ns.getD i.toNat 0:=by unfold cell;rw[bA ⟨h0,h1⟩]
   rw[<-this];exact q
  .have h1:¬i<((ns.map D.int).length:Int):=λz=>h1 (bZ z);rw[bi]at h1;refine⟨M,.refl,?_⟩;have:cell ns i=0:=by unfold cell;rw[bv (λz=>h1 z.2)]
   rw[<-this];exact q
 .have h0:¬0<=i:=λz=>h0 (bZ z);refine⟨M,.refl,?_⟩;have:cell ns i=0:=by unfold cell;rw[bv (λz=>h0 z.1)]
  rw[<-this];exact q
inductive Wi where
 | bar (x:Str) (ns:QQQ)|shut (x:Str) (ns:QQQ)|always (x y:Str)|night (x y:Str) (f l:Int)|busy (x y:Str)|silent (x y:Str) (n:Int)|wait (x:Str)|breaks (x:Str)
abbrev names(ns:QQQ):D:=.tup (ns.map D.str)
noncomputable def Wi.told:Wi->T0 D
 | .bar x ns=>[.str "bar",.str x,names ns]
 | .shut x ns=>[.str "shut",.str x,names ns]
 | .always x y=>[.str "always",.str x,.str y]
 | .night x y f l=>[.str "night",.str x,.str y,.int f,.int l]
 | .busy x y=>[.str "busy",.str x,.str y]
 | .silent x y n=>[.str "silent",.str x,.str y,.int n]
 | .wait x=>[.str "wait",.str x]
 | .breaks x=>[.str "breaks",.str x]
noncomputable def Wi.word:Wi->Str
 | .bar _ _=>"bar"
 | .shut _ _=>"shut"
 | .always _ _=>"always"
 | .night _ _ _ _=>"night"
 | .busy _ _=>"busy"
 | .silent _ _ _=>"silent"
 | .wait _=>"wait"
 | .breaks _=>"breaks"
noncomputable def Wi.cls(a:Ad):Wi->Addr
 | .bar _ _=>a.l
 | .shut _ _=>a.m
 | .always _ _=>a.u
 | .night _ _ _ _=>a.n
 | .busy _ _=>a.v
 | .silent _ _ _=>a.o
 | .wait _=>a.q
 | .breaks _=>a.r
noncomputable def Wi.more:Wi->T0 (Str×D)
 | .bar x ns=>[("phone",.str x),("targets",names ns)]
 | .shut x ns=>[("target",.str x),("callers",names ns)]
 | .always x y=>[("target",.str x),("goal",.str y)]
 | .night x y f l=>[("target",.str x),("goal",.str y),("first",.int f),("last",.int l)]
 | .busy x y=>[("target",.str x),("goal",.str y)]
 | .silent x y n=>[("target",.str x),("goal",.str y),("turns",.int n)]
 | .wait x=>[("phone",.str x)]
 | .breaks x=>[("phone",.str x)]
noncomputable def Wi.l4(v:Wi):T0 (Str×D):=("form",.tup v.told)::v.more
abbrev sO(ns:QQQ)(i:Int):Str:=ns.getD i.toNat Str.empty
noncomputable def rG(row:QQQ)(c m:Int):Nat:=(1+nB c 40692 (if (row.length:Int)<m then(row.length:Int)else m)).toNat
noncomputable def Kb(row:QQQ)(c:Int)(j:Nat):Str:=sO row ((nB c 69621 row.length+(0+(j:Nat))) % row.length)
noncomputable def rE(row:QQQ)(c m:Int):QQQ:=(List.range (rG row c m)).map (Kb row c)
def Ge:pJ:=λds M Q=>Fz λr c m row=>ds=[.ref r,.int c,.int m]/\md M r=some (row.map D.str)/\row≠[]/\0<m/\row.length<=64/\Q (names (rE row c m)) M
def vd{row:QQQ}(h:row≠[])(x:Int):ug (row.map D.str) (x % row.length)=some (D.str (sO row (x % row.length))):=by
 have hl:0<row.length:=dg.mpr h;have h0:0<=x % row.length:=cu _ (by lia);have h1:x % row.length<row.length:=ck _ (by lia);obtain⟨n,hn⟩:=cT h0;rw[hn]at h1 ⊢;have OV:n<row.length:=by lia
 refine qH ?_;rw[bJ,bC OV];simp[sO,OV]
def G8:Fq P w K mg base 2 a.ai Ge:=by
 refine fq G.ai.toDG rO (λr u=>⟨_,(mI (nh 3 rO (mO (oH G) r G.j (tE V1 mJ (mR nU rfl G.c nJ (oB u0)))))
 (mI (nh 4 rO (mU mJ (mO (oH G) r G.j (tE V1 mJ (mR (IH rfl) rfl G.ay A0 (qd V2 (mR nU rfl G.c nJ (oB u0))))))))
 (mK (mT (pf D9 rfl G.a5 DO (oB (oG rfl (yO (ix:=[none,some 0,some 3]) (N':=["_law_j","_law_row","_law_first"])) (qi rfl G.B (oB v4)) (nO 0) oJ (nc V1 (mU (mU V2 u0) (mR nU rfl G.c nJ (oB V1))))))))))),?_⟩)
 rintro ds M Q ⟨r,c,m,row,rfl,hl,NY,hm,h64,q⟩
 have Na:0<row.length:=dg.mpr NY;have hz:=b7;have el:((row.map D.str).length:Int)=row.length:=by rw[bi]
 refine mH hl ⟨c,69621,_,rfl,by rw[el];lia,?_⟩;refine mH hl ⟨c,40692,_,rfl,by rw[el];split<;>lia,?_⟩;rw[el];have d0:=nI (c:=c) (f:=40692) (m:=if (row.length:Int)<m then(row.length:Int)else m) (by split<;>lia);have d1:=nF (c:=c) (f:=40692) (m:=if (row.length:Int)<m then(row.length:Int)else m) (by split<;>lia);have d2:nB c 40692 (if (row.length:Int)<m then(row.length:Int)else m)<row.length+1:=by refine Int.lt_of_lt_of_le d1 ?_;split<;>lia
 refine⟨rfl,⟨?_,?_⟩,n8 (f:=λd=>match d with|.int j=>D.str (sO row ((nB c 69621 row.length+j) % row.length))|_=>.lw) trivial _ [] _ ?_ (λd hd k hk=>?_) λp hp=>?_⟩
 .show -(2 ^ 62)<=1+nB c 40692 (if (row.length:Int)<m then(row.length:Int)else m);lia
 .show 1+nB c 40692 (if (row.length:Int)<m then(row.length:Int)else m)<2 ^ 62;lia
 .rw[bi,cx];show 0+rG row c m<=sizeLine;unfold rG;lia
 .obtain⟨j,_,rfl⟩:=bP.mp hd;refine mH hl ⟨by rw[el];lia,mH hl ?_⟩;rw[el];exact mH (vd NY _) hk
 .refine mH (x:=(rE row c m).map D.str) ?_ ⟨M,.new hp,q⟩;unfold md;rw[mM];show some ([]++((List.range (rG row c m)).map λi=>D.int (0+(i:Nat))).map _)=_;rw[cC,cj];unfold rE;rw[cj];rfl
def ye{row:QQQ}{x:Int}(h0:0<=x)(h1:x<row.length):ug (row.map D.str) x=some (D.str (sO row x)):=by
 obtain⟨n,rfl⟩:=cT h0;have OV:n<row.length:=by lia
 refine qH ?_;rw[bJ,bC OV];simp[sO,OV]
def DU(K:mZ):pJ:=λds M Q=>Bf λp d C=>ds=[.ref p,d]/\M p=some (.ins C [])/\pP K C "form"/\Q .lw (mN M p (.ins C [("form",d)]))
def EU(K:mZ):pJ:=λds M Q=>KY λp t x y C=>ds=[.ref p,.tup t]/\ug t 1=some x/\ug t 2=some y/\M p=some (.ins C [])/\pP K C "form"/\pP K C "target"/\pP K C "goal"/\Q .lw (mN M p (.ins C [("form",.tup t),("target",x),("goal",y)]))
def sh(a:Ad)(k:Wi->Prop):pJ:=λds M Q=>Fw λp v=>ds=[.ref p,.tup (Wi.told v)]/\k v/\M p=some (.ins (v.cls a) [])/\Q .lw (mN M p (.ins (v.cls a) v.l4))
def rR:Fq P w K mg base 1 a.w (DU K):=by
 refine fq G.w.toDG yz (λr u=>⟨_,(mK (oF u0 V1)),?_⟩)
 rintro ds M Q ⟨p,d,C,rfl,hp,na,q⟩
 exact mW hp ⟨na,by decide,_,.refl,q⟩
def ub:Fq P w K mg base 2 a.t (EU K):=by
 refine fq G.t.toDG u7 (λr u=>⟨_,(mI (mX (tG G.X (rR G) r G.x G.w.toDG (qd u0 V1)))
 (mI (oF u0 (nc V1 mJ))
 (mK (oF u0 (nc V1 mJ))))),?_⟩)
 rintro ds M Q ⟨p,t,x,y,C,rfl,e1,e2,hp,n1,n2,n3,q⟩
 refine⟨p,_,C,rfl,hp,n1,mH e1 (mW mM ⟨n2,by show 1<1000;decide,?_⟩)⟩;refine mH e2 (mW mM ⟨n3,by show 2<1000;decide,_,?_,q⟩);rw[nN,nN];exact .refl
def IQ:Fq P w K mg base 2 a.M (sh a λv=>∃x ns,v=.bar x ns):=by
 refine fq G.M.toDG zA (λr u=>⟨_,(mI (mX (tG G.X (rR G) r G.x G.w.toDG (qd u0 V1)))
 (mI (oF u0 (nc V1 mJ))
 (mK (oF u0 (nc V1 mJ))))),?_⟩)
 rintro ds M Q ⟨p,v,rfl,⟨x,ns,rfl⟩,hp,q⟩
 refine⟨p,_,_,rfl,hp,(G.ar "form" rfl),mW mM ⟨(G.ar "phone" rfl),by show 1<1000;decide,?_⟩⟩;refine mW mM ⟨(G.ar "targets" rfl),by show 2<1000;decide,_,?_,q⟩;rw[nN,nN];exact .refl
def GE:Fq P w K mg base 2 a.O (sh a λv=>∃x ns,v=.shut x ns):=by
 refine fq G.O.toDG yR (λr u=>⟨_,(mI (mX (tG G.X (rR G) r G.x G.w.toDG (qd u0 V1)))
 (mI (oF u0 (nc V1 mJ))
 (mK (oF u0 (nc V1 mJ))))),?_⟩)
 rintro ds M Q ⟨p,v,rfl,⟨x,ns,rfl⟩,hp,q⟩
 refine⟨p,_,_,rfl,hp,(G.au "form" rfl),mW mM ⟨(G.au "target" rfl),by show 1<1000;decide,?_⟩⟩;refine mW mM ⟨(G.au "callers" rfl),by show 2<1000;decide,_,?_,q⟩;rw[nN,nN];exact .refl
def Dy:Fq P w K mg base 3 a.Q (sh a λv=>∃x y f l,v=.night x y f l):=by
 refine fq G.Q.toDG w9 (λr u=>⟨_,(mI (mX (tG G.aA (ub G) r G.z G.t.toDG (qd u0 V1)))
 (mI (oF u0 (nc V1 mJ))
 (mK (oF u0 (nc V1 mJ))))),?_⟩)
 rintro ds M Q ⟨p,v,rfl,⟨x,y,f,l,rfl⟩,hp,q⟩
 refine⟨p,_,_,_,_,rfl,rfl,rfl,hp,(G.Y "form" rfl),(G.Y "target" rfl),(G.Y "goal" rfl),mW mM ⟨(G.Y "first" rfl),by show 3<1000;decide,?_⟩⟩;refine mW mM ⟨(G.Y "last" rfl),by show 4<1000;decide,_,?_,q⟩;rw[nN,nN];exact .refl
def C0:Fq P w K mg base 3 a.R (sh a λv=>∃x y n,v=.silent x y n):=by
 refine fq G.R.toDG vT (λr u=>⟨_,(mI (mX (tG G.aA (ub G) r G.z G.t.toDG (qd u0 V1)))
 (mK (oF u0 (nc V1 mJ)))),?_⟩)
 rintro ds M Q ⟨p,v,rfl,⟨x,y,n,rfl⟩,hp,q⟩
 refine⟨p,_,_,_,_,rfl,rfl,rfl,hp,(G.ap "form" rfl),(G.ap "target" rfl),(G.ap "goal" rfl),mW mM ⟨(G.ap "turns" rfl),by show 3<1000;decide,_,?_,q⟩⟩;rw[nN];exact .refl
def GC:Fq P w K mg base 2 a.S (sh a λv=>∃x,v=.wait x):=by
 refine fq G.S.toDG yK (λr u=>⟨_,(mI (mX (tG G.X (rR G) r G.x G.w.toDG (qd u0 V1)))
 (mK (oF u0 (nc V1 mJ)))),?_⟩)
 rintro ds M Q ⟨p,v,rfl,⟨x,rfl⟩,hp,q⟩
 refine⟨p,_,_,rfl,hp,(G.aB "form" rfl),mW mM ⟨(G.aB "phone" rfl),by show 1<1000;decide,_,?_,q⟩⟩;rw[nN];exact .refl
def CP:Fq P w K mg base 2 a.U (sh a λv=>∃x,v=.breaks x):=by
 refine fq G.U.toDG wC (λr u=>⟨_,(mI (mX (tG G.X (rR G) r G.x G.w.toDG (qd u0 V1)))
 (mK (oF u0 (nc V1 mJ)))),?_⟩)
 rintro ds M Q ⟨p,v,rfl,⟨x,rfl⟩,hp,q⟩
 refine⟨p,_,_,rfl,hp,(G.aC "form" rfl),mW mM ⟨(G.aC "phone" rfl),by show 1<1000;decide,_,?_,q⟩⟩;rw[nN];exact .refl
def A5(a:Ad):pJ:=λds M Q=>∃v:Wi,ds=[.tup v.told]/\∀p,M p=none->Q (.ref p) (mN M p (.ins (v.cls a) v.l4))
def BA(a:Ad):pJ:=λds M Q=>Fw λp (v:Wi)=>ds=[.ref p]/\M p=some (.ins (v.cls a) v.l4)/\Q (.tup v.told) M
def AC:pJ:=λds M Q=>∃p,ds=[.ref p]/\Q (.tup [.str "end"]) M
def Dq:pJ:=λds M Q=>∃p,ds=[.ref p]/\Q (.tup [.str "break"]) M
def Hu:pJ:=λds M Q=>Fz λp C fs y=>ds=[.ref p]/\M p=some (.ins C fs)/\fs.lookup ("goal":Str)=some y/\Q (.tup [.str "to",y]) M
def Ho:pJ:=λds M Q=>Fz λp C fs y=>ds=[.ref p]/\M p=some (.ins C fs)/\fs.lookup ("phone":Str)=some y/\Q (.tup [.str "wait",y]) M
def Bg(a:Ad):Addr->pJ->Prop:=λC sp=>(∃v:Wi,C=v.cls a)/\sp=BA a
def BP(a:Ad):Addr->pJ->Prop:=λC sp=>((C=a.l\/C=a.m)/\sp=AC)\/((C=a.u\/C=a.n\/C=a.v\/C=a.o)/\sp=Hu)\/(C=a.q/\sp=Ho)\/(C=a.r/\sp=Dq)
def Av:Fq P w K mg base 5 a.ab (A5 a):=by
 refine fq G.ab.toDG wc (λr u=>⟨_,(mI (nh 1 wc (nc u0 mJ))
 (mI (n9 (nC u V1 mV)
 (mK (mT (rj (IQ G) r G.l G.aL G.M.toDG (oB u0))))
 nk)
 (mI (n9 (nC u V1 mV)
 (mK (mT (rj (GE G) r G.m G.aM G.O.toDG (oB u0))))
 nk)
 (mI (n9 (nC u V1 mV)
 (mK (mT (rj (ub G) r G.u G.aN G.t.toDG (oB u0))))
 nk)
 (mI (n9 (nC u V1 mV)
 (mK (mT (rj (Dy G) r G.n G.aO G.Q.toDG (oB u0))))
 nk)
 (mI (n9 (nC u V1 mV)
 (mK (mT (rj (ub G) r G.v G.aP G.t.toDG (oB u0))))
 nk)
 (mI (n9 (nC u V1 mV)
 (mK (mT (rj (C0 G) r G.o G.aQ G.R.toDG (oB u0))))
 nk)
 (mI (n9 (nC u V1 mV)
 (mK (mT (rj (GC G) r G.q G.aR G.S.toDG (oB u0))))
 nk)
 (mI (n9 (nC u V1 mV)
 (mK (mT (rj (CP G) r G.r G.aS G.U.toDG (oB u0))))
 nk)
 (mK zE)))))))))),?_⟩)
 rintro ds M Q ⟨v,rfl,q⟩
 have fin:∀(x:Addr) (c0 c1:qp) (C:Addr) (fs:T0 (Str×D)),M x=none->Q (.ref x) (mN M x c1)->∃Nn,oj Nn (mN (mN M x c0) x c1)/\Q (.ref x) Nn:=λx c0 c1 C fs hx q=>⟨_,by rw[nN];exact .refl,q⟩;cases v with
 | bar x ns=>exact λp hp=>⟨p,.bar x ns,rfl,⟨_,_,rfl⟩,mM,rfl,fin p _ _ 0 [] hp (q p hp)⟩
 | shut x ns=>exact λp hp=>⟨p,.shut x ns,rfl,⟨_,_,rfl⟩,mM,rfl,fin p _ _ 0 [] hp (q p hp)⟩
 | always x y=>exact λp hp=>⟨p,_,_,_,_,rfl,rfl,rfl,mM,(G.av "form" rfl),(G.av "target" rfl),(G.av "goal" rfl),rfl,fin p _ _ 0 [] hp (q p hp)⟩
 | night x y f l=>exact λp hp=>⟨p,.night x y f l,rfl,⟨_,_,_,_,rfl⟩,mM,rfl,fin p _ _ 0 [] hp (q p hp)⟩
 | busy x y=>exact λp hp=>⟨p,_,_,_,_,rfl,rfl,rfl,mM,(G.aw "form" rfl),(G.aw "target" rfl),(G.aw "goal" rfl),rfl,fin p _ _ 0 [] hp (q p hp)⟩
 | silent x y n=>exact λp hp=>⟨p,.silent x y n,rfl,⟨_,_,_,rfl⟩,mM,rfl,fin p _ _ 0 [] hp (q p hp)⟩
 | wait x=>exact λp hp=>⟨p,.wait x,rfl,⟨_,rfl⟩,mM,rfl,fin p _ _ 0 [] hp (q p hp)⟩
 | breaks x=>exact λp hp=>⟨p,.breaks x,rfl,⟨_,rfl⟩,mM,rfl,fin p _ _ 0 [] hp (q p hp)⟩
def Gx:Fq P w K mg base 1 a.g (BA a):=by
 refine fq G.g.toDG yT (λr u=>⟨_,(mK (mT (sT u0))),?_⟩)
 rintro ds M Q ⟨p,v,rfl,hp,q⟩
 exact mW hp (mH rfl ⟨M,.refl,q⟩)
def FD:Fq P w K mg base 1 a.N AC:=by
 refine fq G.N.toDG yh (λr u=>⟨_,(mK (mT (nX (oB mV)))),?_⟩)
 rintro ds M Q ⟨p,rfl,q⟩
 exact⟨mF rfl,M,.refl,q⟩
def Fm:Fq P w K mg base 1 a.P AC:=by
 refine fq G.P.toDG wM (λr u=>⟨_,(mK (mT (nX (oB mV)))),?_⟩)
 rintro ds M Q ⟨p,rfl,q⟩
 exact⟨mF rfl,M,.refl,q⟩
def qE:Fq P w K mg base 1 a.k Hu:=by
 refine fq G.k.toDG ux (λr u=>⟨_,(mK (mT (nX (qd mV (sT u0))))),?_⟩)
 rintro ds M Q ⟨p,C,fs,y,rfl,hp,e,q⟩
 exact mW hp (mH e ⟨mF rfl,M,.refl,q⟩)
def Ep:Fq P w K mg base 1 a.T Ho:=by
 refine fq G.T.toDG wJ (λr u=>⟨_,(mK (mT (nX (qd mV (sT u0))))),?_⟩)
 rintro ds M Q ⟨p,C,fs,y,rfl,hp,e,q⟩
 exact mW hp (mH e ⟨mF rfl,M,.refl,q⟩)
def Bh:Fq P w K mg base 1 a.V Dq:=by
 refine fq G.V.toDG uX (λr u=>⟨_,(mK (mT (nX (oB mV)))),?_⟩)
 rintro ds M Q ⟨p,rfl,q⟩
 exact⟨mF rfl,M,.refl,q⟩
def EM:∀C sp,Bg a C sp->yP P w K mg base 1 "told" C (IT K sp):=by
 rintro C sp ⟨⟨v,rfl⟩,rfl⟩
 have F:=Gx (P:=P) (w:=w) (base:=base) G;cases v with
 | bar _ _=>exact⟨G.l.toCls,_,_,_,G.aX,F,G.g.b⟩
 | shut _ _=>exact⟨G.m.toCls,_,_,_,G.aY,F,G.g.b⟩
 | always _ _=>exact⟨G.u.toCls,_,_,_,G.aZ,F,G.g.b⟩
 | night _ _ _ _=>exact⟨G.n.toCls,_,_,_,G.a0,F,G.g.b⟩
 | busy _ _=>exact⟨G.v.toCls,_,_,_,G.a1,F,G.g.b⟩
 | silent _ _ _=>exact⟨G.o.toCls,_,_,_,G.a2,F,G.g.b⟩
 | wait _=>exact⟨G.q.toCls,_,_,_,G.a3,F,G.g.b⟩
 | breaks _=>exact⟨G.r.toCls,_,_,_,G.a4,F,G.g.b⟩
def FT:∀C sp,BP a C sp->yP P w K mg base 1 "wants" C (IT K sp):=by
 rintro C sp (⟨rfl|rfl,rfl⟩|⟨rfl|rfl|rfl|rfl,rfl⟩|⟨rfl,rfl⟩|⟨rfl,rfl⟩)
 .exact⟨G.l.toCls,_,_,_,G.N.l8,FD G,G.N.b⟩
 .exact⟨G.m.toCls,_,_,_,G.P.l8,Fm G,G.P.b⟩
 .exact⟨G.u.toCls,_,_,_,G.aT,qE G,G.k.b⟩
 .exact⟨G.n.toCls,_,_,_,G.aU,qE G,G.k.b⟩
 .exact⟨G.v.toCls,_,_,_,G.aV,qE G,G.k.b⟩
 .exact⟨G.o.toCls,_,_,_,G.aW,qE G,G.k.b⟩
 .exact⟨G.q.toCls,_,_,_,G.T.l8,Ep G,G.T.b⟩
 .exact⟨G.r.toCls,_,_,_,G.V.l8,Bh G,G.V.b⟩
noncomputable def pA(x:Str):Bool:=decide ((1:Int)<=x.length)&&(decide ((x.length:Int)<=6)&&x.cps.toList.all λc=>wF ⟨#[c]⟩ pB)
def Ap:pJ:=λds M Q=>∃x:Str,ds=[.str x]/\x.length<=1000/\Q (.bl (pA x)) M
def BN:pJ:=λds M Q=>∃w,ds=[.bl true,w]/\Q .lw M
noncomputable def tU(ss:QQQ):Bool:=((nz ss).length:Int)==(ss.length:Int)
def IW(M:Mp)(x:D)(ss:QQQ):Prop:=x=.tup (ss.map D.str)\/∃a,x=.ref a/\md M a=some (ss.map D.str)
def C8:pJ:=λds M Q=>Fw λx ss=>ds=[x]/\IW M x ss/\ss.length<4000/\Q (.bl (tU ss)) M
def zh{α:Type}(f:α->Bool)(l:List α):(l.map f).all id=l.all f:=by rw[iK];rfl
def ya(x:Str)(ss:QQQ):inD (.str x) (ss.map D.str)=ss.any (·==x):=by unfold inD;rw[gS];rfl
theorem oZ:∀ss:QQQ,(ss.map D.str).all qA=true
 | []=>rfl
 | _::r=>by rw[cb,eU,oZ r];rfl
noncomputable def oI(cs ks:QQQ)(m:Int):Bool:=decide ((1:Int)<=cs.length)&&(decide ((cs.length:Int)<=m)&&(tU cs&&cs.all λc=>ks.any (·==c)))
def C1:pJ:=λds M Q=>Fz λcs ks k m=>ds=[.tup (cs.map D.str),.ref k,.int m]/\md M k=some (ks.map D.str)/\cs.length<4000/\Q (.bl (oI cs ks m)) M
def wu:Fq P w K mg base 1 a.E Ap:=by
 refine fq G.E.toDG Az (λr u=>⟨_,(mK (mT (AQ (qw u mJ (mR nU rfl G.c nJ (oB u0)) (oo rfl G.bd)) (D6 (mR (Bi rfl) rfl G.az Ay (oB (oG rfl (yO (ix:=[none]) (N':=["sign"])) (oq u0) (nO 0) oJ (pW u u0 (oo rfl G.be))))))))),?_⟩)
 rintro ds M Q ⟨x,rfl,hl,q⟩
 have hz:=b7;refine⟨by lia,rJ (λh1=>?_) (λh1=>?_)⟩
 .refine rJ (λh2=>?_) (λh2=>?_)
  .refine n8 (f:=λd=>match d with|.str z=>D.bl (wF z pB)|_=>.lw) trivial _ [] _ ?_ (λd hd k hk=>?_) λp hp=>?_
   .rw[bi];have:x.cps.toList.length=x.length:=by simp[Str.length]
    simp only[b9];lia
   .obtain⟨c,_,rfl⟩:=bP.mp hd;exact hk
   .refine mH mQ ?_;have e:([]++(x.cps.toList.map λc=>D.str ⟨#[c]⟩).map λd=>match d with|.str z=>D.bl (wF z pB)|_=>.lw)=x.cps.toList.map λc=>D.bl (wF ⟨#[c]⟩ pB):=by rw[cC,cj];rfl
    rw[e];refine mH (vz (λc=>wF ⟨#[c]⟩ pB) x.cps.toList) ⟨M,.new hp,?_⟩;rw[zh];have:pA x=x.cps.toList.all λc=>wF ⟨#[c]⟩ pB:=by unfold pA;rw[h1,h2];rfl
    rw[<-this];exact q
  .refine⟨M,.refl,?_⟩;have:pA x=false:=by
    unfold pA;have h2:decide ((x.length:Int)<=6)=false:=by simpa using h2
    rw[h2];simp
   rw[<-this];exact q
 .refine⟨M,.refl,?_⟩;have:pA x=false:=by
   unfold pA;have h1:decide ((1:Int)<=x.length)=false:=by simpa using h1
   rw[h1];rfl
  rw[<-this];exact q
def oy:Fq P w K mg base 1 a.i BN:=by
 refine fq G.i.toDG Gb (λr u=>⟨_,(mK (n9 (uB (vP u0))
 (mK zE)
 nk)),?_⟩)
 rintro ds M Q ⟨x,rfl,q⟩
 exact⟨M,.refl,q⟩
def xO:Fq P w K mg base 1 a.F C8:=by
 refine fq G.F.toDG wX (λr u=>⟨_,(mK (mT (pW u (xy rfl u0 rfl G.c rfl G.ax nJ AN) (mR nU rfl G.c nJ (oB u0))))),?_⟩)
 rintro ds M Q ⟨x,ss,rfl,hx,hl,q⟩
 have key:((ss.map D.str).length:Int)=ss.length:=by rw[bi]
 rcases hx with rfl|⟨b,rfl,hb⟩
 .refine mH (L3.rP ss) ⟨hl,M,.refl,?_⟩;rw[key];exact q
 .refine mH hb (mH (L3.rP ss) ⟨hl,mH hb ⟨M,.refl,?_⟩⟩);rw[key];exact q
def uu:Fq P w K mg base 2 a.y C1:=by
 refine fq G.y.toDG xT (λr u=>⟨_,(mK (mT (AQ (qw u mJ (mR nU rfl G.c nJ (oB u0)) V2) (AQ (mO (xO G) r G.F (oB u0)) (D6 (mR (Bi rfl) rfl G.az Ay (oB (oG rfl (yO (ix:=[none,some 1]) (N':=["name","known"])) (oq u0) (nO 0) oJ (pW u u0 V1))))))))),?_⟩)
 rintro ds M Q ⟨cs,ks,k,m,rfl,hk,hl,q⟩
 have hz:=b7;have key:((cs.map D.str).length:Int)=cs.length:=by rw[bi]
 have Ox:∀b:Bool,oI cs ks m=b->∃Nn,oj Nn M/\Q (.bl b) Nn:=λb e=>⟨M,.refl,e ▸ q⟩;refine rJ (λh1=>?_) (λh1=>?_)
 .have h1:decide ((1:Int)<=cs.length)=true:=by rw[<-key];exact h1
  refine rJ (λh2=>?_) (λh2=>?_)
  .have h2:decide ((cs.length:Int)<=m)=true:=by rw[<-key];exact h2
   refine⟨_,cs,rfl,.inl rfl,hl,rJ (λh3=>?_) (λh3=>?_)⟩
   .refine n8 (f:=λd=>match d with|.str z=>D.bl (ks.any (·==z))|_=>.lw) trivial _ [] _ ?_ (λd hd k0 hk0=>?_) λp hp=>?_
    .rw[bi];simp only[b9];lia
    .obtain⟨c,_,rfl⟩:=bP.mp hd;refine mH hk ⟨rfl,oZ ks,?_⟩;show k0 (.bl (inD (.str c) (ks.map D.str))) M;rw[ya];exact hk0
    .refine mH mQ ?_;have e:([]++(cs.map D.str).map λd=>match d with|.str z=>D.bl (ks.any (·==z))|_=>.lw)=cs.map λc=>D.bl (ks.any (·==c)):=by rw[cC,cj];rfl
     rw[e];refine mH (vz (λc=>ks.any (·==c)) cs) ⟨M,.new hp,?_⟩;rw[zh];have:oI cs ks m=cs.all λc=>ks.any (·==c):=by unfold oI;rw[h1,h2,h3];rfl
     rw[<-this];exact q
   .refine Ox _ ?_;unfold oI;have h3:tU cs=false:=by simpa using h3
    rw[h3];simp
  .refine Ox _ ?_;unfold oI;have h2:decide ((cs.length:Int)<=m)=false:=by
    rw[<-key]
    simpa using h2
   rw[h2];simp
 .refine Ox _ ?_;unfold oI;have h1:decide ((1:Int)<=cs.length)=false:=by
   rw[<-key]
   simpa using h1
  rw[h1];rfl
abbrev pZ:=Str×Int×Int
abbrev rk:=Str×Str×QQQ
abbrev oR:=Bool×Wi
noncomputable def nP(p:pZ):D:=.tup [.str p.1,.int p.2.1,.int p.2.2]
noncomputable def nV(g:rk):D:=.tup [.str g.1,.str g.2.1,names g.2.2]
noncomputable def qa(w:oR):D:=.tup [.bl w.1,.tup w.2.told]
structure BW(p:pZ):Prop where
 len:p.1.length<=1000
 nm:pA p.1=true
 l1:1<=p.2.1
 l2:p.2.1<=3
 r1:0<=p.2.2
 r2:p.2.2<=9
structure yl(pn:QQQ)(g:rk):Prop where
 len:g.1.length<=1000
 nm:pA g.1=true
 man:g.2.1="all"\/g.2.1="turns"
 mF:g.2.2.length<4000
 mem:oI g.2.2 pn 4=true
def r0(ss:QQQ)(x:Str):Prop:=ss.any (·==x)=true
def sV(pn nm:QQQ):Wi->Prop
 | .bar x ns=>r0 pn x/\ns.length<4000/\oI ns nm 6=true
 | .shut x ns=>r0 nm x/\ns.length<4000/\oI ns pn 6=true
 | .always x y=>r0 nm x/\r0 nm y/\x≠y
 | .night x y f l=>r0 nm x/\r0 nm y/\x≠y/\(0<=f/\f<=23)/\(0<=l/\l<=23)/\f≠l
 | .busy x y=>r0 nm x/\r0 nm y/\x≠y
 | .silent x y n=>r0 nm x/\r0 nm y/\x≠y/\1<=n/\n<=9
 | .wait x=>r0 pn x
 | .breaks x=>r0 pn x
inductive rW(pn nm:QQQ):Str->D->Prop
 | l9 (x:Str) (h:r0 pn x):rW pn nm "phone" (.str x)
 | name (x:Str) (h:r0 nm x):rW pn nm "name" (.str x)
 | lq (cs:QQQ) (l:cs.length<4000) (h:oI cs pn 6=true):rW pn nm "phones" (names cs)
 | names (cs:QQQ) (l:cs.length<4000) (h:oI cs nm 6=true):rW pn nm "names" (names cs)
 | hour (i:Int) (h0:0<=i) (h1:i<=23):rW pn nm "hour" (.int i)
 | turns (i:Int) (h0:1<=i) (h1:i<=9):rW pn nm "turns" (.int i)
def BG:pJ:=λds M Q=>Lw λk d pl nl (pn nm:QQQ)=>ds=[.str k,d,.ref pl,.ref nl]/\md M pl=some (pn.map D.str)/\md M nl=some (nm.map D.str)/\rW pn nm k d/\Q (.bl true) M
def uU:pJ:=λds M Q=>Fw λr (ps:List pZ)=>ds=[.ref r]/\md M r=some (ps.map nP)/\1<=ps.length/\ps.length<=8/\(∀p∈ps,BW p)/\Q .lw M
def uQ:pJ:=λds M Q=>Fz λr (gs:List rk) pl (pn:QQQ)=>ds=[.ref r,.ref pl]/\md M r=some (gs.map nV)/\md M pl=some (pn.map D.str)/\gs.length<=3/\(∀g∈gs,yl pn g)/\Q .lw M
def wZ:pJ:=λds M Q=>KY λv pl nl (pn nm:QQQ)=>ds=[.tup (Wi.told v),.ref pl,.ref nl]/\md M pl=some (pn.map D.str)/\md M nl=some (nm.map D.str)/\sV pn nm v/\Q .lw M
def uS:pJ:=λds M Q=>Lw λr (ws:List oR) pl nl (pn nm:QQQ)=>ds=[.ref r,.ref pl,.ref nl]/\md M r=some (ws.map qa)/\md M pl=some (pn.map D.str)/\md M nl=some (nm.map D.str)/\ws.length<=16/\(∀w∈ws,sV pn nm w.2)/\Q .lw M
def Mi{ss:QQQ}{x:Str}(h:r0 ss x):inD (.str x) (ss.map D.str)=true:=by rw[ya];exact h
def GF:Fq P w K mg base 3 a.ae BG:=by
 refine fq G.ae.toDG wV (λr u=>⟨_,(mI (n9 (nC u u0 mV)
 (mK (mT (pW u V1 V2)))
 nk)
 (mI (n9 (nC u u0 mV)
 (mK (mT (pW u V1 V3)))
 nk)
 (mI (n9 (nC u u0 mV)
 (mK (mT (mO (uu G) r G.y (tE V1 V2 (oo rfl G.aJ)))))
 nk)
 (mI (n9 (nC u u0 mV)
 (mK (mT (mO (uu G) r G.y (tE V1 V3 (oo rfl G.aJ)))))
 nk)
 (mI (n9 (nC u u0 mV)
 (mK (mT (qw u mJ V1 (oo rfl G.bf))))
 nk)
 (mK (mT (qw u mJ V1 (oo rfl G.bg))))))))),?_⟩)
 rintro ds M Q ⟨k,d,pl,nl,pn,nm,rfl,hp,hn,ok,q⟩
 cases ok with
 | l9 x h=>refine mH hp ⟨rfl,oZ pn,M,.refl,?_⟩;show Q (.bl (inD (.str x) (pn.map D.str))) M;rw[Mi h];exact q
 | name x h=>refine mH hn ⟨rfl,oZ nm,M,.refl,?_⟩;show Q (.bl (inD (.str x) (nm.map D.str))) M;rw[Mi h];exact q
 | lq cs l h=>exact⟨cs,pn,pl,6,rfl,hp,l,M,.refl,by rw[h];exact q⟩
 | names cs l h=>exact⟨cs,nm,nl,6,rfl,hn,l,M,.refl,by rw[h];exact q⟩
 | hour i h0 h1=>refine Fb (c:=decide (0<=i)) (bZ h0) ⟨M,.refl,?_⟩;show Q (.bl (decide (i<=23))) M;rw[bZ h1];exact q
 | turns i h0 h1=>refine Fb (c:=decide (1<=i)) (bZ h0) ⟨M,.refl,?_⟩;show Q (.bl (decide (i<=9))) M;rw[bZ h1];exact q
def u5:Fq P w K mg base 2 a.ac uU:=by
 refine fq G.ac.toDG oU (λr u=>⟨_,(mI (mX (mO (oy G) r G.i (qd (qw u mJ (mR nU rfl G.c nJ (oB u0)) (oo rfl G.a6)) mV)))
 (mK (pY cU rfl (oq u0) (ql (n:=3) rfl (ng (oh 1 oU) (ng (oh 2 oU) (ng (oh 3 oU) pz))))
 (mI (mX (mO (oy G) r G.i (qd (mO (wu G) r G.E (oB V1)) mV)))
 (mI (mX (mO (oy G) r G.i (qd (qw u mJ V2 (oo rfl G.a7)) mV)))
 (mK (mX (mO (oy G) r G.i (qd (qw u mJ V3 (oo rfl G.a8)) mV))))))))),?_⟩)
 rintro ds M Q ⟨r,ps,rfl,Ov,h1,h8,lA,q⟩
 have el:((ps.map nP).length:Int)=ps.length:=by rw[bi]
 refine mH Ov (Fb (c:=decide ((1:Int)<=(ps.map nP).length)) (bZ (by lia)) ⟨_,by rw[bZ (show((ps.map nP).length:Int)<=8 by lia)],mH Ov ?_⟩);refine vw (λU M'=>M=M'/\∃x y z,U=[some (.ref r),x,y,z]) (λU M' j=>by rw[<-j.1];exact Ov) _ _ _ ⟨rfl,none,none,none,rfl⟩ ?_ ?_
 .rintro d hd U M' ⟨rfl,x,y,z,rfl⟩ nx Nt
  obtain⟨p,hp,rfl⟩:=bP.mp hd;have o:=lA p hp;refine⟨rfl,⟨p.1,rfl,o.len,_,by rw[o.nm],?_⟩⟩;refine Fb (c:=decide ((1:Int)<=p.2.1)) (bZ o.l1) ⟨_,by rw[bZ (show p.2.1<=3 from o.l2)],?_⟩;refine Fb (c:=decide ((0:Int)<=p.2.2)) (bZ o.r1) ⟨_,by rw[bZ (show p.2.2<=9 from o.r2)],?_⟩;exact Nt _ _ ⟨rfl,_,_,_,rfl⟩
 .rintro U M' ⟨rfl,x,y,z,rfl⟩
  exact⟨M,.refl,q⟩
def uY:Fq P w K mg base 3 a.ad uQ:=by
 refine fq G.ad.toDG oV (λr u=>⟨_,(mI (mX (mO (oy G) r G.i (qd (pW u (mR nU rfl G.c nJ (oB u0)) (oo rfl G.a9)) mV)))
 (mK (pY cU rfl (oq u0) (ql (n:=3) rfl (ng (oh 2 oV) (ng (oh 3 oV) (ng (oh 4 oV) pz))))
 (mI (mX (mO (oy G) r G.i (qd (mO (wu G) r G.E (oB V2)) mV)))
 (mI (mX (mO (oy G) r G.i (qd (pW u V3 (oo rfl G.ba)) mV)))
 (mK (mX (mO (oy G) r G.i (qd (mO (uu G) r G.y (tE v4 V1 (oo rfl G.bb))) mV))))))))),?_⟩)
 rintro ds M Q ⟨r,gs,pl,pn,rfl,Ov,hp,h3,lA,q⟩
 have el:((gs.map nV).length:Int)=gs.length:=by rw[bi]
 refine mH Ov ⟨_,by rw[bZ (show((gs.map nV).length:Int)<=3 by lia)],mH Ov ?_⟩;refine vw (λU M'=>M=M'/\∃x y z,U=[some (.ref r),some (.ref pl),x,y,z]) (λU M' j=>by rw[<-j.1];exact Ov) _ _ _ ⟨rfl,none,none,none,rfl⟩ ?_ ?_
 .rintro d hd U M' ⟨rfl,x,y,z,rfl⟩ nx Nt
  obtain⟨g,hg,rfl⟩:=bP.mp hd;have o:=lA g hg;refine⟨rfl,⟨g.1,rfl,o.len,_,by rw[o.nm],?_⟩⟩;have hm:inD (.str g.2.1) [.str "all",.str "turns"]=true:=by rcases o.man with e|e<;>(rw[e];rfl)
  refine⟨rfl,rfl,.str "a group's manner is all or turns",de (λb=>[D.bl b,D.str "a group's manner is all or turns"]) hm,?_⟩;refine⟨g.2.2,pn,pl,4,rfl,hp,o.mF,_,by rw[o.mem],?_⟩;exact Nt _ _ ⟨rfl,_,_,_,rfl⟩
 .rintro U M' ⟨rfl,x,y,z,rfl⟩
  exact⟨M,.refl,q⟩
def wO:Fq P w K mg base 4 a.af wZ:=by
 refine fq G.af.toDG oT (λr u=>⟨_,(mI (mX (mO (oy G) r G.i (qd (DH G.aI rfl (nc u0 mJ)) mV)))
 (mI (nh 3 oT (Cw G.aI rfl (nc u0 mJ)))
 (mI (nh 4 oT (pV u0 (qN mJ) qL))
 (mI (mX (mO (oy G) r G.i (qd (pW u (mR nU rfl G.c nJ (oB v4)) (mR nU rfl G.c nJ (oB V3))) mV)))
 (mI (pY cU rfl (IL rfl G.aH (qd V3 v4)) (ql (n:=2) rfl (ng (oh 5 oT) (ng (oh 6 oT) pz)))
 (mK (mX (mO (oy G) r G.i (qd (mO (GF G) r G.ae (pk v5 (tE v6 V1 V2))) mV)))))
 (mI (n9 (nC u (pV V3 qL (qN mJ)) (nX (qd mV mV)))
 (mK (mX (mO (oy G) r G.i (qd (pW u (nc v4 mJ) (nc v4 mJ)) mV))))
 nk)
 (mK (n9 (nC u (pV V3 (qN mJ) qL) (nX (qd mV mV)))
 (mK (mX (mO (oy G) r G.i (qd (pW u (nc v4 mJ) (nc v4 mJ)) mV))))
 nk)))))))),?_⟩)
 rintro ds M Q ⟨v,pl,nl,pn,nm,rfl,hp,hn,ok,q⟩
 have part:∀{k:Str} {d:D} {C:DK},rW pn nm k d->C (.bl true) M->BG [.str k,d,.ref pl,.ref nl] M C:=λo c=>⟨_,_,pl,nl,pn,nm,rfl,hp,hn,o,c⟩;have need:∀{x:D} {C:DK},C .lw M->BN [.bl true,x] M C:=λc=>⟨_,rfl,c⟩;have ne:∀{x y:Str},x≠y->(!(x==y))=true:=λh=>by simpa using h
 have nei:∀{x y:Int},x≠y->(!(x==y))=true:=λh=>by simpa using h
 have fin:∃Nn,oj Nn M/\Q .lw Nn:=⟨M,.refl,q⟩;cases v with
 | bar x ns=>obtain⟨h1,h2,h3⟩:=ok;refine⟨_,rfl,_,rfl,?_⟩;refine⟨rfl,_,_,pl,nl,pn,nm,rfl,hp,hn,.l9 x h1,_,rfl,trivial,⟨rfl,_,_,pl,nl,pn,nm,rfl,hp,hn,.names ns h2 h3,_,rfl,trivial,?_⟩⟩;exact⟨mF rfl,mF rfl,fin⟩
 | shut x ns=>obtain⟨h1,h2,h3⟩:=ok;refine⟨_,rfl,_,rfl,?_⟩;refine⟨rfl,_,_,pl,nl,pn,nm,rfl,hp,hn,.name x h1,_,rfl,trivial,⟨rfl,_,_,pl,nl,pn,nm,rfl,hp,hn,.lq ns h2 h3,_,rfl,trivial,?_⟩⟩;exact⟨mF rfl,mF rfl,fin⟩
 | always x y=>obtain⟨h1,h2,h3⟩:=ok;refine⟨_,rfl,_,rfl,?_⟩;refine⟨rfl,_,_,pl,nl,pn,nm,rfl,hp,hn,.name x h1,_,rfl,trivial,⟨rfl,_,_,pl,nl,pn,nm,rfl,hp,hn,.name y h2,_,rfl,trivial,?_⟩⟩;refine⟨mF rfl,⟨_,by rw[ne h3],?_⟩⟩;exact⟨mF rfl,fin⟩
 | night x y f l=>obtain⟨h1,h2,h3,h4,h5,h6⟩:=ok;refine⟨_,rfl,_,rfl,?_⟩;refine⟨rfl,_,_,pl,nl,pn,nm,rfl,hp,hn,.name x h1,_,rfl,trivial,⟨rfl,_,_,pl,nl,pn,nm,rfl,hp,hn,.name y h2,_,rfl,trivial,⟨rfl,_,_,pl,nl,pn,nm,rfl,hp,hn,.hour f h4.1 h4.2,_,rfl,trivial,⟨rfl,_,_,pl,nl,pn,nm,rfl,hp,hn,.hour l h5.1 h5.2,_,rfl,trivial,?_⟩⟩⟩⟩;refine⟨mF rfl,⟨_,by rw[ne h3],?_⟩⟩;refine⟨mF rfl,⟨_,by rw[nei h6],?_⟩⟩;exact fin
 | busy x y=>obtain⟨h1,h2,h3⟩:=ok;refine⟨_,rfl,_,rfl,?_⟩;refine⟨rfl,_,_,pl,nl,pn,nm,rfl,hp,hn,.name x h1,_,rfl,trivial,⟨rfl,_,_,pl,nl,pn,nm,rfl,hp,hn,.name y h2,_,rfl,trivial,?_⟩⟩;refine⟨mF rfl,⟨_,by rw[ne h3],?_⟩⟩;exact⟨mF rfl,fin⟩
 | silent x y n=>obtain⟨h1,h2,h3,h4,h5⟩:=ok;refine⟨_,rfl,_,rfl,?_⟩;refine⟨rfl,_,_,pl,nl,pn,nm,rfl,hp,hn,.name x h1,_,rfl,trivial,⟨rfl,_,_,pl,nl,pn,nm,rfl,hp,hn,.name y h2,_,rfl,trivial,⟨rfl,_,_,pl,nl,pn,nm,rfl,hp,hn,.turns n h4 h5,_,rfl,trivial,?_⟩⟩⟩;refine⟨mF rfl,⟨_,by rw[ne h3],?_⟩⟩;exact⟨mF rfl,fin⟩
 | wait x=>refine⟨_,rfl,_,rfl,?_⟩;refine⟨rfl,_,_,pl,nl,pn,nm,rfl,hp,hn,.l9 x ok,_,rfl,trivial,?_⟩;exact⟨mF rfl,mF rfl,fin⟩
 | breaks x=>refine⟨_,rfl,_,rfl,?_⟩;refine⟨rfl,_,_,pl,nl,pn,nm,rfl,hp,hn,.l9 x ok,_,rfl,trivial,?_⟩;exact⟨mF rfl,mF rfl,fin⟩
def uV:Fq P w K mg base 5 a.ag uS:=by
 refine fq G.ag.toDG pX (λr u=>⟨_,(mI (mX (mO (oy G) r G.i (qd (pW u (mR nU rfl G.c nJ (oB u0)) (oo rfl G.bc)) mV)))
 (mK (pY cU rfl (oq u0) (ql (n:=2) rfl (ng (oh 3 pX) (ng (oh 4 pX) pz)))
 (mK (mX (mO (wO G) r G.af (tE v4 V1 V2))))))),?_⟩)
 rintro ds M Q ⟨r,ws,pl,nl,pn,nm,rfl,Ov,hp,hn,h16,lA,q⟩
 have el:((ws.map qa).length:Int)=ws.length:=by rw[bi]
 refine mH Ov ⟨_,by rw[bZ (show((ws.map qa).length:Int)<=16 by lia)],mH Ov ?_⟩;refine vw (λU M'=>M=M'/\∃x y,U=[some (.ref r),some (.ref pl),some (.ref nl),x,y]) (λU M' j=>by rw[<-j.1];exact Ov) _ _ _ ⟨rfl,none,none,rfl⟩ ?_ ?_
 .rintro d hd U M' ⟨rfl,x,y,rfl⟩ nx Nt
  obtain⟨v,hv,rfl⟩:=bP.mp hd;exact⟨rfl,⟨v.2,pl,nl,pn,nm,rfl,hp,hn,lA v hv,Nt _ _ ⟨rfl,_,_,rfl⟩⟩⟩
 .rintro U M' ⟨rfl,x,y,rfl⟩
  exact⟨M,.refl,q⟩
structure m9 where
 lq:List pZ
 groups:List rk
 k9:List oR
noncomputable def m9.pn(l:m9):QQQ:=l.lq.map (·.1)
noncomputable def m9.gn(l:m9):QQQ:=l.groups.map (·.1)
noncomputable def m9.nm(l:m9):QQQ:=l.pn++l.gn
structure pM(l:m9):Prop where
 p1:1<=l.lq.length
 p8:l.lq.length<=8
 po:∀p∈l.lq,BW p
 g3:l.groups.length<=3
 go:∀g∈l.groups,yl l.pn g
 nd:l.nm.Nodup
 mo:l.k9.length<=16
 wo:∀w∈l.k9,sV l.pn l.nm w.2
def xf{ss:QQQ}(h:ss.Nodup):tU ss=true:=by unfold tU;rw[vY ss h];simp
def wW:pJ:=λds M Q=>Fz λr1 r2 r3 (l:m9)=>ds=[.ref r1,.ref r2,.ref r3]/\md M r1=some (l.lq.map nP)/\md M r2=some (l.groups.map nV)/\md M r3=some (l.k9.map qa)/\pM l/\Q .lw M
noncomputable def yy:D->D
 | .tup (x::_)=>x
 | _=>.lw
def tH(ps:List pZ):(ps.map nP).map yy=(ps.map (·.1)).map D.str:=by rw[cj,cj];rfl
def tq(ps:List rk):(ps.map nV).map yy=(ps.map (·.1)).map D.str:=by rw[cj,cj];rfl
def wR:Fq P w K mg base 6 a.ah wW:=by
 refine fq G.ah.toDG qS (λr u=>⟨_,(mI (mX (mO (u5 G) r G.ac (oB u0)))
 (mI (qy (i:=3) qS.nd rfl (Or.inl rfl) rfl (yO (ix:=[none]) (N':=["phone"])) (oq u0) (nO 0) oJ (nc u0 mJ))
 (mI (mX (mO (uY G) r G.ad (qd V1 V3)))
 (mI (nh 4 qS (mU V3 (oG rfl (yO (ix:=[none]) (N':=["group"])) (oq V1) (nO 0) oJ (nc u0 mJ))))
 (mI (mX (mO (oy G) r G.i (qd (mO (xO G) r G.F (oB v4)) mV)))
 (mK (mX (mO (uV G) r G.ag (tE V2 V3 v4))))))))),?_⟩)
 rintro ds M Q ⟨r1,r2,r3,l,rfl,h1,h2,h3,ok,q⟩
 have hz:=b7;have l1:=ok.p8;have l2:=ok.g3;refine⟨r1,l.lq,rfl,h1,ok.p1,ok.p8,ok.po,mH h1 ?_⟩;refine n8 (f:=yy) h1 _ [] _ (by rw[bi];simp only[b9];lia) (λd hd k hk=>?_) λp hp=>?_
 .obtain⟨x,_,rfl⟩:=bP.mp hd;exact hk
 rw[cC,tH];obtain⟨M1,e0,s1,lp⟩:=Ac (ds:=(l.lq.map (·.1)).map D.str) hp;rw[<-e0];have lp:md M1 p=some (l.pn.map D.str):=lp;refine⟨r2,l.groups,p,l.pn,rfl,s1.lst h2,lp,ok.g3,ok.go,?_⟩;refine mH (s1.lst h2) (n8 (f:=yy) (s1.lst h2) _ [] _ (by rw[bi];simp only[b9];lia) (λd hd k hk=>?_) λp2 hp2=>?_)
 .obtain⟨x,_,rfl⟩:=bP.mp hd;exact hk
 rw[cC,tq];have s2:=oj.new (c:=.lst ((l.groups.map (·.1)).map D.str)) hp2;refine mH (s2.lst lp) (mH mQ ⟨?_,λp3 hp3=>?_⟩)
 .rw[bi,bi,bi];show(l.lq.map (·.1)).length+_<=_;rw[bi];lia
 have en:l.pn.map D.str++(l.groups.map (·.1)).map D.str=l.nm.map D.str:=by unfold m9.nm;rw[b6];rfl
 rw[en];have s3:=s2.trans (oj.new (c:=.lst (l.nm.map D.str)) hp3);have l3:=@mQ (mN M1 p2 (.lst ((l.groups.map (·.1)).map D.str))) p3 (l.nm.map D.str);generalize mN (mN M1 p2 (.lst ((l.groups.map (·.1)).map D.str))) p3 (.lst (l.nm.map D.str))=M3 at s3 l3 ⊢;have ln:l.nm.length<4000:=by unfold m9.nm m9.pn m9.gn;rw[bF,bi,bi];lia
 refine⟨_,l.nm,rfl,.inr ⟨p3,rfl,l3⟩,ln,_,by rw[xf ok.nd],?_⟩;exact⟨r3,l.k9,p,p3,l.pn,l.nm,rfl,s3.lst (s1.lst h3),s3.lst lp,l3,ok.mo,ok.wo,M,s1.trans s3,q⟩
noncomputable def Hm(ph gr ws on pr gd:Addr):T0 (Str×D):=[("phones",.ref ph),("groups",.ref gr),("wishes",.ref ws),("on",.ref on),("phone_rows",.ref pr),("group_rows",.ref gd)]
noncomputable def J7(l:m9):T0 (nS×D):=l.lq.map λp=>(Sum.inr p.1,nP p)
noncomputable def KN(l:m9):T0 (nS×D):=l.groups.map λg=>(Sum.inr g.1,nV g)
def pF(a:Ad)(M:Mp)(rs:QXQ)(ws:List oR):Prop:=rs.length=ws.length/\∀(i:Nat) (r:Addr) (v:oR),rs[i]?=some r->ws[i]?=some v->M r=some (.ins (v.2.cls a) v.2.l4)
def uA(a:Ad)(M:Mp)(p:Addr)(l:m9):Prop:=Mu λph gr ws on pr gd (rs:QXQ)=>M p=some (.ins a.e (Hm ph gr ws on pr gd))/\md M ph=some (l.lq.map nP)/\md M gr=some (l.groups.map nV)/\
 md M ws=some (rs.map D.ref)/\md M on=some (l.k9.map λw=>D.bl w.1)/\xK M pr=some (J7 l)/\xK M gd=some (KN l)/\pF a M rs l.k9
def pF.keep{a:Ad}{M M':Mp}{p:Addr}{rs:QXQ}{ws:List oR}(h:pF a M rs ws)(k:rV p M M')(n:∀r∈rs,r≠p):pF a M' rs ws:=⟨h.1,λi r v e1 e2=>k r _ (n r (cJ e1)) (h.2 i r v e1 e2)⟩
def GM(a:Ad):pJ:=λds M Q=>KY λp r1 r2 r3 (l:m9)=>ds=[.ref p,.ref r1,.ref r2,.ref r3]/\M p=some (.ins a.e [])/\md M r1=some (l.lq.map nP)/\md M r2=some (l.groups.map nV)/\md M r3=some (l.k9.map qa)/\pM l/\
 ∀M',rV p M M'->uA a M' p l->(∀Nn,(∀b c,(b=p\/M b=none)->M' b=some c->Nn b=some c)->uA a Nn p l)->Q .lw M'
def qj{M N:Mp}{p x:Addr}{c:qp}(k:rV p M N)(hp:N p=some c)(h:N x=none):M x=none:=by
 cases e:M x with
 | none=>rfl
 | some d=>
  have n:x≠p:=λz=>by rw[z,hp]at h;cases h
  rw[k x d n e]at h;cases h
def yp{M:Mp}{a:Addr}{es:T0 (nS×D)}(h:xK M a=some es):M a=some (.dk es):=by
 unfold xK at h;split at h
 .rename_i e;rw[e];cases h;rfl
 .cases h
theorem tw{α:Type}(f:α->Str)(g:α->D):∀l:List α,qe (l.map λx=>D.tup [.str (f x),g x])=some (l.map λx=>(Sum.inr (f x),g x))
 | []=>rfl
 | x::r=>by show(qe (r.map λx=>D.tup [.str (f x),g x])).map ((Sum.inr (f x),g x)::·)=_;rw[tw f g r];rfl
def CT{ss:QQQ}(h:ss.Nodup):(ss.map λx=>(Sum.inr x:nS)).Nodup:=by
 induction ss with
 | nil=>exact dB
 | cons x r ih=>obtain⟨h1,h2⟩:=cp.mp h;rw[cb];refine cp.mpr ⟨λz=>h1 ?_,ih h2⟩;obtain⟨y,hy,e⟩:=bP.mp z;cases e;exact hy
def vZ{α:Type}{f:α->Str}{g:α->D}{l:List α}(h:(l.map f).Nodup):((l.map λx=>((Sum.inr (f x):nS),g x)).map (·.1)).Nodup:=by rw[cj];have:=CT h;rw[cj]at this;exact this
noncomputable def vE(d:D):D:=.tup [yy d,d]
noncomputable def Md:D->D
 | .tup (x::_)=>x
 | _=>.lw
def JA(ws:List oR):(ws.map qa).map Md=ws.map λw=>D.bl w.1:=by rw[cj];rfl
def zQ(ps:List pZ):(ps.map nP).map vE=ps.map λp=>D.tup [.str p.1,nP p]:=by rw[cj];rfl
def zq(ps:List rk):(ps.map nV).map vE=ps.map λp=>D.tup [.str p.1,nV p]:=by rw[cj];rfl
def pF.snoc{a:Ad}{M:Mp}{rs:QXQ}{ws:List oR}{r:Addr}{v:oR}(h:pF a M rs ws)(n:M r=none):pF a (mN M r (.ins (v.2.cls a) v.2.l4)) (rs++[r]) (ws++[v]):=by
 refine⟨by rw[bF,bF,h.1];rfl,λi r' v' e1 e2=>?_⟩;by_cases hi:i<rs.length
 .rw[dQ hi]at e1;rw[dQ (by rw[<-h.1];exact hi)]at e2;have:=h.2 i r' v' e1 e2;rw[nv (JF this n)];exact this
 .have Pf:i=rs.length:=by have:=(bI.mp e1).1;rw[bF,dj]at this;lia
  subst Pf;rw[eD (bw _)]at e1;rw[h.1,eD (bw _)]at e2;simp only[kX,List.getElem?_cons_zero,io]at e1 e2;subst e1 e2;exact mM
def Gv:Fq P w K mg base 7 a.L (GM a):=by
 refine fq G.L.toDG yV (λr u=>⟨_,(mI (mX (mO (wR G) r G.ah (tE V1 V2 V3)))
 (mI (oF u0 (pf xV rfl G.Z tP (oB V1)))
 (mI (oF u0 (pf xV rfl G.Z tP (oB V2)))
 (mI (oF u0 (oG rfl (yO (ix:=[none,none]) (N':=["on","wish"])) (oq V3) (ql (n:=2) rfl (ng (nO 0) (ng (nO 1) pz))) oJ (mO (Av G) r G.ab (oB V1))))
 (mI (oF u0 (oG rfl (yO (ix:=[none,none]) (N':=["on","wish"])) (oq V3) (ql (n:=2) rfl (ng (nO 0) (ng (nO 1) pz))) oJ u0))
 (mI (oF u0 (pf (vB rfl) rfl G.aq vb (oB (oG rfl (yO (ix:=[none]) (N':=["phone"])) (oq V1) (nO 0) oJ (nX (qd (nc u0 mJ) u0))))))
 (mK (oF u0 (pf (vB rfl) rfl G.aq vb (oB (oG rfl (yO (ix:=[none]) (N':=["group"])) (oq V2) (nO 0) oJ (nX (qd (nc u0 mJ) u0))))))))))))),?_⟩)
 rintro ds M Q ⟨p,r1,r2,r3,l,rfl,hp,h1,h2,h3,ok,q⟩
 have hz:=b7;have l1:=ok.p8;have l2:=ok.g3;have l3:=ok.mo;refine⟨r1,r2,r3,l,rfl,h1,h2,h3,ok,?_⟩;refine mH h1 λph hph=>?_;obtain⟨n1,e1,k1,c1,p1⟩:=su (fs':=[("phones",.ref ph)]) (c:=.lst (l.lq.map nP)) hp hph;refine mW e1 ⟨(G.A "phones" rfl),by show 0<1000;decide,?_⟩;show C' _ _ _ _ (mN (mN M ph (.lst (l.lq.map nP))) p (.ins a.e [("phones",.ref ph)]));generalize mN (mN M ph (.lst (l.lq.map nP))) p (.ins a.e [("phones",.ref ph)])=N1 at k1 c1 p1 ⊢;have Oh:=k1.lst (nG h1 hp) h1;have h2':=k1.lst (nG h2 hp) h2;have h3':=k1.lst (nG h3 hp) h3;have f1:md N1 ph=some (l.lq.map nP):=p7 c1;refine mH h2' λgr hgr=>?_;obtain⟨n2,e2,k2,c2,p2⟩:=su (fs':=[("phones",.ref ph),("groups",.ref gr)]) (c:=.lst (l.groups.map nV)) p1 hgr;refine mW e2 ⟨(G.A "groups" rfl),by show 1<1000;decide,?_⟩;show C' _ _ _ _ (mN (mN N1 gr (.lst (l.groups.map nV))) p (.ins a.e [("phones",.ref ph),("groups",.ref gr)]));generalize mN (mN N1 gr (.lst (l.groups.map nV))) p (.ins a.e [("phones",.ref ph),("groups",.ref gr)])=N2 at k2 c2 p2 ⊢;have g1:=k2.lst (nG Oh p1) Oh;have g2:=k2.lst (nG h2' p1) h2';have g3:=k2.lst (nG h3' p1) h3';have f2:=k2.lst (nG f1 p1) f1;have f3:md N2 gr=some (l.groups.map nV):=p7 c2;have kk2:=k1.trans k2;have m2:M gr=none:=qj k1 p1 hgr;clear Oh h2' h3' f1 c1 c2 k1 k2 e1 e2;refine mH g3 ?_;refine vp (l.k9.map qa) (λpre acc U Mx=>(∃x y,U=[x,y])/\oj N2 Mx/\∃rs:QXQ,acc=rs.map D.ref/\(∀r∈rs,N2 r=none)/\pF a Mx rs (l.k9.take pre.length)) (λpre acc U Mx j=>j.2.1.lst g3) _ [] [] _ _ rfl (by rw[bi];simp only[b9];lia) ⟨⟨none,none,rfl⟩,.refl,[],rfl,λr hr=>absurd hr (bE),rfl,λi r v e=>by simp at e⟩ ?_ ?_
 .rintro pre d post e acc U Mx ⟨⟨x,y,rfl⟩,sx,rs,rfl,fr,wa⟩ k hk
  obtain⟨v,hv,rfl⟩:∃v,l.k9[pre.length]?=some v/\d=qa v:=by
   have:(l.k9.map qa)[pre.length]?=some d:=by rw[<-e];simp
   rw[bJ]at this;cases z:l.k9[pre.length]? with
   | none=>rw[z]at this;cases this
   | some v=>rw[z]at this;exact⟨v,rfl,(bH this).symm⟩
  refine⟨rfl,⟨v.2,rfl,λr hr=>hk _ _ _ ⟨⟨_,_,rfl⟩,sx.trans (.new hr),rs++[r],?_,λr' hr'=>?_,?_⟩⟩⟩
  .rw[b6];rfl
  .rcases bT.mp hr' with z|z
   .exact fr r' z
   .rw[bK.mp z];exact sx.none hr
  .rw[bF,dj,fu,hv];exact wa.snoc hr
 rintro acc U Mx ⟨⟨x,y,rfl⟩,sx,rs,rfl,fr,wa⟩ ws hws
 have wa:pF a Mx rs l.k9:=by rw[bi,dN]at wa;exact wa
 obtain⟨n3,e3,k3,c3,p3⟩:=su (fs':=[("phones",.ref ph),("groups",.ref gr),("wishes",.ref ws)]) (c:=.lst (rs.map D.ref)) (sx _ _ p2) hws;refine mW e3 ⟨(G.A "wishes" rfl),by show 2<1000;decide,?_⟩;show C' _ _ _ _ (mN (mN Mx ws (.lst (rs.map D.ref))) p (.ins a.e [("phones",.ref ph),("groups",.ref gr),("wishes",.ref ws)]));generalize mN (mN Mx ws (.lst (rs.map D.ref))) p (.ins a.e [("phones",.ref ph),("groups",.ref gr),("wishes",.ref ws)])=N3 at k3 c3 p3 ⊢;have px:=sx _ _ p2;have i1:=k3.lst (nG (sx.lst g1) px) (sx.lst g1);have i2:=k3.lst (nG (sx.lst g2) px) (sx.lst g2);have i3:=k3.lst (nG (sx.lst g3) px) (sx.lst g3);have f4:=k3.lst (nG (sx.lst f2) px) (sx.lst f2);have f5:=k3.lst (nG (sx.lst f3) px) (sx.lst f3);have f6:md N3 ws=some (rs.map D.ref):=p7 c3;have rp:∀r∈rs,r≠p:=λr hr z=>by have:=fr r hr;rw[z,p2]at this;cases this
 have w3:=wa.keep k3 rp;have kk3:=(kk2.trans sx.keep).trans k3;have m3:M ws=none:=qj (kk2.trans sx.keep) px hws;have mr:∀r∈rs,M r=none:=λr hr=>qj kk2 p2 (fr r hr);clear g1 g2 g3 f2 f3 c3 k3 e3 wa px kk2;refine mH i3 (tJ (f:=Md) (λU=>∃x y,U=[x,y]) i3 _ [] _ ⟨none,none,rfl⟩ (by rw[bi];simp only[b9];lia) (λd hd U hj k hk=>?_) λon hon=>?_)
 .obtain⟨x,y,rfl⟩:=hj;obtain⟨v,_,rfl⟩:=bP.mp hd;exact⟨rfl,hk _ ⟨_,_,rfl⟩⟩
 rw[cC,JA];obtain⟨n4,e4,k4,c4,p4⟩:=su (fs':=[("phones",.ref ph),("groups",.ref gr),("wishes",.ref ws),("on",.ref on)]) (c:=.lst (l.k9.map λw=>D.bl w.1)) p3 hon;refine mW e4 ⟨(G.A "on" rfl),by show 3<1000;decide,?_⟩;show C' _ _ _ _ (mN (mN N3 on (.lst (l.k9.map λw=>D.bl w.1))) p (.ins a.e [("phones",.ref ph),("groups",.ref gr),("wishes",.ref ws),("on",.ref on)]));generalize mN (mN N3 on (.lst (l.k9.map λw=>D.bl w.1))) p (.ins a.e [("phones",.ref ph),("groups",.ref gr),("wishes",.ref ws),("on",.ref on)])=N4 at k4 c4 p4 ⊢;have j1:=k4.lst (nG i1 p3) i1;have j2:=k4.lst (nG i2 p3) i2;have f7:=k4.lst (nG f4 p3) f4;have f8:=k4.lst (nG f5 p3) f5;have f9:=k4.lst (nG f6 p3) f6;have fa:md N4 on=some (l.k9.map λw=>D.bl w.1):=p7 c4;have w4:=w3.keep k4 rp;have kk4:=kk3.trans k4;have m4:M on=none:=qj kk3 p3 hon;clear i1 i2 i3 f4 f5 f6 c4 k4 e4 w3 kk3;refine mH j1 (n8 (f:=vE) j1 _ [] _ (by rw[bi];simp only[b9];lia) (λd hd k hk=>?_) λq1 hq1=>?_)
 .obtain⟨v,_,rfl⟩:=bP.mp hd;exact⟨mF rfl,hk⟩
 rw[cC,zQ];have sq1:=oj.new (c:=.lst (l.lq.map λp=>D.tup [.str p.1,nP p])) hq1;refine mH mQ (mH (tw (λp:pZ=>p.1) nP l.lq) ⟨vZ (jJ (List.sublist_append_left _ _) ok.nd),λpr hpr=>?_⟩);obtain⟨n5,e5,k5,c5,p5⟩:=su (fs':=[("phones",.ref ph),("groups",.ref gr),("wishes",.ref ws),("on",.ref on),("phone_rows",.ref pr)]) (c:=.dk (l.lq.map λx=>(Sum.inr x.1,nP x))) (sq1 _ _ p4) hpr;refine mW e5 ⟨(G.A "phone_rows" rfl),by show 4<1000;decide,?_⟩;have k5:=sq1.keep.trans k5;have eput:vN "phone_rows" (.ref pr) [("phones",.ref ph),("groups",.ref gr),("wishes",.ref ws),("on",.ref on)]=([("phones",.ref ph),("groups",.ref gr),("wishes",.ref ws),("on",.ref on),("phone_rows",.ref pr)]:T0 (Str×D)):=rfl;rw[eput];generalize mN (mN (mN N4 q1 (.lst (l.lq.map λp=>D.tup [.str p.1,nP p]))) pr (.dk (l.lq.map λx=>(Sum.inr x.1,nP x)))) p (.ins a.e [("phones",.ref ph),("groups",.ref gr),("wishes",.ref ws),("on",.ref on),("phone_rows",.ref pr)])=N5 at k5 c5 p5 ⊢;have mm:=k5.lst (nG j2 p4) j2;have fb:=k5.lst (nG f7 p4) f7;have fc:=k5.lst (nG f8 p4) f8;have fd:=k5.lst (nG f9 p4) f9;have fe:=k5.lst (nG fa p4) fa;have ff:xK N5 pr=some (J7 l):=r9 c5;have w5:=w4.keep k5 rp;have kk5:=kk4.trans k5;have m5:M pr=none:=qj (kk4.trans sq1.keep) (sq1 _ _ p4) hpr;clear j1 j2 f7 f8 f9 fa c5 k5 e5 w4 kk4;refine mH mm (n8 (f:=vE) mm _ [] _ (by rw[bi];simp only[b9];lia) (λd hd k hk=>?_) λq2 hq2=>?_)
 .obtain⟨v,_,rfl⟩:=bP.mp hd;exact⟨mF rfl,hk⟩
 rw[cC,zq];have sq2:=oj.new (c:=.lst (l.groups.map λg=>D.tup [.str g.1,nV g])) hq2;refine mH mQ (mH (tw (λp:rk=>p.1) nV l.groups) ⟨vZ (jJ (List.sublist_append_right _ _) ok.nd),λgd hgd=>?_⟩);obtain⟨n6,e6,k6,c6,p6⟩:=su (fs':=Hm ph gr ws on pr gd) (c:=.dk (KN l)) (sq2 _ _ p5) hgd;have k6:=sq2.keep.trans k6;refine mW e6 ⟨(G.A "group_rows" rfl),by show 5<1000;decide,_,.refl,?_⟩;have m6:M gd=none:=qj (kk5.trans sq2.keep) (sq2 _ _ p5) hgd;have w6:=w5.keep k6 rp;have y1:=k6.lst (nG fb p5) fb;have y2:=k6.lst (nG fc p5) fc;have y3:=k6.lst (nG fd p5) fd;have y4:=k6.lst (nG fe p5) fe;have y5:=k6.dk (KB ff p5) ff;refine q _ (kk5.trans k6) ⟨ph,gr,ws,on,pr,gd,rs,p6,y1,y2,y3,y4,y5,r9 c6,w6⟩ λNn hs=>?_;exact⟨ph,gr,ws,on,pr,gd,rs,hs _ _ (.inl rfl) p6,p7 (hs _ _ (.inr hph) (nq y1)),p7 (hs _ _ (.inr m2) (nq y2)),p7 (hs _ _ (.inr m3) (nq y3)),p7 (hs _ _ (.inr m4) (nq y4)),r9 (hs _ _ (.inr m5) (yp y5)),r9 (hs _ _ (.inr m6) c6),w6.1,λi r v e1 e2=>hs _ _ (.inr (mr r (cJ e1))) (w6.2 i r v e1 e2)⟩
noncomputable def m9.l9(l:m9)(x:Str):Option pZ:=l.lq.find? λp=>decide (p.1=x)
def tj(a:Ad):pJ:=λds M Q=>Fw λp (l:m9)=>ds=[.ref p]/\uA a M p l/\l.lq.length<=100/\∀q,M q=none->Q (.ref q) (mN M q (.lst (l.pn.map D.str)))
def x6(a:Ad):pJ:=λds M Q=>Fw λp (l:m9)=>ds=[.ref p]/\uA a M p l/\l.lq.length<=100/\l.groups.length<=100/\∀q,M q=none->Q (.ref q) (mN M q (.lst (l.nm.map D.str)))
def sD:Fq P w K mg base 1 a.ao (tj a):=by
 refine fq G.ao.toDG sE (λr u=>⟨_,(mK (mT (oG rfl (yO (ix:=[none]) (N':=["phone"])) (oq (sT u0)) (nO 0) oJ (nc u0 mJ)))),?_⟩)
 rintro ds M Q ⟨p,l,rfl,hp,hl,q⟩
 have hz:=b7;obtain⟨ph,gr,ws,on,pr,gd,rs,h1,h2,h3,h4,h5,h6,h7,h8⟩:=hp;refine mW h1 (mH rfl (mH h2 ?_));refine n8 (f:=yy) h2 _ [] _ (by rw[bi];simp only[b9];lia) (λd hd k hk=>?_) λq1 hq1=>?_
 .obtain⟨x,_,rfl⟩:=bP.mp hd;exact hk
 rw[cC,tH];exact⟨_,.refl,q q1 hq1⟩
def wY:Fq P w K mg base 2 a.an (x6 a):=by
 refine fq G.an.toDG wD (λr u=>⟨_,(mK (mT (mU (Cf u0 G.e.toCls G.ao (sD G) r) (oG rfl (yO (ix:=[none]) (N':=["group"])) (oq (sT u0)) (nO 0) oJ (nc u0 mJ))))),?_⟩)
 rintro ds M Q ⟨p,l,rfl,hp,hl,O5,q⟩
 have hz:=b7;have Np:=hp;obtain⟨ph,gr,ws,on,pr,gd,rs,h1,h2,h3,h4,h5,h6,h7,h8⟩:=hp;refine mW h1 ⟨rfl,_,⟨rfl,rfl⟩,p,l,rfl,Np,hl,λq1 hq1=>?_⟩;obtain⟨M1,e0,s1,e1⟩:=Ac (ds:=l.pn.map D.str) hq1;rw[<-e0];have h3':=s1.lst h3;refine mW (s1 _ _ h1) (mH rfl (mH h3' ?_));refine n8 (f:=yy) h3' _ [] _ (by rw[bi];simp only[b9];lia) (λd hd k hk=>?_) λq2 hq2=>?_
 .obtain⟨x,_,rfl⟩:=bP.mp hd;exact hk
 rw[cC,tq];have s2:=oj.new (c:=.lst ((l.groups.map (·.1)).map D.str)) hq2;refine mH (s2.lst e1) (mH mQ ⟨?_,λq3 hq3=>?_⟩)
 .rw[bi,bi,bi];show(l.lq.map (·.1)).length+_<=_;rw[bi];lia
 have en:l.pn.map D.str++(l.groups.map (·.1)).map D.str=l.nm.map D.str:=by unfold m9.nm;rw[b6];rfl
 rw[en];exact⟨_,(s1.trans s2).upd,q q3 ((s1.trans s2).none hq3)⟩
noncomputable def Lf:T0 Int:=[1,1,2,2,3]
noncomputable def L8:T0 Int:=[0,1,1,2,5,9]
noncomputable def GA:QQQ:=["all","turns"]
noncomputable def KL(t:T0 Int)(i:Int):Int:=t.getD i.toNat 0
noncomputable def Ii(s:Int)(i:Nat):pZ:=(word s (0+(i:Nat)),KL Lf (nB (s+17*(0+(i:Nat))*(0+(i:Nat))) 16807 5),KL L8 (nB (s+17*(0+(i:Nat))*(0+(i:Nat))) 39373 6))
noncomputable def vf(s m:Int):Nat:=(2+nB s 48271 (m - 1)).toNat
noncomputable def sC(s m:Int):List pZ:=(List.range (vf s m)).map (Ii s)
noncomputable def uy(s:Int)(own:QQQ)(i:Nat):rk:=(word s (8+(0+(i:Nat))),sO GA (nB (s+5*(0+(i:Nat))) 742938285 2),rE own (s+11*(0+(i:Nat))) 4)
noncomputable def uh(s:Int):Nat:=(nB s 69621 3).toNat
noncomputable def ou(s:Int)(own:QQQ):List rk:=(List.range (uh s)).map (uy s own)
def we{n:Nat}{pre post:T0 D}{d:D}(e:pre++d::post=(List.range n).map λi=>D.int (0+(i:Nat))):d=.int (0+(pre.length:Nat))/\pre.length<n:=by
 have h:((List.range n).map λi=>D.int (0+(i:Nat)))[pre.length]?=some d:=by rw[<-e];simp
 have hl:pre.length<n:=by
  have:=(bI.mp h).1
  simpa using this
 rw[bJ,gU hl]at h;exact⟨(bH h).symm,hl⟩
def zt{α β:Type}(f:Nat->α)(g:α->β)(n:Nat):((List.range n).map f).map g++[g (f n)]=((List.range (n+1)).map f).map g:=by rw[List.range_succ,b6,b6];rfl
def AF:pJ:=λds M Q=>Bf λs o own=>ds=[.int s,.ref o]/\md M o=some (own.map D.str)/\own≠[]/\own.length<=64/\∀q,M q=none->Q (.ref q) (mN M q (.lst ((ou s own).map nV)))
def sZ{s:Int}:uh s<=3:=by have d0:=nI (c:=s) (f:=69621) (m:=3) (by decide);have d1:=nF (c:=s) (f:=69621) (m:=3) (by decide);unfold uh;lia
def Al:Fq P w K mg base 3 a.aj AF:=by
 refine fq G.aj.toDG pR (λr u=>⟨_,(mI (nh 2 pR (qm rc))
 (mI (pY cU rfl (qi rfl G.B (oB (mO (oH G) r G.j (tE u0 mJ mJ)))) (oh 3 pR)
 (mI (nh 4 pR (nc (nX (qd mV mV)) (mO (oH G) r G.j (tE (mU u0 (mU mJ V3)) mJ mJ))))
 (mK (mX (pE V2 (oB (nX (tE (mO (B4 G) r G.I (qd u0 (mU mJ V3))) v4 (mO (G8 G) r G.ai (tE V1 (mU u0 (mU mJ V3)) mJ))))))))))
 (mK (mT V2)))),?_⟩)
 rintro ds M Q ⟨s,o,own,rfl,ho,NY,h64,q⟩
 have hz:=b7;have d0:=nI (c:=s) (f:=69621) (m:=3) (by decide);have d1:=nF (c:=s) (f:=69621) (m:=3) (by decide);have nl:=sZ (s:=s);refine⟨mF rfl,λr hr=>⟨s,_,_,rfl,by decide,rfl,⟨?_,?_⟩,?_⟩⟩
 .show -(2 ^ 62)<=nB s 69621 3;lia
 .show nB s 69621 3<2 ^ 62;lia
 have nor:o≠r:=λz=>by rw[z]at ho;unfold md at ho;rw[hr]at ho;cases ho
 refine ri ((List.range (uh s)).map λi=>D.int (0+(i:Nat))) (λpre U M'=>M'=mN M r (.lst (((List.range pre.length).map (uy s own)).map nV))/\∃x y,U=[some (.int s),some (.ref o),some (.ref r),x,y]) (λ_ _ _ _=>trivial) _ [] _ _ rfl ⟨rfl,none,none,rfl⟩ ?_ ?_
 .rintro pre d post e U M' ⟨rfl,x,y,rfl⟩ nx Nt
  obtain⟨rfl,Nd⟩:=we e;generalize hi:pre.length=i at Nd Nt ⊢;have c5:xZ 5 (0+(i:Int)):=.inl ⟨by decide,by decide⟩;have c11:xZ 11 (0+(i:Int)):=.inl ⟨by decide,by decide⟩;have tm:ug [D.str "all",.str "turns"] (nB (s+5*(0+(i:Int))) 742938285 2)=some (.str (uy s own i).2.1):=ye (row:=GA) (nI (by decide)) (nF (by decide));have Oa:md (mN M r (.lst (((List.range i).map (uy s own)).map nV))) o=some (own.map D.str):=by unfold md;rw[nv nor];exact ho
  refine⟨mF rfl,c5,_,_,_,rfl,by decide,mH tm ?_⟩;refine⟨by show(md _ r).isSome=true;rw[mQ];rfl,s,_,rfl,c11,o,_,_,own,rfl,Oa,NY,by decide,h64,mF rfl,mH mQ ⟨?_,?_⟩⟩
  .rw[bi,bi,cx];lia
  .refine Nt _ _ ⟨?_,_,_,rfl⟩;rw[nN,bF,hi];show mN M r (.lst (_++[nV (uy s own i)]))=_;rw[zt];rfl
 .rintro U M' ⟨rfl,x,y,rfl⟩
  refine⟨_,.refl,?_⟩;rw[bi,cx];exact q r hr
theorem vK(x:Array Nat):∀(n:Nat) (acc:Array Nat),((List.replicate n x).foldl (·++·) acc).toList=acc.toList++(List.replicate n x.toList).flatten
 | 0,acc=>by simp
 | n+1,acc=>by rw[dY,dD,vK x n (acc++x),dY,jX,bU,cc]
theorem zf(c:Nat):∀n:Nat,(List.replicate n [c]).flatten=List.replicate n c
 | 0=>rfl
 | n+1=>by rw[dY,jX,zf c n,dY];rfl
def xl(i n:Int):(tf (oX i) n).cps.toList=List.replicate n.toNat (97+i.toNat):=by show((List.replicate n.toNat (oX i).cps).foldl (·++·) #[]:Array Nat).toList=_;rw[vK];show[]++(List.replicate n.toNat [97+i.toNat]).flatten=_;rw[cC,zf]
def sf(s v:Int):(word s v).cps.toList=List.replicate (place s).toNat (97+(s / 36 % 26).toNat)++(97+((s / 936+v) % 26).toNat)::List.replicate (size s - 1 - place s).toNat (97+(s / 36 % 26).toNat):=by show((tf (oX (s / 36 % 26)) (place s)).cps++(oX ((s / 936+v) % 26)).cps++(tf (oX (s / 36 % 26)) (size s - 1 - place s)).cps).toList=_;rw[bU,bU,xl,xl];show _++[97+((s / 936+v) % 26).toNat]++_=_;rw[cc];rfl
def wf(s v:Int):1<=(word s v).length/\(word s v).length<=6:=by
 have e:(word s v).length=(word s v).cps.toList.length:=by simp[Str.length]
 rw[e,sf,bF,bR,gC,gC];have h1:=zj s;have h2:=Bx s;have h3:0<=place s:=cu _ (by lia);have h4:place s<size s:=ck _ h1;lia
def EH{i:Int}(h0:0<=i)(h1:i<26):wF ⟨#[97+i.toNat]⟩ pB=true:=by
 obtain⟨n,rfl⟩:=cT h0;have hn:n<26:=by lia
 have key:∀n:_root_.Fin 26,wF ⟨#[97+n.val]⟩ pB=true:=by decide+kernel
 exact key ⟨n,hn⟩
def xP(s v:Int):pA (word s v)=true:=by
 obtain⟨h1,h2⟩:=wf s v;unfold pA;rw[bZ (show(1:Int)<=(word s v).length by lia),bZ (show((word s v).length:Int)<=6 by lia),gy,gy,cD];intro c hc;rw[sf]at hc;have k1:=EH (cu (s / 36) (show(26:Int)≠0 by decide)) (ck (s / 36) (by decide));have k2:=EH (cu (s / 936+v) (show(26:Int)≠0 by decide)) (ck (s / 936+v) (by decide));rcases bT.mp hc with z|z
 .rw[iP z];exact k1
 .rcases bq.mp z with z|z
  .rw[z];exact k2
  .rw[iP z];exact k1
def wy{s u v:Int}(hu:0<=u)(hu':u<26)(hv:0<=v)(hv':v<26)(e:word s u=word s v):u=v:=by
 have e':(word s u).cps.toList=(word s v).cps.toList:=by rw[e]
 rw[sf,sf]at e';have:=(iT e');have:=(dz this).1;have a1:=cu (s / 936+u) (show(26:Int)≠0 by decide);have a2:=cu (s / 936+v) (show(26:Int)≠0 by decide);have h:(s / 936+u) % 26=(s / 936+v) % 26:=by lia
 lia
def qv{ss:QQQ}{x:Str}(h:x∈ss):r0 ss x:=eP.mpr ⟨x,h,by simp⟩
def rq{row:QQQ}{i:Int}(h0:0<=i)(h1:i<row.length):sO row i∈row:=by
 obtain⟨n,rfl⟩:=cT h0;have hn:n<row.length:=by lia
 have:sO row (n:Int)=row[n]:=by simp[sO,hn]
 rw[this];exact fM hn
def ym{row:QQQ}{i j:Int}(nd:row.Nodup)(h0:0<=i)(h1:i<row.length)(g0:0<=j)(g1:j<row.length)(e:sO row i=sO row j):i=j:=by
 obtain⟨n,rfl⟩:=cT h0;obtain⟨k,rfl⟩:=cT g0;have hn:n<row.length:=by lia
 have hk:k<row.length:=by lia
 have e1:sO row (n:Int)=row[n]:=by simp[sO,hn]
 have e2:sO row (k:Int)=row[k]:=by simp[sO,hk]
 rw[e1,e2]at e;have pw:=di.mp nd;rcases Nat.lt_trichotomy n k with z|z|z
 .exact absurd e (pw n k hn hk z)
 .rw[z]
 .exact absurd e.symm (pw k n hk hn z)
def ur{α:Type}(f:Nat->α)(n:Nat)(h:∀i j,i<n->j<n->f i=f j->i=j):((List.range n).map f).Nodup:=by refine di.mpr λi j hi hj Nd e=>?_;rw[bi,cx]at hi hj;rw[kq,kq,jK,jK]at e;have:=h i j hi hj e;lia
def wm{row:QQQ}{c m:Int}(hr:row≠[])(hm:0<m):1<=rG row c m/\(rG row c m:Int)<=m/\rG row c m<=row.length:=by
 have hl:0<row.length:=dg.mpr hr;have d0:=nI (c:=c) (f:=40692) (m:=if (row.length:Int)<m then(row.length:Int)else m) (by split<;>lia);have d1:=nF (c:=c) (f:=40692) (m:=if (row.length:Int)<m then(row.length:Int)else m) (by split<;>lia);unfold rG;by_cases h:(row.length:Int)<m
 .rw[bA h]at d0 d1 ⊢;lia
 .rw[bv h]at d0 d1 ⊢;lia
def vV{row:QQQ}{c:Int}(hr:row≠[])(j:Nat):0<=(nB c 69621 row.length+(0+(j:Nat))) % (row.length:Int)/\(nB c 69621 row.length+(0+(j:Nat))) % (row.length:Int)<row.length:=by have hl:0<row.length:=dg.mpr hr;exact⟨cu _ (by lia),ck _ (by lia)⟩
def yA{d n i j:Int}(hn:0<n)(hi:0<=i)(Pf:i<n)(hj:0<=j)(NC:j<n)(e:(d+i) % n=(d+j) % n):i=j:=by
 have h1:=jd (d+i) n;have h2:=jd (d+j) n;generalize (d+i) / n=a at h1;generalize (d+j) / n=b at h2;have h3:i - j=n*(a - b):=by rw[Int.mul_sub];lia
 rcases Int.lt_trichotomy (a - b) 0 with z|z|z
 .have:n*(a - b)<=n*(-1):=gT (by lia) (by lia);lia
 .rw[z]at h3;lia
 .have:n*1<=n*(a - b):=gT (by lia) (by lia);lia
def AH{row:QQQ}{c m:Int}(nd:row.Nodup)(hr:row≠[])(hm:0<m):(rE row c m).Nodup:=by have hl:0<row.length:=dg.mpr hr;obtain⟨_,_,l3⟩:=wm (c:=c) hr hm;refine ur _ _ λi j hi hj e=>?_;obtain⟨a0,a1⟩:=vV (c:=c) hr i;obtain⟨b0,b1⟩:=vV (c:=c) hr j;have e':=ym nd a0 a1 b0 b1 e;have:=yA (d:=nB c 69621 row.length) (n:=row.length) (i:=0+(i:Nat)) (j:=0+(j:Nat)) (by lia) (by lia) (by lia) (by lia) (by lia) e';lia
def ze{row:QQQ}{c m k:Int}(nd:row.Nodup)(hr:row≠[])(hm:0<m)(hk:m<=k):oI (rE row c m) row k=true:=by
 obtain⟨l1,l2,l3⟩:=wm (c:=c) hr hm;have el:(rE row c m).length=rG row c m:=by unfold rE;rw[bi,cx]
 unfold oI;rw[el,bZ (show(1:Int)<=rG row c m by lia),bZ (show(rG row c m:Int)<=k by lia),xf (AH nd hr hm),gy,gy,gy,cD];intro x hx;unfold rE at hx;obtain⟨j,_,rfl⟩:=bP.mp hx;obtain⟨a0,a1⟩:=vV (c:=c) hr j;exact qv (rq a0 a1)
def DY{row:QQQ}{c m:Int}(hr:row≠[])(hm:0<m)(h:m<=100):(rE row c m).length<4000:=by
 obtain⟨l1,l2,l3⟩:=wm (c:=c) hr hm;have el:(rE row c m).length=rG row c m:=by unfold rE;rw[bi,cx]
 lia
def Fn{s:Int}{own:QQQ}(nd:own.Nodup)(hr:own≠[])(i:Nat):yl own (uy s own i):=by
 have t0:=nI (c:=s+5*(0+(i:Nat))) (f:=742938285) (m:=2) (by decide);have t1:=nF (c:=s+5*(0+(i:Nat))) (f:=742938285) (m:=2) (by decide);refine⟨bS (wf s (8+(0+(i:Nat)))).2 (by decide),xP _ _,?_,DY hr (by decide) (by decide),ze nd hr (by decide) (by decide)⟩;show sO GA (nB (s+5*(0+(i:Nat))) 742938285 2)="all"\/sO GA (nB (s+5*(0+(i:Nat))) 742938285 2)="turns";generalize nB (s+5*(0+(i:Nat))) 742938285 2=d at t0 t1;have:d=0\/d=1:=by lia
 rcases this with z|z
 .subst z;exact .inl rfl
 .subst z;exact .inr rfl
def Aq(s m:Int):(sC s m).map (·.1)=(List.range (vf s m)).map λi=>word s (0+(i:Nat)):=by unfold sC;rw[cj];rfl
def zr{s m:Int}(h2:2<=m)(h8:m<=8):((sC s m).map (·.1)).Nodup/\∀own,((sC s m).map (·.1)++(ou s own).map (·.1)).Nodup:=by
 have d1:=nF (c:=s) (f:=48271) (m:=m - 1) (by lia);have d0:=nI (c:=s) (f:=48271) (m:=m - 1) (by lia);have p8:vf s m<=8:=by unfold vf;lia
 have g3:=sZ (s:=s);have a:((sC s m).map (·.1)).Nodup:=by rw[Aq];refine ur _ _ λi j hi hj e=>?_;have:=wy (by lia) (by lia) (by lia) (by lia) e;lia
 refine⟨a,λown=>?_⟩;have ge:(ou s own).map (·.1)=(List.range (uh s)).map λi=>word s (8+(0+(i:Nat))):=by unfold ou;rw[cj];rfl
 rw[cw];refine⟨a,?_,λx hx y hy e=>?_⟩
 .rw[ge];refine ur _ _ λi j hi hj e=>?_;have:=wy (by lia) (by lia) (by lia) (by lia) e;lia
 .rw[Aq]at hx;rw[ge]at hy;obtain⟨i,hi,rfl⟩:=bP.mp hx;obtain⟨j,hj,rfl⟩:=bP.mp hy;have hi:=cY.mp hi;have hj:=cY.mp hj;have:=wy (by lia) (by lia) (by lia) (by lia) e;lia
def yd{x y:Str}(h:D.str x=D.str y):x=y:=by cases h;rfl
noncomputable def qB(l:QQQ):Str:=l.headD ""
noncomputable def rZ(l:QQQ):Str:=l.getLastD ""
noncomputable def nW(gs:Str->QQQ):Nat->QQQ->T0 (QQQ)
 | 0,_=>[]
 | n+1,path=>(gs (rZ path)).flatMap λx=>if x=qB path then[path]else if rg (qB path) x&&!(path.contains x)then nW gs n (path++[x])else[]
noncomputable def yB(gs:Str->QQQ)(n:Nat)(path:QQQ)(x:Str):T0 (QQQ):=if x=qB path then[path]else if rg (qB path) x&&!(path.contains x)then nW gs n (path++[x])else[]
def sA(gs:Str->QQQ)(n:Nat)(path:QQQ):nW gs (n+1) path=(gs (rZ path)).flatMap (yB gs n path):=rfl
def nM(M:Mp):QXQ->T0 (QQQ)->Prop
 | [],[]=>True
 | q::ps,r::rs=>md M q=some (r.map D.str)/\nM M ps rs
 | _,_=>False
theorem nM.app{M:Mp}:∀{ps qs:QXQ} {rs ts:T0 (QQQ)},nM M ps rs->nM M qs ts->nM M (ps++qs) (rs++ts)
 | [],_,[],_,_,h=>h
 | [],_,_::_,_,h,_=>h.elim
 | _::_,_,[],_,h,_=>h.elim
 | _::_,_,_::_,_,⟨h1,h2⟩,h=>⟨h1,nM.app h2 h⟩
theorem nM.mono{M M':Mp}:∀{ps:QXQ} {rs:T0 (QQQ)},nM M ps rs->(∀q∈ps,∀c,M q=some c->M' q=some c)->nM M' ps rs
 | [],[],_,_=>trivial
 | [],_::_,h,_=>h.elim
 | _::_,[],h,_=>h.elim
 | q::_,_::_,⟨h1,h2⟩,k=>⟨by
   have:=k q bM _ (nq h1);unfold md;rw[this],nM.mono h2 λq hq=>k q (bL _ hq)⟩
theorem nM.len{M:Mp}:∀{ps:QXQ} {rs:T0 (QQQ)},nM M ps rs->ps.length=rs.length
 | [],[],_=>rfl
 | [],_::_,h=>h.elim
 | _::_,[],h=>h.elim
 | _::_,_::_,⟨_,h⟩=>de (·+1) h.len
theorem nM.cell{M:Mp}:∀{ps:QXQ} {rs:T0 (QQQ)},nM M ps rs->∀{q:Addr},q∈ps->∃c,M q=some c
 | [],_,_,_,z=>by cases z
 | _::_,[],h,_,_=>h.elim
 | p::ps,r::rs,⟨h1,h2⟩,q,z=>by
  rcases bq.mp z with e|e
  .subst e;exact⟨_,nq h1⟩
  .exact h2.cell e
structure Hv(M M':Mp)(p:Addr)(rs:List (QQQ)):Prop where
 fr:M p=none
 at_:∃ps:QXQ,md M' p=some (ps.map D.ref)/\ps.Nodup/\p∉ps/\(∀q∈ps,M q=none)/\nM M' ps rs
structure F9(M:Mp)(g:Addr)(nm:QQQ)(gs:Str->QQQ):Prop where
 at_:∃ob kvs,M g=some (.fd ob kvs)/\∀x∈nm,∃b,qU kvs (.inr x)=some (.ref b)/\md M b=some ((gs x).map D.str)
 cl:∀x∈nm,∀y∈gs x,y∈nm
 bd:∀n p,p≠[]->(∀x∈p,x∈nm)->(nW gs n p).length<=1000000
def sv(n:Nat):pJ:=λds M Q=>∃g p nm gs path,ds=[.ref g,.ref p]/\F9 M g nm gs/\md M p=some (path.map D.str)/\path≠[]/\path.Nodup/\(∀x∈path,x∈nm)/\nm.length<path.length+n/\nm.length<1000/\∀q M',oj M M'->Hv M M' q (nW gs n path)->Q (.ref q) M'
theorem qJ:∀{l m:QQQ},l.Nodup->(∀x∈l,x∈m)->l.length<=m.length
 | [],_,_,_=>cF _
 | x::l,m,nd,h=>by obtain⟨n1,n2⟩:=cp.mp nd;have p:=jj (h x bM);have:=qJ (l:=l) (m:=m.erase x) n2 λy hy=>(jk (λe:y=x=>n1 (e ▸ hy))).mpr (h y (bL _ hy));have:=p.length_eq;simp at this ⊢;lia
def x9{l:QQQ}(h:l≠[]):ug (l.map D.str) (-1)=some (.str (rZ l)):=by
 have hp:0<l.length:=dg.mpr h;unfold ug Hg;rw[bv (by decide),bA (by rw[bi];lia),Option.bind_some,bJ,bi];rw[show((-1:Int)+(l.length:Nat)).toNat=l.length - 1 by lia,<-List.getLast?_eq_getElem?,List.getLast?_eq_some_getLast h];cases l with
 | nil=>exact absurd rfl h
 | cons z zs=>unfold rZ;rw[ic,<-gh (by simp)];rfl
def p7{M:Mp}{p:Addr}{ds:T0 D}(h:M p=some (.lst ds)):md M p=some ds:=by unfold md;rw[h]
def oW{M M1:Mp}{f:Addr}{c:qp}(s:oj M M1)(h:M f=none):oj M (mN M1 f c):=λb d q=>by rw[nv (JF q h)];exact s b d q
def oK{M M1:Mp}{r:Addr}(s:oj M M1)(h:M1 r=none):M r=none:=by
 cases e:M r with
 | none=>rfl
 | some c=>rw[s r c e]at h;cases h
def oi{M M':Mp}{p:Addr}{ds:T0 D}(s:oj M M')(h:md M p=some ds):md M' p=some ds:=by have:=s p _ (nq h);unfold md;rw[this]
def EO:Fq P w K mg base 1 a.h (sv 0):=by
 show GD P w K mg base 1 a.h.f a.h.d a.h.p (sv 0);rw[G.h.pe];refine G.h.fn.ok pC (λvs H Q E h=>?_) (λNk A outer s H vs Q' E hr h=>?_)
 .obtain⟨ds,M,Q,hd,_,⟨g,p,nm,gs,path,_,_,_,_,nd,sb,lt,_⟩,_⟩:=h;exact absurd (qJ nd sb) (by lia)
 .obtain⟨ds,M,Q,hd,_,⟨g,p,nm,gs,path,_,_,_,_,nd,sb,lt,_⟩,_⟩:=h;exact absurd (qJ nd sb) (by lia)
def Aw(G:Gl K mg a){k n:Nat}(Nh:Fq P w K mg base k a.h (sv n)):GD P w K mg base (k+1) a.h.f a.h.d a.h.p (sv (n+1)):=by
 refine fq G.h.toDG pC (λr u=>⟨_,(mI (nh 2 pC (qm rc))
 (mI (pY cU rfl (oq (BB u u0 (nc V1 (EE mJ)))) (oh 3 pC)
 (mK (n9 (nC u V3 (nc V1 mJ))
 (mK (mX (pE V2 (oB (pf xV rfl G.Z tP (oB V1))))))
 (mK (n9 (W3.b3 (vR (KQ V3 (nc V1 mJ)) (tN (nC u V3 V1))))
 (mK (mX (tR V2 (oB (mO Nh r G.h (qd u0 (mU V1 (qm (oB V3)))))))))
 nk)))))
 (mK (mT V2)))),?_⟩)
 rintro ds M Q ⟨g,p,nm,gs,path,rfl,ga,hp,ne,nd,sb,lt,ls,q⟩
 obtain⟨ob,kvs,e1,e2⟩:=ga.at_;obtain⟨y,ys,rfl⟩:∃y ys,path=y::ys:=by
  cases path with
  | nil=>exact absurd rfl ne
  | cons y ys=>exact⟨y,ys,rfl⟩
 refine⟨cF _,λf hf=>?_⟩;have hl:rZ (y::ys)∈nm:=sb _ (by unfold rZ;rw[ic,<-gh (by simp)];exact kr _);obtain⟨b,e3,e4⟩:=e2 _ hl;have s0:oj M (mN M f (.lst [])):=.new hf;refine mH (oi s0 hp) (mH (x9 (by simp)) (mH (show HQ _ g=some kvs by unfold HQ;rw[s0 g _ e1]) (mH e3 (mH (oi s0 e4) ?_))));let J:T0 D->qD->Mp->Prop:=λpre U M1=>∃(x:Option D) (xs:QQQ) (ps:QXQ),U=[some (.ref g),some (.ref p),some (.ref f),x]/\pre=xs.map D.str/\oj M M1/\md M1 f=some (ps.map D.ref)/\ps.Nodup/\f∉ps/\(∀q∈ps,M q=none)/\nM M1 ps (xs.flatMap (yB gs n (y::ys)));refine ri ((gs (rZ (y::ys))).map D.str) J (λpre U M1 j=>?_) _ [] _ _ rfl ⟨none,[],[],rfl,rfl,s0,mQ,dB,by simp,by simp,trivial⟩ (λpre d post he U M1 j nx Nt=>?_) λU M1 j=>?_
 .obtain⟨x,xs,ps,_,_,sm,_⟩:=j;exact oi sm e4
 .obtain⟨x0,xs,ps,rfl,rfl,sm,Ow,Pl,nf,fr,rp⟩:=j;obtain⟨x,rfl,hx⟩:∃x,d=.str x/\x∈gs (rZ (y::ys)):=by have:d∈(gs (rZ (y::ys))).map D.str:=he ▸ bW _ bM;obtain⟨x,hx,rfl⟩:=bP.mp this;exact⟨x,rfl,hx⟩
  have bd:∀r,(xs.flatMap (yB gs n (y::ys))++r).length<=1000000->ps.length<=1000000:=λr z=>by have:=rp.len;rw[bF]at z;lia
  have tot:(xs.flatMap (yB gs n (y::ys))++yB gs n (y::ys) x).length<=1000000:=by have b0:=ga.bd (n+1) (y::ys) (by simp) sb;obtain⟨zs,ez,e5⟩:=i7.mp he.symm;obtain⟨e6,e7,e8⟩:=e5;obtain⟨x',r',e9,e10,_⟩:=jm.mp e8;have e11:zs=xs:=(eA λ_ _ z=>yd z).mp e7;cases yd e10;subst e11;rw[sA,e6,e9,d3,fA,<-cc,bF]at b0;lia
  refine mH (oi sm hp) (mH (qH (j:=0) rfl) ?_);show if (x==y)=true then _ else _
  have kp:∀(M2:Mp) (q:Addr) (c c2:qp),q∈ps->oj M1 M2->M1 q=some c->mN M2 f c2 q=some c:=λM2 q c c2 hq s e=>by rw[nv (λz:q=f=>nf (z ▸ hq))];exact s q c e
  have isl:B8 M1 (.ref f):=by show(md M1 f).isSome=true;rw[Ow];rfl
  refine rJ (c:=x==y) (λgx=>?_) (λgx=>?_)
  .have gx:x=y:=eq_of_beq gx;refine⟨isl,mH (show AL M1 (D.ref p)=some ((y::ys).map D.str)from oi sm hp) λr hr=>?_⟩;refine mH (oi (.new hr) Ow) ⟨?_,?_⟩
   .have:=bd _ tot;have:=b7;rw[bi];lia
   have rf:r≠f:=λz=>by subst z;rw[nq Ow]at hr;cases hr
   have rps:r∉ps:=λz=>by obtain⟨c,e⟩:=rp.cell z;rw[hr]at e;cases e
   refine Nt _ _ ⟨_,xs++[x],ps++[r],rfl,by simp,oW (oW sm (oK sm hr)) hf,?_,?_,?_,?_,?_⟩
   .rw[b6];exact mQ
   .exact cw.mpr ⟨Pl,by simp,λu hu v hv=>by rw[bK]at hv;subst hv;exact λe=>rps (e ▸ hu)⟩
   .simp[nf,bQ rf]
   .intro q hq;rcases bT.mp hq with z|z
    .exact fr q z
    .rw[bK]at z;subst z;exact oK sm hr
   .rw[d3];refine(rp.mono λq hq c e=>kp _ q c _ hq (.new hr) e).app ?_;have es:[x].flatMap (yB gs n (y::ys))=[y::ys]:=by simp[yB,qB,gx]
    rw[es];refine⟨?_,trivial⟩;exact p7 (by rw[nv rf];exact mM)
  .have gx:x≠y:=by simpa using gx
   refine mH (oi sm hp) (mH (qH (j:=0) rfl) ?_);show if rg y x=true then _ else _
   have skip:(rg y x&&!((y::ys).contains x))=false->J (xs.map D.str++[D.str x]) [some (D.ref g),some (D.ref p),some (D.ref f),some (D.str x)] M1:=λz=>by
    refine⟨_,xs++[x],ps,rfl,by simp,sm,Ow,Pl,nf,fr,?_⟩;have es:[x].flatMap (yB gs n (y::ys))=[]:=by have z':(rg (qB (y::ys)) x&&!((y::ys).contains x))=false:=z;simp only[fA,ku,b5,yB];rw[bv (show ¬x=qB (y::ys)from gx),z'];rfl
    rw[d3,es,b5];exact rp
   refine rJ (c:=rg y x) (λh1=>?_) (λh1=>Nt _ _ (skip (by rw[eJ.mpr h1];rfl)));refine mH (oi sm hp) ⟨rfl,oZ _,?_⟩;show if (!(inD (.str x) ((y::ys).map D.str)))=true then _ else _
   rw[ya];have ec:(y::ys).any (·==x)=(y::ys).contains x:=by rw[iO];congr 1;funext z;exact kR
   rw[ec];refine rJ (c:=!(y::ys).contains x) (λh2=>?_) (λh2=>Nt _ _ (skip (by rw[eJ.mpr h2,fC])));refine⟨isl,jY (by have:=b7;show 0<sizeLine;lia),λt1 ht1=>?_⟩;have h2:x∉y::ys:=by simpa using h2
   have s1:oj M1 (mN M1 t1 (.lst [.str x])):=.new ht1;refine mH (oi (sm.trans s1) hp) (mH mQ ⟨?_,λt2 ht2=>?_⟩)
   .have:=b7;have:=qJ nd sb;simp only[bi,bR,b9]at this ⊢;lia
   have s2:=s1.trans (oj.new (c:=.lst ((y::ys).map D.str++[.str x])) ht2);refine⟨g,t2,nm,gs,y::ys++[x],rfl,⟨⟨ob,kvs,(sm.trans s2) g _ e1,λz hz=>?_⟩,ga.cl,ga.bd⟩,?_,by simp,?_,?_,?_,?_,λq M3 s3 rn=>?_⟩
   .obtain⟨b',z1,z2⟩:=e2 z hz;exact⟨b',z1,oi (sm.trans s2) z2⟩
   .rw[b6];exact mQ
   .exact cw.mpr ⟨nd,by simp,λu hu v hv=>by rw[bK]at hv;subst hv;exact λe=>h2 (e ▸ hu)⟩
   .intro z hz;rcases bT.mp hz with z1|z1
    .exact sb z z1
    .rw[bK]at z1;subst z1;exact ga.cl _ hl _ hx
   .simp only[bF,bR,b9]at lt ⊢;lia
   .exact ls
   .obtain⟨qf,qs,w1,w2,w3,w4,w5⟩:=rn;have P6:=s2.trans s3;have es:[x].flatMap (yB gs n (y::ys))=nW gs n (y::ys++[x]):=by
     have z':(rg (qB (y::ys)) x&&!((y::ys).contains x))=true:=by rw[cO];exact⟨h1,by simpa using h2⟩
     simp only[fA,ku,b5,yB];rw[bv (show ¬x=qB (y::ys)from gx),bA z']
    have NK:yB gs n (y::ys) x=nW gs n (y::ys++[x]):=by simpa using es
    refine mH (oi P6 Ow) (mH w1 ⟨?_,?_⟩)
    .have:=rp.len;have:=w5.len;have:=b7;rw[NK,bF]at tot;rw[bi,bi];lia
    have fq:f∉qs:=λz=>by have:=w4 f z;rw[s2 f _ (nq Ow)]at this;cases this
    refine Nt _ _ ⟨_,xs++[x],ps++qs,rfl,by simp,oW (sm.trans P6) hf,?_,?_,?_,?_,?_⟩
    .rw[b6];exact mQ
    .refine cw.mpr ⟨Pl,w2,λu hu v hv e=>?_⟩;subst e;obtain⟨c,ec⟩:=rp.cell hu;have:=w4 u hv;rw[s2 u c ec]at this;cases this
    .rw[bT];exact λz=>z.elim nf fq
    .intro r hr;rcases bT.mp hr with z|z
     .exact fr r z
     .exact oK (sm.trans s2) (w4 r z)
    .rw[d3,es];refine(rp.mono λr hr c e=>kp _ r c _ hr P6 e).app (w5.mono λr hr c e=>?_);rw[nv (λz:r=f=>fq (z ▸ hr))];exact e
 .obtain⟨x0,xs,ps,rfl,ex,sm,Ow,Pl,nf,fr,rp⟩:=j;have:xs=gs (rZ (y::ys)):=by exact(eA λ_ _ z=>yd z).mp ex.symm
  subst this;exact⟨M1,.refl,q f M1 sm ⟨hf,ps,Ow,Pl,nf,fr,rp⟩⟩
theorem zb(G:Gl K mg a):∀n:Nat,GD P w K mg base (n+1) a.h.f a.h.d a.h.p (sv n)
 | 0=>EO G
 | n+1=>Aw G (zb G n)
def r9{M:Mp}{p:Addr}{kvs:T0 (nS×D)}(h:M p=some (.dk kvs)):xK M p=some kvs:=by unfold xK;rw[h]
noncomputable def rowAt(M:Mp)(q:Addr):QQQ:=((md M q).getD []).map λd=>match d with|.str x=>x|_=>""
def zL{M:Mp}{q:Addr}{r:QQQ}(h:md M q=some (r.map D.str)):rowAt M q=r:=by unfold rowAt;rw[h];show(r.map D.str).map _=r;rw[cj];exact jI r
theorem nM.rowAt{M:Mp}:∀{ps:QXQ} {rs:T0 (QQQ)},nM M ps rs->∀{q:Addr},q∈ps->md M q=some ((rowAt M q).map D.str)
 | [],_,_,_,z=>by cases z
 | _::_,[],h,_,_=>h.elim
 | p::ps,r::rs,⟨h1,h2⟩,q,z=>by
  rcases bq.mp z with e|e
  .subst e;rw[zL h1];exact h1
  .exact nM.rowAt h2 e
theorem nM.rows{M:Mp}:∀{ps:QXQ} {rs:T0 (QQQ)},nM M ps rs->ps.map (Z.rowAt M)=rs
 | [],[],_=>rfl
 | [],_::_,h=>h.elim
 | _::_,[],h=>h.elim
 | p::ps,r::rs,⟨h1,h2⟩=>by rw[cb,zL h1,nM.rows h2]
theorem B2{M:Mp}{f:Addr->QQQ}:∀{ps:QXQ},(∀q∈ps,md M q=some ((f q).map D.str))->nM M ps (ps.map f)
 | [],_=>trivial
 | q::ps,h=>⟨h q bM,B2 λr hr=>h r (bL _ hr)⟩
structure EV(M M':Mp)(g:Addr)(nm:QQQ)(gs:Str->QQQ):Prop where
 fr:M g=none
 at_:∃kvs,M' g=some (.dk kvs)/\kvs.map (·.1)=nm.map Sum.inr/\∀x∈nm,∃b,M b=none/\b≠g/\qU kvs (.inr x)=some (.ref b)/\md M' b=some ((gs x).map D.str)
noncomputable def Wi.lu:Wi->Option (Str×Str)
 | .always x y=>some (x,y)
 | .night x y _ _=>some (x,y)
 | .busy x y=>some (x,y)
 | .silent x y _=>some (x,y)
 | _=>none
noncomputable def m9.led(l:m9)(x:Str):QQQ:=l.k9.filterMap λw=>if w.1 then(w.2.lu.bind λp=>if p.1=x then some p.2 else none)else none
def JH(l:m9)(gs:Str->QQQ):Prop:=∀x∈l.nm,(gs x).Nodup/\∀y,y∈gs x↔y∈l.led x
def Bm(a:Ad):pJ:=λds M Q=>∃p l,ds=[.ref p]/\uA a M p l/\pM l/\∀g gs M',JH l gs->oj M M'->EV M M' g l.nm gs->Q (.ref g) M'
def MA(l:m9)(gs:Str->QQQ):Prop:=(∀x∈l.nm,∀y∈gs x,y∈l.nm)/\(∀n p,p≠[]->(∀x∈p,x∈l.nm)->(nW gs n p).length<=1000000)/\(l.nm.flatMap λx=>nW gs 12 [x]).length<=1000000
def FZ(a:Ad):pJ:=λds M Q=>∃p l,ds=[.ref p]/\uA a M p l/\pM l/\
 ∀q gs rs M',JH l gs->oj M M'->Hv M M' q rs->rs.Perm (l.nm.flatMap λx=>nW gs 12 [x])->rs.Pairwise (λr t=>rM t r=false)->Q (.ref q) M'
def nH{ss:QQQ}{x:Str}(h:r0 ss x):x∈ss:=by
 obtain⟨y,hy,e⟩:=eP.mp h;have:y=x:=by simpa using e
 exact this ▸ hy
noncomputable def pH(f:Str->Nat)(l:QQQ):Nat:=(l.map f).sum
theorem vt{f g:Str->Nat}:∀{l:QQQ},(∀x∈l,f x<=g x)->pH f l<=pH g l
 | [],_=>bw _
 | x::l,h=>Nat.add_le_add (h x bM) (vt λy hy=>h y (bL _ hy))
theorem zc(f g:Str->Nat):∀l:QQQ,pH (λx=>f x+g x) l=pH f l+pH g l
 | []=>rfl
 | x::l=>by show f x+g x+pH (λx=>f x+g x) l=(f x+pH f l)+(g x+pH g l);rw[zc f g l];lia
theorem Ak{f:Str->Nat}{p q:Str->Bool}(h:∀y,q y=true->p y=true):∀l:QQQ,pH f (l.filter q)<=pH f (l.filter p)
 | []=>bw _
 | y::l=>by
  have ih:=Ak (f:=f) h l;rw[gA,gA];by_cases hq:q y=true
  .rw[bA hq,bA (h y hq)];exact jx ih _
  .rw[bv hq];split
   .exact bS ih (iX _ _)
   .exact ih
theorem vS{f:Str->Nat}{p q:Str->Bool}{x:Str}(h:∀y,q y=true->p y=true)(px:p x=true)(qx:q x=false):∀{l:QQQ},x∈l->f x+pH f (l.filter q)<=pH f (l.filter p)
 | [],z=>by cases z
 | y::l,z=>by
  rw[gA,gA];rcases bq.mp z with e|e
  .subst e;rw[bA px,qx,bv (by simp)];exact jx (Ak h l) _
  .have ih:=vS (f:=f) h px qx e;by_cases hq:q y=true
   .rw[bA hq,bA (h y hq)];show f x+(f y+pH f (l.filter q))<=f y+pH f (l.filter p);lia
   .rw[bv hq];split
    .exact bS ih (iX _ _)
    .exact ih
theorem yW{α β:Type}{f:α->List β}{B:Nat}:∀{l:List α},(∀x∈l,(f x).length<=B)->(l.flatMap f).length<=l.length*B
 | [],_=>by simp
 | x::l,h=>by have:=yW (l:=l) λy hy=>h y (bL _ hy);have:=h x bM;rw[fA,bF,bR,kT];lia
def ww{p:QQQ}(h:p≠[]):rZ p∈p:=by
 cases p with
 | nil=>exact absurd rfl h
 | cons y ys=>unfold rZ;rw[ic,<-gh (by simp)];exact kr _
theorem xH{gs:Str->QQQ}{nm:QQQ}(cl:∀x∈nm,∀y∈gs x,y∈nm):∀(n:Nat) (path:QQQ),path≠[]->(∀x∈path,x∈nm)->(nW gs n path).length<=2 ^ ((gs (rZ path)).length+pH (λx=>(gs x).length) (nm.filter λx=>!(path.contains x)))
 | 0,_,_,_=>cF _
 | n+1,path,hp,hs=>by
  rw[sA,Nat.pow_add];refine bS (yW (B:=2 ^ pH (λx=>(gs x).length) (nm.filter λx=>!(path.contains x))) λx hx=>?_) (jn _ (fV Nat.lt_two_pow_self));unfold yB;split
  .exact Nat.one_le_two_pow
  .split
   .rename_i c;have c2:x∉path:=by simpa using(eN.mp c).2
    have hx:=cl _ (hs _ (ww hp)) _ hx;have ih:=xH cl n (path++[x]) (by simp) λy hy=>by
     rcases bT.mp hy with z|z
     .exact hs y z
     .rw[bK.mp z];exact hx
    have e:rZ (path++[x])=x:=by unfold rZ;simp
    rw[e]at ih;refine bS ih (jo (by decide) ?_);exact vS (f:=λx=>(gs x).length) (λy hy=>by simp at hy ⊢;exact hy.1) (by simpa using c2) (by simp) hx
   .exact cF _
def Do{gs:Str->QQQ}{nm:QQQ}{B:Nat}(cl:∀x∈nm,∀y∈gs x,y∈nm)(hb:pH (λx=>(gs x).length) nm<=B)(n:Nat){path:QQQ}(hp:path≠[])(hs:∀x∈path,x∈nm):(nW gs n path).length<=2 ^ B:=by
 refine bS (xH cl n path hp hs) (jo (by decide) (bS ?_ hb));have:=vS (f:=λx=>(gs x).length) (p:=λ_=>true) (q:=λx=>!(path.contains x)) (x:=rZ path) (l:=nm) (λ_ _=>rfl) rfl (by simpa using ww hp) (hs _ (ww hp))
 rwa [List.filter_eq_self.mpr (λ_ _=>rfl)]at this
noncomputable def CD(x:Str)(w:oR):Option Str:=if w.1 then(w.2.lu.bind λp=>if p.1=x then some p.2 else none)else none
theorem B6{s:Str}:∀{nm:QQQ},nm.Nodup->pH (λx=>if s=x then 1 else 0) nm<=1
 | [],_=>cF _
 | x::nm,nd=>by
  obtain⟨n1,n2⟩:=cp.mp nd;show(if s=x then 1 else 0)+pH _ nm<=1;by_cases e:s=x
  .subst e;have:pH (λx=>if s=x then 1 else 0) nm<=pH (λ_=>0) nm:=vt λy hy=>by rw[bv (λz:s=y=>n1 (z.symm ▸ hy))];exact bw _
   have z:∀l:QQQ,pH (λ_=>0) l=0:=λl=>by
    induction l with
    | nil=>rfl
    | cons _ _ ih=>show 0+pH _ _=0;rw[ih]
   rw[z]at this;rw[bA rfl];lia
  .rw[bv e,gN];exact B6 n2
theorem BK{nm:QQQ}(nd:nm.Nodup):∀ws:List oR,pH (λx=>(ws.filterMap (CD x)).length) nm<=ws.length
 | []=>by
  have z:∀l:QQQ,pH (λx=>(([]:List oR).filterMap (CD x)).length) l=0:=λl=>by
   induction l with
   | nil=>rfl
   | cons _ _ ih=>show 0+pH _ _=0;rw[ih]
  exact jB (z nm)
 | w::ws=>by
  have ih:=BK nd ws;have st:pH (λx=>((w::ws).filterMap (CD x)).length) nm<=pH (λx=>(if (w.2.lu.elim Str.empty (·.1))=x then 1 else 0)+(ws.filterMap (CD x)).length) nm:=vt λx _=>by
   rw[eS];cases e:CD x w with
   | none=>exact iX _ _
   | some y=>
    have:w.2.lu.elim Str.empty (·.1)=x:=by
     unfold CD at e;split at e
     .cases el:w.2.lu with
      | none=>rw[el]at e;cases e
      | some p=>
       rw[el]at e;have e:(if p.1=x then some p.2 else none)=some y:=e;split at e
       .rename_i h;exact h
       .cases e
     .cases e
    rw[bA this,bR];lia
  rw[zc]at st;have:=B6 (s:=w.2.lu.elim Str.empty (·.1)) nd;rw[bR];lia
def wt{l:m9}(ok:pM l){w:oR}(h:w∈l.k9){p:Str×Str}(e:w.2.lu=some p):p.1∈l.nm/\p.2∈l.nm/\p.1≠p.2:=by
 have:=ok.wo w h;cases ew:w.2<;>rw[ew]at e this<;>cases e
 .exact⟨nH this.1,nH this.2.1,this.2.2⟩
 .exact⟨nH this.1,nH this.2.1,this.2.2.1⟩
 .exact⟨nH this.1,nH this.2.1,this.2.2⟩
 .exact⟨nH this.1,nH this.2.1,this.2.2.1⟩
def vA{l:m9}{x y:Str}:y∈l.led x↔∃w∈l.k9,w.1=true/\w.2.lu=some (x,y):=by
 unfold m9.led;rw[eW];constructor
 .rintro ⟨w,hw,e⟩
  refine⟨w,hw,?_⟩;split at e
  .rename_i h1;cases el:w.2.lu with
   | none=>rw[el]at e;cases e
   | some p=>
    rw[el]at e;have e:(if p.1=x then some p.2 else none)=some y:=e;split at e
    .rename_i h;exact⟨h1,by rw[<-h,<-bH e]⟩
    .cases e
  .cases e
 .rintro ⟨w,hw,h1,h2⟩
  refine⟨w,hw,?_⟩;rw[bA h1,h2];show(if x=x then some y else none)=some y;rw[bA rfl]
def xR{l:m9}(ok:pM l):l.nm.length<=11:=by have:=ok.p8;have:=ok.g3;unfold m9.nm m9.pn m9.gn;rw[bF,bi,bi];lia
def Jn{l:m9}(ok:pM l){gs:Str->QQQ}(go:JH l gs):MA l gs:=by
 have cl:∀x∈l.nm,∀y∈gs x,y∈l.nm:=λx hx y hy=>by obtain⟨w,hw,_,e⟩:=vA.mp (((go x hx).2 y).mp hy);exact(wt ok hw e).2.1
 have sm:pH (λx=>(gs x).length) l.nm<=16:=bS (vt λx hx=>qJ (go x hx).1 λy hy=>((go x hx).2 y).mp hy) (bS (BK ok.nd l.k9) ok.mo);have h:=λn p hp hs=>Do cl sm n (path:=p) hp hs;refine⟨cl,λn p hp hs=>bS (h n p hp hs) (by decide),bS (yW (B:=2 ^ 16) λx hx=>h 12 [x] (by simp) λy hy=>by rw[bK.mp hy];exact hx) ?_⟩;have:=xR ok;have:l.nm.length*2 ^ 16<=11*2 ^ 16:=jn _ this;lia
def Ah(G:Gl K mg a)(Oj:Fq P w K mg base 13 a.C (Bm a))(Nh:Fq P w K mg base 13 a.h (sv 12)):Fq P w K mg base 14 a.aa (FZ a):=by
 refine fq G.aa.toDG qF (λr u=>⟨_,(mI (nh 1 qF (mO Oj r G.C (oB u0)))
 (mI (nh 2 qF (qm rc))
 (mI (pY cU rfl (BL V1) (oh 3 qF)
 (mK (mX (tR V2 (oB (mO Nh r G.h (qd V1 (qm (oB V3)))))))))
 (mK (mT (mR (Au u) rfl G.aF xA (oB V2))))))),?_⟩)
 rintro ds M Q ⟨p,l,rfl,pa,ok,q⟩
 have ln:=xR ok;refine⟨p,l,rfl,pa,ok,λg gs M1 go s1 gn=>?_⟩;obtain⟨cl,bd,bt⟩:=Jn ok go;refine⟨cF _,λf hf=>?_⟩;obtain⟨gf,kvs,e1,ek,e2⟩:=gn;have fg:g≠f:=JF e1 hf;refine mH (r9 (by rw[nv fg];exact e1)) ⟨l.nm,ek,λob=>?_⟩;generalize eb:mN M1 g (.fd ob kvs)=Mb;have sb:oj M Mb:=by rw[<-eb];exact oW s1 gf
 have bf:Mb f=none:=by rw[<-eb,nv (bQ fg)];exact hf
 have bg:Mb g=some (.fd ob kvs):=by rw[<-eb];exact mM
 have bl:∀x∈l.nm,∃b,qU kvs (.inr x)=some (.ref b)/\md Mb b=some ((gs x).map D.str):=λx hx=>by obtain⟨b,_,n2,n3,n4⟩:=e2 x hx;exact⟨b,n3,p7 (by rw[<-eb,nv n2];exact nq n4)⟩
 have sw:mN (mN M1 f (.lst [])) g (.fd ob kvs)=mN Mb f (.lst []):=by
  rw[<-eb];funext z;unfold mN;by_cases z1:z=g
  .rw[bA z1,bv (λz2=>fg (z1.symm.trans z2)),bA z1]
  .rw[bv z1,bv z1]
 rw[sw];clear sw eb e1 e2;let J:T0 D->qD->Mp->Prop:=λpre U M1=>∃(x:Option D) (xs:QQQ) (ps:QXQ),U=[some (.ref p),some (.ref g),some (.ref f),x]/\pre=xs.map D.str/\oj Mb M1/\md M1 f=some (ps.map D.ref)/\ps.Nodup/\f∉ps/\(∀q∈ps,Mb q=none)/\nM M1 ps (xs.flatMap λx=>nW gs 12 [x]);refine ri (l.nm.map D.str) J (λpre U M1 j=>?_) _ [] _ _ rfl ⟨none,[],[],rfl,rfl,.new bf,mQ,dB,by simp,by simp,trivial⟩ (λpre d post he U M1 j nx Nt=>?_) λU M1 j=>?_
 .obtain⟨x,xs,ps,_,_,sm,_⟩:=j;exact sm g _ bg
 .obtain⟨x0,xs,ps,rfl,rfl,sm,Ow,Pl,nf,fr,rp⟩:=j;obtain⟨x,rfl,hx⟩:∃x,d=.str x/\x∈l.nm:=by have:d∈l.nm.map D.str:=he ▸ bW _ bM;obtain⟨x,hx,rfl⟩:=bP.mp this;exact⟨x,rfl,hx⟩
  have tot:(xs.flatMap (λx=>nW gs 12 [x])++nW gs 12 [x]).length<=1000000:=by have b0:=bt;obtain⟨zs,ez,e6,e7,e8⟩:=i7.mp he.symm;obtain⟨x',r',e9,e10,_⟩:=jm.mp e8;have e11:zs=xs:=(eA λ_ _ z=>yd z).mp e7;cases yd e10;subst e11;rw[e6,e9,d3,fA,<-cc,bF]at b0;lia
  have isl:B8 M1 (.ref f):=by show(md M1 f).isSome=true;rw[Ow];rfl
  refine⟨isl,jY (by have:=b7;show 0<sizeLine;lia),λt1 ht1=>?_⟩;have s2:oj M1 (mN M1 t1 (.lst [.str x])):=.new ht1;refine⟨g,t1,l.nm,gs,[x],rfl,⟨⟨ob,kvs,(sm.trans s2) g _ bg,λz hz=>?_⟩,cl,bd⟩,mQ,by simp,by simp,λz hz=>?_,by simp;lia,by lia,λq M3 s3 rn=>?_⟩
  .obtain⟨b',z1,z2⟩:=bl z hz;exact⟨b',z1,oi (sm.trans s2) z2⟩
  .rw[bK]at hz;subst hz;exact hx
  .obtain⟨qf,qs,w1,w2,w3,w4,w5⟩:=rn;have P6:=s2.trans s3;refine mH (oi P6 Ow) (mH w1 ⟨?_,?_⟩)
   .have:=rp.len;have:=w5.len;have:=b7;rw[bF]at tot;rw[bi,bi];lia
   have fq:f∉qs:=λz=>by have:=w4 f z;rw[s2 f _ (nq Ow)]at this;cases this
   refine Nt _ _ ⟨_,xs++[x],ps++qs,rfl,by simp,oW (sm.trans P6) bf,?_,?_,?_,?_,?_⟩
   .rw[b6];exact mQ
   .refine cw.mpr ⟨Pl,w2,λu hu v hv e=>?_⟩;subst e;obtain⟨c,ec⟩:=rp.cell hu;have:=w4 u hv;rw[s2 u c ec]at this;cases this
   .rw[bT];exact λz=>z.elim nf fq
   .intro r hr;rcases bT.mp hr with z|z
    .exact fr r z
    .exact oK (sm.trans s2) (w4 r z)
   .rw[d3];have es:[x].flatMap (λx=>nW gs 12 [x])=nW gs 12 [x]:=by simp
    rw[es];refine(rp.mono λr hr c e=>?_).app (w5.mono λr hr c e=>?_)
    .rw[nv (λz:r=f=>nf (z ▸ hr))];exact P6 r c e
    .rw[nv (λz:r=f=>fq (z ▸ hr))];exact e
 .obtain⟨x0,xs,ps,rfl,ex,sm,Ow,Pl,nf,fr,rp⟩:=j;have:xs=l.nm:=(eA λ_ _ z=>yd z).mp ex.symm;subst this;refine⟨ps,rowAt M1,Ow,λr hr=>rp.rowAt hr,λout r hr op ow=>⟨_,.refl,q r gs (out.map (rowAt M1)) _ go (oW (sb.trans sm) (oK (sb.trans sm) hr)) ⟨oK (sb.trans sm) hr,out,mQ,op.nodup_iff.mpr Pl,?_,λz hz=>oK sb (fr z (op.mem_iff.mp hz)),?_⟩ ?_ ?_⟩⟩
  .intro z;obtain⟨c,ec⟩:=rp.cell (op.mem_iff.mp z);rw[hr]at ec;cases ec
  .refine B2 λz hz=>?_;obtain⟨c,ec⟩:=rp.cell (op.mem_iff.mp hz);exact oi (.new hr) (rp.rowAt (op.mem_iff.mp hz))
  .rw[<-rp.rows];exact op.map _
  .rw[fz];exact ow
noncomputable def xE(xs:QQQ)(bs:QXQ):T0 (nS×D):=(xs.zip bs).map λp=>(Sum.inr p.1,D.ref p.2)
noncomputable def Di(xs:QQQ)(bs:QXQ):T0 D:=(xs.zip bs).map λp=>D.tup [.str p.1,.ref p.2]
theorem vW:∀(xs:QQQ) (bs:QXQ),qe (Di xs bs)=some (xE xs bs)
 | [],_=>rfl
 | _::_,[]=>rfl
 | x::xs,b::bs=>by show(qe (Di xs bs)).map _=_;rw[vW xs bs];rfl
theorem uc:∀{xs:QQQ} {bs:QXQ},xs.length=bs.length->(xE xs bs).map (·.1)=xs.map Sum.inr
 | [],_,_=>rfl
 | _::_,[],h=>by cases h
 | x::xs,b::bs,h=>by show Sum.inr x::(xE xs bs).map (·.1)=_;rw[uc (Nat.succ.inj h)];rfl
def Bp{xs:QQQ}{bs:QXQ}(h:xs.length=bs.length)(x:Str)(b:Addr):Di (xs++[x]) (bs++[b])=Di xs bs++[.tup [.str x,.ref b]]:=by unfold Di;rw[List.zip_append h,b6];rfl
structure za(M M':Mp)(xs:QQQ)(bs:QXQ)(r:Str->QQQ):Prop where
 ln:xs.length=bs.length
 nd:bs.Nodup
 fr:∀b∈bs,M b=none
 lZ:nM M' bs (xs.map r)
def za.add{M M1:Mp}{xs:QQQ}{bs:QXQ}{x:Str}{b:Addr}(h:za M M1 xs bs λ_=>[])(s:oj M M1)(hb:M1 b=none):za M (mN M1 b (.lst [])) (xs++[x]) (bs++[b]) λ_=>[] where
 ln:=by rw[bF,bF,h.ln];rfl
 nd:=cw.mpr ⟨h.nd,by simp,λu hu v hv e=>by
  rw[bK]at hv;obtain⟨c,ec⟩:=h.lZ.cell hu;rw[e,hv,hb]at ec;cases ec⟩
 fr:=λq hq=>by
  rcases bT.mp hq with z|z
  .exact h.fr q z
  .rw[bK]at z;subst z;exact oK s hb
 lZ:=by rw[b6];exact(h.lZ.mono λq _ c e=>(oj.new hb) q c e).app ⟨mQ,trivial⟩
def xM(x z:Str)(d:D)(kvs:T0 (nS×D)):qU ((.inr x,d)::kvs) (.inr z)=if x=z then some d else qU kvs (.inr z):=by
 unfold qU;rw[eB];by_cases e:x=z
 .subst e;simp
 .have:decide ((Sum.inr x:nS)=Sum.inr z)=false:=by simp[e]
  rw[bv e];simp only[this]
theorem qI{M:Mp}{r:Str->QQQ}{x:Str}:∀{xs:QQQ} {bs:QXQ},nM M bs (xs.map r)->x∈xs->∃b∈bs,qU (xE xs bs) (.inr x)=some (.ref b)/\md M b=some ((r x).map D.str)
 | [],_,_,h=>by cases h
 | _::_,[],h,_=>h.elim
 | z::xs,b::bs,⟨h1,h2⟩,hx=>by
  show ∃b'∈b::bs,qU ((.inr z,.ref b)::xE xs bs) (.inr x)=some (.ref b')/\_;rw[xM];by_cases e:z=x
  .subst e;rw[bA rfl];exact⟨b,bM,rfl,h1⟩
  .rw[bv e];obtain⟨b',m,g1,g2⟩:=qI h2 ((bq.mp hx).resolve_left (bQ e));exact⟨b',bL _ m,g1,g2⟩
theorem zN{M:Mp}{r:Str->QQQ}{x:Str}{n:QQQ}{b:Addr}:∀{xs:QQQ} {bs:QXQ},nM M bs (xs.map r)->xs.Nodup->bs.Nodup->x∈xs->qU (xE xs bs) (.inr x)=some (.ref b)->nM (mN M b (.lst (n.map D.str))) bs (xs.map λz=>if z=x then n else r z)
 | [],_,_,_,_,h,_=>by cases h
 | _::_,[],h,_,_,_,_=>h.elim
 | z::xs,c::bs,⟨h1,h2⟩,n1,n2,hx,g=>by
  have g:qU ((.inr z,.ref c)::xE xs bs) (.inr x)=some (.ref b):=g;rw[xM]at g;obtain⟨m1,m2⟩:=cp.mp n1;obtain⟨k1,k2⟩:=cp.mp n2;by_cases e:z=x
  .subst e;rw[bA rfl]at g;cases g;have same:xs.map (λy=>if y=z then n else r y)=xs.map r:=gX λy hy=>bv (λe:y=z=>m1 (e ▸ hy));refine⟨?_,?_⟩
   .show md _ b=some ((if z=z then n else r z).map D.str);rw[bA rfl];exact mQ
   .show nM _ bs (xs.map λy=>if y=z then n else r y);rw[same];exact h2.mono λq hq c' ec=>by rw[nv (λe:q=b=>k1 (e ▸ hq))];exact ec
  .rw[bv e]at g;have hx':=(bq.mp hx).resolve_left (bQ e);obtain⟨b',mb,gb,_⟩:=qI h2 hx';rw[g]at gb;cases gb;refine⟨?_,zN h2 m2 k2 hx' g⟩;show md _ c=some ((if z=x then n else r z).map D.str);rw[bv e];exact p7 (by rw[nv (λe:c=b=>k1 (e ▸ mb))];exact nq h1)
noncomputable def m9.lK(l:m9)(n:Nat)(x:Str):QQQ:=(l.k9.take n).filterMap λw=>if w.1 then(w.2.lu.bind λp=>if p.1=x then some p.2 else none)else none
def zk{l:m9}{n:Nat}{v:oR}(h:l.k9[n]?=some v)(x:Str):l.lK (n+1) x=l.lK n x++(if v.1 then(v.2.lu.bind λp=>if p.1=x then some p.2 else none)else none).toList:=by
 unfold m9.lK;rw[fu,h,je];cases e:(if v.1 then(v.2.lu.bind λp=>if p.1=x then some p.2 else none)else none)with
 | none=>simp[e]
 | some z=>simp[e]
def ue{l:m9}{n:Nat}{v:oR}(h:l.k9[n]?=some v)(z:(v.1&&v.2.lu.isSome)=false)(x:Str):l.lK (n+1) x=l.lK n x:=by
 rw[zk h];cases e1:v.1
 .simp
 .cases e2:v.2.lu with
  | none=>simp
  | some p=>rw[e1,e2]at z;cases z
def yY{l:m9}{n:Nat}{v:oR}(h:l.k9[n]?=some v){s y:Str}(h1:v.1=true)(h2:v.2.lu=some (s,y))(x:Str):l.lK (n+1) x=if x=s then l.lK n s++[y]else l.lK n x:=by
 rw[zk h,h1,h2];by_cases e:x=s
 .subst e;simp
 .simp[e,bQ e]
def za.same{M M':Mp}{xs:QQQ}{bs:QXQ}{r t:Str->QQQ}(h:za M M' xs bs r)(e:∀x,t x=r x):za M M' xs bs t:=by obtain rfl:t=r:=funext e;exact h
def vo{l:m9}(ok:pM l)(n:Nat)(x:Str):(l.lK n x).length<sizeLine:=by have h1:(l.lK n x).length<=16:=bS (eQ ..) (by rw[df];exact bS (kh ..) ok.mo);have h3:=b7;lia
def za.put{M M3:Mp}{xs:QQQ}{bs:QXQ}{r t:Str->QQQ}{x y:Str}{b:Addr}(h:za M M3 xs bs r)(nn:xs.Nodup)(mb:b∈bs)(g:qU (xE xs bs) (.inr x)=some (.ref b))(hx:x∈xs)(e:∀z,t z=if z=x then r x++[y]else r z):za M (mN M3 b (.lst ((r x).map D.str++[.str y]))) xs bs t:=by
 obtain rfl:t=λz=>if z=x then r x++[y]else r z:=funext e
 refine⟨h.ln,h.nd,h.fr,?_⟩;have:=zN (n:=r x++[y]) h.lZ nn h.nd hx g
 rwa [b6]at this
def G4{l:m9}(ok:pM l)(x:Str):(l.led x).length<=16:=
 bS (eQ ..) ok.mo
def za.addG{M M1:Mp}{xs:QQQ}{bs:QXQ}{r:Str->QQQ}{x:Str}{b:Addr}{n:QQQ}(h:za M M1 xs bs r)(s:oj M M1)(hb:M1 b=none)(hx:x∉xs):za M (mN M1 b (.lst (n.map D.str))) (xs++[x]) (bs++[b]) (λz=>if z=x then n else r z) where
 ln:=by rw[bF,bF,h.ln];rfl
 nd:=cw.mpr ⟨h.nd,by simp,λu hu v hv e=>by
  rw[bK]at hv;obtain⟨c,ec⟩:=h.lZ.cell hu;rw[e,hv,hb]at ec;cases ec⟩
 fr:=λq hq=>by
  rcases bT.mp hq with z|z
  .exact h.fr q z
  .rw[bK]at z;subst z;exact oK s hb
 lZ:=by rw[b6];have e1:xs.map (λz=>if z=x then n else r z)=xs.map r:=gX λy hy=>bv (λe:y=x=>hx (e ▸ hy));rw[e1];refine(h.lZ.mono λq _ c e=>(oj.new hb) q c e).app ⟨?_,trivial⟩;show md _ b=some ((if x=x then n else r x).map D.str);rw[bA rfl];exact mQ
def zC:Fq P w K mg base 13 a.C (Bm a):=by
 refine fq G.C.toDG qO (λr u=>⟨_,(mI (nh 1 qO (pf (vB rfl) rfl G.aq vb (oB (oG rfl (yO (ix:=[none]) (N':=["name"])) (oq (Cf u0 G.e.toCls G.an (wY G) r)) (nO 0) oJ (nX (qd u0 (qm rc)))))))
 (mI (pY cU rfl (GP rfl G.aH (qd (sT u0) (sT u0))) (ql (n:=2) rfl (ng (oh 2 qO) (ng (oh 3 qO) pz)))
 (mK (n9 (W3.b3 (vR (vP V2) (tN (nC u (nc (tW (R:=BP a) V3 (FT G) (r.mono (by first|decide|lia))) mJ) mV))))
 (mK (mX (pE (F6 u V1 (nc (tW (R:=Bg a) V3 (EM G) (r.mono (by first|decide|lia))) mJ)) (oB (nc (tW (R:=Bg a) V3 (EM G) (r.mono (by first|decide|lia))) mJ)))))
 nk)))
 (mK (mT (pf (vB rfl) rfl G.aq vb (oB (oG rfl (yO (ix:=[none,some 1]) (N':=["name","goals"])) (BL V1) (nO 0) oJ (nX (qd u0 (C5 rfl (BB u V1 u0) rfl G.aF rfl G.ax xA AN)))))))))),?_⟩)
 rintro ds M Q ⟨p,l,rfl,pa,ok,q⟩
 have g3:=ok.g3;have p8:=ok.p8;have hn:l.nm.length<=200:=by unfold m9.nm m9.pn m9.gn;rw[bF,bi,bi];lia
 have nn:=ok.nd;have zz:=b7;obtain⟨ph,gr,ws,on,pr,gd,rs,e0,e1,e2,e3,e4,e5⟩:=id pa;refine mW e0 ⟨rfl,_,⟨rfl,rfl⟩,p,l,rfl,pa,?_,?_,λq0 hq0=>?_⟩
 .omega
 .omega
 have s0:oj M (mN M q0 (.lst (l.nm.map D.str))):=.new hq0;refine mH mQ (vp (l.nm.map D.str) (λpre acc U M1=>∃(x:Option D) (xs:QQQ) (bs:QXQ),U=[x]/\pre=xs.map D.str/\acc=Di xs bs/\oj (mN M q0 (.lst (l.nm.map D.str))) M1/\za M M1 xs bs λ_=>[]) (λ_ acc U M1 j=>?_) _ [] [] _ _ rfl (by simp;lia) ⟨none,[],[],rfl,rfl,rfl,.refl,rfl,dB,by simp,trivial⟩ (λpre d post he acc U M1 j k hk=>?_) λacc U M1 j c hc=>?_)
 .obtain⟨_,_,_,_,_,_,sm,_⟩:=j;exact oi sm mQ
 .obtain⟨x0,xs,bs,rfl,rfl,rfl,sm,bx⟩:=j;obtain⟨x,rfl,hx⟩:∃x,d=.str x/\x∈l.nm:=by have:d∈l.nm.map D.str:=he ▸ bW _ bM;obtain⟨x,hx,rfl⟩:=bP.mp this;exact⟨x,rfl,hx⟩
  refine⟨cF _,λb hb=>⟨by show 2<=sizeLine;lia,hk _ _ _ ⟨_,xs++[x],bs++[b],rfl,by simp,(Bp bx.ln x b).symm,sm.trans (.new hb),bx.add (s0.trans sm) hb⟩⟩⟩
 .obtain⟨x0,xs,bs,rfl,ex,rfl,sm,bx⟩:=j;have:xs=l.nm:=(eA λ_ _ z=>yd z).mp ex.symm;subst this;refine mH mQ (mH (vW _ _) ⟨?_,λg hg=>?_⟩)
  .rw[uc bx.ln];exact fz.mpr (nn.imp λh e=>h (jZ e))
  have s3:oj M1 (mN (mN M1 c (.lst (Di l.nm bs))) g (.dk (xE l.nm bs))):=(oj.new hc).trans (.new hg);have sM:=s0.trans (sm.trans s3);have bg:mN (mN M1 c (.lst (Di l.nm bs))) g (.dk (xE l.nm bs)) g=some (.dk (xE l.nm bs)):=mM;have gM:M g=none:=oK (s0.trans (sm.trans (.new hc))) hg;have gb:g∉bs:=λz=>by obtain⟨c',ec⟩:=bx.lZ.cell z;rw[(oj.new hc) g c' ec]at hg;cases hg
  have bx2:za M (mN (mN M1 c (.lst (Di l.nm bs))) g (.dk (xE l.nm bs))) l.nm bs λ_=>[]:=⟨bx.ln,bx.nd,bx.fr,bx.lZ.mono λq _ c e=>s3 q c e⟩;clear bx hc hg s3 sm;generalize mN (mN M1 c (.lst (Di l.nm bs))) g (.dk (xE l.nm bs))=M2 at sM bg bx2 ⊢;obtain⟨e6,e7,e8⟩:=e5;refine mW (sM _ _ e0) (mH rfl (mW (sM _ _ e0) (mH rfl (mH (oi sM e4) (mH (oi sM e3) ?_)))));have zl:∀i d,(rK (l.k9.map λw=>D.bl w.1) (rs.map D.ref))[i]?=some d->∃(v:oR) (r:Addr),l.k9[i]?=some v/\rs[i]?=some r/\d=D.tup [.bl v.1,.ref r]:=λi d h=>by
   rw[L3.vh,bJ,bJ]at h;cases z1:l.k9[i]? with
   | none=>rw[z1]at h;cases h
   | some v=>
    cases z2:rs[i]? with
    | none=>rw[z1,z2]at h;cases h
    | some r=>rw[z1,z2]at h;cases h;exact⟨v,r,z1,z2,rfl⟩
  refine ri (rK (l.k9.map λw=>D.bl w.1) (rs.map D.ref)) (λpre U M3=>∃(x y:Option D),U=[some (.ref p),some (.ref g),x,y]/\oj M M3/\M3 g=some (.dk (xE l.nm bs))/\za M M3 l.nm bs (l.lK pre.length)) (λpre U M3 j=>?_) _ [] _ _ rfl ⟨none,none,rfl,sM,bg,bx2⟩ (λpre d post he U M3 j nx Nt=>?_) λU M3 j=>?_
  .obtain⟨_,_,_,s,_⟩:=j;exact⟨oi s e4,oi s e3⟩
  .obtain⟨x0,y0,rfl,s,cg,bx⟩:=j;obtain⟨v,r,v1,r1,rfl⟩:=zl pre.length d (by rw[<-show pre++d::post=rK (l.k9.map λw=>D.bl w.1) (rs.map D.ref)from he];simp);have hM:=s _ _ (e8.2 _ r v r1 v1);have N6:∀M4,oj M M4->M4 g=some (.dk (xE l.nm bs))->za M M4 l.nm bs (l.lK (pre.length+1))->nx [some (.ref p),some (.ref g),some (.bl v.1),some (.ref r)] M4:=λM4 s4 c4 b4=>Nt _ _ ⟨_,_,rfl,s4,c4,by rw[bF];exact b4⟩;refine⟨rfl,?_⟩;show if v.1=true then _ else _
   refine rJ (c:=v.1) (λhv=>?_) (λhv=>N6 M3 s cg (bx.same λx=>ue v1 (by simp[eJ.mpr hv]) x));have wk:=ok.wo v (cJ v1);obtain⟨o,u⟩:=v;cases u with
   | bar x ns=>refine mW hM ⟨rfl,_,.inl ⟨.inl rfl,rfl⟩,r,rfl,mH rfl (mH rfl ?_)⟩;exact N6 M3 s cg (bx.same λz=>ue v1 (fC o) z)
   | shut x ns=>refine mW hM ⟨rfl,_,.inl ⟨.inr rfl,rfl⟩,r,rfl,mH rfl (mH rfl ?_)⟩;exact N6 M3 s cg (bx.same λz=>ue v1 (fC o) z)
   | always x y=>obtain⟨b,mb,Ol,lb⟩:=qI (x:=x) bx.lZ (nH wk.1);refine mW hM ⟨rfl,_,.inr (.inl ⟨.inl rfl,rfl⟩),r,_,_,.str y,rfl,hM,rfl,mH rfl (mH rfl ?_)⟩;refine mW hM ⟨rfl,_,⟨⟨_,rfl⟩,rfl⟩,r,_,rfl,hM,?_⟩;refine mH (r9 cg) (mH Ol ⟨by show(md M3 b).isSome=true;rw[lb];rfl,?_⟩);refine mW hM ⟨rfl,_,⟨⟨_,rfl⟩,rfl⟩,r,_,rfl,hM,?_⟩;refine mH lb ⟨?_,N6 _ (oW s (bx.fr b mb)) (by rw[nv (λz:g=b=>gb (z ▸ mb))];exact cg) (bx.put nn mb Ol (nH wk.1) (yY v1 hv rfl))⟩;rw[bi];exact vo ok _ _
   | night x y f1 f2=>obtain⟨b,mb,Ol,lb⟩:=qI (x:=x) bx.lZ (nH wk.1);refine mW hM ⟨rfl,_,.inr (.inl ⟨.inr (.inl rfl),rfl⟩),r,_,_,.str y,rfl,hM,rfl,mH rfl (mH rfl ?_)⟩;refine mW hM ⟨rfl,_,⟨⟨_,rfl⟩,rfl⟩,r,_,rfl,hM,?_⟩;refine mH (r9 cg) (mH Ol ⟨by show(md M3 b).isSome=true;rw[lb];rfl,?_⟩);refine mW hM ⟨rfl,_,⟨⟨_,rfl⟩,rfl⟩,r,_,rfl,hM,?_⟩;refine mH lb ⟨?_,N6 _ (oW s (bx.fr b mb)) (by rw[nv (λz:g=b=>gb (z ▸ mb))];exact cg) (bx.put nn mb Ol (nH wk.1) (yY v1 hv rfl))⟩;rw[bi];exact vo ok _ _
   | busy x y=>obtain⟨b,mb,Ol,lb⟩:=qI (x:=x) bx.lZ (nH wk.1);refine mW hM ⟨rfl,_,.inr (.inl ⟨.inr (.inr (.inl rfl)),rfl⟩),r,_,_,.str y,rfl,hM,rfl,mH rfl (mH rfl ?_)⟩;refine mW hM ⟨rfl,_,⟨⟨_,rfl⟩,rfl⟩,r,_,rfl,hM,?_⟩;refine mH (r9 cg) (mH Ol ⟨by show(md M3 b).isSome=true;rw[lb];rfl,?_⟩);refine mW hM ⟨rfl,_,⟨⟨_,rfl⟩,rfl⟩,r,_,rfl,hM,?_⟩;refine mH lb ⟨?_,N6 _ (oW s (bx.fr b mb)) (by rw[nv (λz:g=b=>gb (z ▸ mb))];exact cg) (bx.put nn mb Ol (nH wk.1) (yY v1 hv rfl))⟩;rw[bi];exact vo ok _ _
   | silent x y k1=>obtain⟨b,mb,Ol,lb⟩:=qI (x:=x) bx.lZ (nH wk.1);refine mW hM ⟨rfl,_,.inr (.inl ⟨.inr (.inr (.inr rfl)),rfl⟩),r,_,_,.str y,rfl,hM,rfl,mH rfl (mH rfl ?_)⟩;refine mW hM ⟨rfl,_,⟨⟨_,rfl⟩,rfl⟩,r,_,rfl,hM,?_⟩;refine mH (r9 cg) (mH Ol ⟨by show(md M3 b).isSome=true;rw[lb];rfl,?_⟩);refine mW hM ⟨rfl,_,⟨⟨_,rfl⟩,rfl⟩,r,_,rfl,hM,?_⟩;refine mH lb ⟨?_,N6 _ (oW s (bx.fr b mb)) (by rw[nv (λz:g=b=>gb (z ▸ mb))];exact cg) (bx.put nn mb Ol (nH wk.1) (yY v1 hv rfl))⟩;rw[bi];exact vo ok _ _
   | wait x=>refine mW hM ⟨rfl,_,.inr (.inr (.inl ⟨rfl,rfl⟩)),r,_,_,.str x,rfl,hM,rfl,mH rfl (mH rfl ?_)⟩;exact N6 M3 s cg (bx.same λz=>ue v1 (fC o) z)
   | breaks x=>refine mW hM ⟨rfl,_,.inr (.inr (.inr ⟨rfl,rfl⟩)),r,rfl,mH rfl (mH rfl ?_)⟩;exact N6 M3 s cg (bx.same λz=>ue v1 (fC o) z)
  .obtain⟨x0,y0,rfl,s,cg,bx⟩:=j;have eL:(rK (l.k9.map λw=>D.bl w.1) (rs.map D.ref)).length=l.k9.length:=by rw[L3.sg,bi,bi,e8.1,kU]
   have bx:za M M3 l.nm bs l.led:=bx.same λx=>by rw[eL];unfold m9.lK m9.led;rw[dN]
   refine mH (r9 cg) ⟨l.nm,uc bx.ln,λob=>?_⟩;generalize eb:mN M3 g (.fd ob (xE l.nm bs))=Mb;have sb:oj M Mb:=by rw[<-eb];exact oW s gM
   have fg:Mb g=some (.fd ob (xE l.nm bs)):=by rw[<-eb];exact mM
   have fb:nM Mb bs (l.nm.map l.led):=by rw[<-eb];exact bx.lZ.mono λq hq c e=>by rw[nv (λz:q=g=>gb (z ▸ hq))];exact e
   clear eb cg;refine vp (l.nm.map D.str) (λpre acc U M4=>∃(x:Option D) (xs:QQQ) (cs:QXQ) (gs:Str->QQQ),U=[x,some (.ref g)]/\pre=xs.map D.str/\acc=Di xs cs/\oj Mb M4/\za M M4 xs cs gs/\∀z∈xs,(gs z).Perm (nz (l.led z))) (λ_ acc U M4 j=>?_) _ [] [] _ _ rfl (by simp;lia) ⟨none,[],[],λ_=>[],rfl,rfl,rfl,.refl,⟨rfl,dB,by simp,trivial⟩,by simp⟩ (λpre d post he acc U M4 j k hk=>?_) λacc U M4 j c hc=>?_
   .obtain⟨_,_,_,_,_,_,_,sm,_⟩:=j;exact sm g _ fg
   .obtain⟨x0,xs,cs,gs,rfl,rfl,rfl,sm,b4,pm⟩:=j;obtain⟨x,rfl,hx⟩:∃x,d=.str x/\x∈l.nm:=by have:d∈l.nm.map D.str:=he ▸ bW _ bM;obtain⟨x,hx,rfl⟩:=bP.mp this;exact⟨x,rfl,hx⟩
    have nx:x∉xs:=λz=>by have n2:(l.nm.map D.str).Nodup:=fz.mpr (nn.imp λh e=>h (yd e));rw[<-show xs.map D.str++D.str x::post=l.nm.map D.str from he]at n2;exact(cw.mp n2).2.2 _ (jt z) _ bM rfl
    obtain⟨b,mb,Ol,lb⟩:=qI (x:=x) fb hx;refine mH (show HQ M4 g=some (xE l.nm bs)by unfold HQ;rw[sm g _ fg]) (mH Ol ?_);refine mH (oi sm lb) (mH (rP _) ⟨?_,λr ms hr p1 p2=>?_⟩)
    .have:=G4 ok x;lia
    refine⟨by show 2<=sizeLine;lia,hk _ _ _ ⟨_,xs++[x],cs++[r],λz=>if z=x then ms else gs z,rfl,by simp,(Bp b4.ln x r).symm,sm.trans (.new hr),b4.addG (sb.trans sm) hr nx,λz hz=>?_⟩⟩;rcases bT.mp hz with z1|z1
    .show(if z=x then ms else gs z).Perm _;rw[bv (λe:z=x=>nx (e ▸ z1))];exact pm z z1
    .rw[bK]at z1;subst z1;show(if z=z then ms else gs z).Perm _;rw[bA rfl];exact p1
   .obtain⟨x0,xs,cs,gs,rfl,ex,rfl,sm,b4,pm⟩:=j;have:xs=l.nm:=(eA λ_ _ z=>yd z).mp ex.symm;subst this;refine mH mQ (mH (vW _ _) ⟨?_,λg2 Oy=>?_⟩)
    .rw[uc b4.ln];exact fz.mpr (nn.imp λh e=>h (jZ e))
    have s5:oj M4 (mN (mN M4 c (.lst (Di l.nm cs))) g2 (.dk (xE l.nm cs))):=(oj.new hc).trans (.new Oy);have s6:=sb.trans (sm.trans s5);refine⟨_,.refl,q g2 gs _ (λz hz=>⟨(pm z hz).nodup_iff.mpr (B9 _),λy=>(pm z hz).mem_iff.trans (Fe y _)⟩) s6 ⟨oK (sb.trans (sm.trans (.new hc))) Oy,xE l.nm cs,mM,uc b4.ln,λz hz=>?_⟩⟩;obtain⟨b,mb,Ol,lb⟩:=qI (x:=z) b4.lZ hz;refine⟨b,b4.fr b mb,λe=>?_,Ol,oi s5 lb⟩;subst e;rw[(oj.new hc) b _ (nq lb)]at Oy;cases Oy
def Ch(gs:Str->QQQ):Str->QQQ->Prop
 | _,[]=>True
 | a,x::xs=>x∈gs a/\Ch gs x xs
def yk{p e:QQQ}(h:p≠[]):qB (p++e)=qB p:=by
 cases p with
 | nil=>exact absurd rfl h
 | cons a p=>rfl
def yb(p:QQQ)(x:Str):rZ (p++[x])=x:=by unfold rZ;simp
theorem pO{gs:Str->QQQ}{r:QQQ}:∀(n:Nat) (path:QQQ),path≠[]->(r∈nW gs n path↔∃ext,r=path++ext/\ext.length<n/\Ch gs (rZ path) ext/\(∀x∈ext,rg (qB path) x=true)/\ext.Nodup/\(∀x∈ext,x∉path)/\qB path∈gs (rZ (path++ext)))
 | 0,path,_=>⟨λh=>(nomatch h),λ⟨_,_,h,_⟩=>absurd h (gL _)⟩
 | n+1,path,hp=>by
  rw[sA,eR];have hp2:∀x,path++[x]≠[]:=λx=>by simp
  constructor
  .rintro ⟨x,hx,hr⟩
   unfold yB at hr;by_cases e:x=qB path
   .rw[bA e,bK]at hr;subst hr;exact⟨[],by simp,fZ _,trivial,by simp,dB,by simp,by rw[b5,<-e];exact hx⟩
   .rw[bv e]at hr;by_cases c:(rg (qB path) x&&!(path.contains x))=true
    .rw[bA c]at hr;obtain⟨c1,c2⟩:=eN.mp c;have c2:x∉path:=by simpa using c2
     obtain⟨ext,e1,e2,e3,e4,e5,e6,e7⟩:=(pO n (path++[x]) (hp2 x)).mp hr;rw[yk hp]at e4 e7;rw[yb]at e3;refine⟨x::ext,by rw[e1,cc];rfl,gB e2,⟨hx,e3⟩,λz hz=>?_,cp.mpr ⟨λz=>e6 x z (by simp),e5⟩,λz hz=>?_,by rw[cc]at e7;exact e7⟩
     .rcases bq.mp hz with q|q
      .subst q;exact c1
      .exact e4 z q
     .rcases bq.mp hz with q|q
      .subst q;exact c2
      .exact λw=>e6 z q (fJ _ w)
    .rw[bv c]at hr;cases hr
  .rintro ⟨ext,rfl,e2,e3,e4,e5,e6,e7⟩
   cases ext with
   | nil=>rw[b5]at e7 ⊢;exact⟨qB path,e7,by unfold yB;rw[bA rfl];simp⟩
   | cons x ext=>
    obtain⟨f1,f2⟩:=e3;obtain⟨n1,n2⟩:=cp.mp e5;have g1:=e4 x bM;have g2:=e6 x bM;have ne:x≠qB path:=λz=>by rw[z,uC]at g1;cases g1
    refine⟨x,f1,?_⟩;unfold yB;rw[bv ne,bA (eN.mpr ⟨g1,by simpa using g2⟩)];refine(pO n (path++[x]) (hp2 x)).mpr ⟨ext,by rw[cc];rfl,fk e2,by rw[yb];exact f2,λz hz=>by rw[yk hp];exact e4 z (bL _ hz),n2,λz hz w=>?_,by rw[yk hp,cc];exact e7⟩;rcases bT.mp w with q|q
    .exact e6 z (bL _ hz) q
    .rw[bK]at q;subst q;exact n1 hz
def E7{gs:Str->QQQ}{n:Nat}{path r:QQQ}{x:Str}(h:r∈yB gs n path x):(x=qB path/\r=path)\/∃e,r=path++x::e:=by
 unfold yB at h;split at h
 .rename_i e;exact .inl ⟨e,by simpa using h⟩
 .split at h
  .obtain⟨ext,e1,_⟩:=(pO n (path++[x]) (by simp)).mp h;exact .inr ⟨ext,by rw[e1,cc];rfl⟩
  .cases h
theorem zT{gs:Str->QQQ}{nm:QQQ}(g1:∀x∈nm,(gs x).Nodup)(g2:∀x∈nm,∀y∈gs x,y∈nm):∀(n:Nat) (path:QQQ),path≠[]->rZ path∈nm->(nW gs n path).Nodup
 | 0,_,_,_=>dB
 | n+1,path,hp,hl=>by
  rw[sA];refine jf.mpr ⟨λx hx=>?_,(g1 _ hl).imp λ{x y} ne r hr t ht e=>?_⟩
  .unfold yB;split
   .exact iS ..
   .split
    .exact zT g1 g2 n (path++[x]) (by simp) (by rw[yb];exact g2 _ hl _ hx)
    .exact dB
  .subst e;rcases E7 hr with⟨a1,a2⟩|⟨e1,a2⟩<;>rcases E7 ht with⟨b1,b2⟩|⟨e2,b2⟩
   .exact ne (a1.trans b1.symm)
   .rw[a2]at b2;have:=de List.length b2;simp at this
   .rw[b2]at a2;have:=de List.length a2;simp at this
   .rw[a2]at b2;exact ne (dz (iT b2)).1
theorem zH:∀a b:QQQ,rM a b=false->rM b a=false->a=b
 | [],[],_,_=>rfl
 | [],_::_,h,_=>by simp[rM]at h
 | _::_,[],_,h=>by simp[rM]at h
 | x::xs,y::ys,h1,h2=>by
  simp only[rM]at h1 h2;by_cases e:x=y
  .subst e;rw[bA rfl]at h1 h2;rw[zH xs ys h1 h2]
  .rw[bv e]at h1;rw[bv (bQ e)]at h2;rcases vv e with z|z
   .rw[z]at h1;cases h1
   .rw[z]at h2;cases h2
noncomputable def uE(r:QQQ)(k:Nat):Str:=if k=0 then rZ r else r.getD (k - 1) ""
noncomputable def Aj(r:QQQ)(ps:T0 (Str×Str)):Bool:=(List.range r.length).all λk=>ps.contains (uE r k,r.getD k "")
def Eo{r:QQQ}{k:Nat}(h:k<r.length):ug (r.map D.str) (k:Nat)=some (.str (r.getD k "")):=qH (by rw[bJ,bC h];simp[List.getD,h])
def Ea{r:QQQ}{k:Nat}(h:k<r.length):ug (r.map D.str) ((k:Int) - 1)=some (.str (uE r k)):=by
 unfold uE;by_cases e:k=0
 .subst e;rw[bA rfl];exact x9 (λz=>by rw[z]at h;cases h)
 .rw[bv e,show((k:Int) - 1)=((k - 1:Nat):Int)by lia];exact Eo (by lia)
noncomputable def more(nm:QQQ)(row:QQQ):T0 (QQQ):=(nm.filter λx=>rg (qB row) x&&!(row.contains x)).map λx=>row++[x]
noncomputable def L7(nm:QQQ):Nat->T0 (QQQ)
 | 0=>nm.map λx=>[x]
 | k+1=>(L7 nm k).flatMap (more nm)
noncomputable def Hq(nm:QQQ):T0 (QQQ):=(List.range (nm.length - 1)).flatMap λk=>L7 nm (k+1)
theorem tT{g:y9}{tt:wI}{te:T3}{ok:Mp->Prop}{Q:DK}(all:T0 D)(J:T0 D->T0 D->qD->Mp->Prop)(lA:∀p acc U M,J p acc U M->ok M):∀(ds pre acc:T0 D) (U:qD) (M:Mp),pre++ds=all->acc.length+ds.length<=sizeLine->J pre acc U M->
  (∀pre d post,pre++d::post=all->∀acc U M,J pre acc U M->∀(k:qD->DK) (k2:qD->Mp->Prop),(∀δ2 y M4,J (pre++[d]) (acc++[y]) δ2 M4->k δ2 y M4)->(∀δ2 M3,J (pre++[d]) acc δ2 M3->k2 δ2 M3)->g d U M λδ2 M2=>tt δ2 M2 λb M3=>if b=true then te δ2 M3 (k δ2)else k2 δ2 M3)->
  (∀acc U M,J all acc U M->∀p,M p=none->Q (.ref p) (mN M p (.lst acc)))->rC g tt te ok Q ds acc U M
 | [],pre,acc,U,M,e,hl,j,_,hq=>⟨by simpa using hl,hq acc U M (by rw[<-e,b5];exact j)⟩
 | d::r,pre,acc,U,M,e,hl,j,ht,hq=>by rw[bR]at hl;refine⟨by lia,?_⟩;refine ht pre d r e acc U M j (λδ2 y M4=>ok M4/\rC g tt te ok Q r (acc++[y]) δ2 M4) (λδ2 M3=>ok M3/\rC g tt te ok Q r acc δ2 M3) (λδ2 y M4 j'=>⟨lA _ _ _ _ j',tT all J lA r (pre++[d]) (acc++[y]) δ2 M4 (by rw[<-e,cc];rfl) ?_ j' ht hq⟩) λδ2 M3 j'=>⟨lA _ _ _ _ j',tT all J lA r (pre++[d]) acc δ2 M3 (by rw[<-e,cc];rfl) (by lia) j' ht hq⟩;rw[bF,dj];lia
def Ag{nm row r:QQQ}:r∈more nm row↔∃x∈nm,rg (qB row) x=true/\x∉row/\r=row++[x]:=by
 unfold more;constructor
 .intro h;obtain⟨x,hx,rfl⟩:=bP.mp h;obtain⟨h1,h2⟩:=gH.mp hx;obtain⟨c1,c2⟩:=eN.mp h2;exact⟨x,h1,c1,by simpa using c2,rfl⟩
 .rintro ⟨x,h1,c1,c2,rfl⟩
  exact bP.mpr ⟨x,gH.mpr ⟨h1,eN.mpr ⟨c1,by simpa using c2⟩⟩,rfl⟩
def tI(nm r:QQQ):Prop:=∃y ys,r=y::ys/\y∈nm/\(∀x∈ys,x∈nm/\rg y x=true)/\ys.Nodup
def tI.nd{nm r:QQQ}(h:tI nm r):r.Nodup:=by obtain⟨y,ys,rfl,_,h2,h3⟩:=h;refine cp.mpr ⟨λz=>?_,h3⟩;have:=(h2 y z).2;rw[uC]at this;cases this
def tI.sub{nm r:QQQ}(h:tI nm r):∀x∈r,x∈nm:=by
 obtain⟨y,ys,rfl,h1,h2,h3⟩:=h;intro x hx;rcases bq.mp hx with e|e
 .rw[e];exact h1
 .exact(h2 x e).1
theorem vD{nm:QQQ}:∀{k:Nat} {r:QQQ},r∈L7 nm k↔tI nm r/\r.length=k+1
 | 0,r=>by
  constructor
  .intro h;obtain⟨x,hx,rfl⟩:=bP.mp h;exact⟨⟨x,[],rfl,hx,by simp,dB⟩,rfl⟩
  .rintro ⟨⟨y,ys,rfl,hy,_,_⟩,e⟩
   have:ys=[]:=dW.mp (by simpa using e);subst this;exact bP.mpr ⟨y,hy,rfl⟩
 | k+1,r=>by
  constructor
  .intro h;obtain⟨s,hs,hr⟩:=eR.mp h;obtain⟨⟨y,ys,rfl,hy,a1,a2⟩,e⟩:=vD.mp hs;obtain⟨x,hx,c1,c2,rfl⟩:=Ag.mp hr;refine⟨⟨y,ys++[x],rfl,hy,λz hz=>?_,cw.mpr ⟨a2,by simp,λu hu v hv e=>?_⟩⟩,by rw[bF,e];rfl⟩
   .rcases bT.mp hz with q|q
    .exact a1 z q
    .rw[bK.mp q];exact⟨hx,c1⟩
   .rw[bK.mp hv]at e;subst e;exact c2 (bL _ hu)
  .rintro ⟨⟨y,ys,rfl,hy,a1,a2⟩,e⟩
   have ne:ys≠[]:=λz=>by rw[z]at e;simp at e
   have ey:=List.dropLast_concat_getLast ne;generalize ys.dropLast=zs at ey;generalize ys.getLast ne=x at ey;subst ey;obtain⟨n1,_,n3⟩:=cw.mp a2;have hx:=a1 x (by simp);refine eR.mpr ⟨y::zs,vD.mpr ⟨⟨y,zs,rfl,hy,λz hz=>a1 z (fJ _ hz),n1⟩,by simpa using e⟩,Ag.mpr ⟨x,hx.1,hx.2,λz=>?_,rfl⟩⟩;rcases bq.mp z with q|q
   .have:=hx.2;rw[q,uC]at this;cases this
   .exact n3 x q x (by simp) rfl
def xF{nm r:QQQ}:r∈Hq nm↔tI nm r/\2<=r.length:=by
 constructor
 .intro h;obtain⟨k,_,hr⟩:=eR.mp h;obtain⟨h1,h2⟩:=vD.mp hr;exact⟨h1,by lia⟩
 .rintro ⟨h1,h2⟩
  have:=qJ h1.nd h1.sub;exact eR.mpr ⟨r.length - 2,cY.mpr (by lia),vD.mpr ⟨h1,by lia⟩⟩
def B7(ps:T0 (Str×Str)):Str->QQQ->Prop
 | _,[]=>True
 | a,x::xs=>(a,x)∈ps/\B7 ps x xs
theorem yM{ps:T0 (Str×Str)}:∀(ys:QQQ) (y:Str),B7 ps y ys↔∀k,k<ys.length->((y::ys).getD k "",ys.getD k "")∈ps
 | [],y=>⟨λ_ k h=>absurd h (gL _),λ_=>trivial⟩
 | x::xs,y=>⟨λ⟨h1,h2⟩ k hk=>match k,hk with
   | 0,_=>h1
   | k+1,hk=>(yM xs x).mp h2 k (fk hk),λh=>⟨h 0 (fZ _),(yM xs x).mpr λk hk=>h (k+1) (gB hk)⟩⟩
def rQ{ps:T0 (Str×Str)}{y:Str}{ys:QQQ}:Aj (y::ys) ps=true↔(rZ (y::ys),y)∈ps/\B7 ps y ys:=by
 unfold Aj;rw[cD,yM];constructor
 .intro h;refine⟨by simpa [uE]using h 0 (cY.mpr (fZ _)),λk hk=>?_⟩;have:=h (k+1) (cY.mpr (gB hk))
  simpa [uE]using this
 .rintro ⟨h1,h2⟩ k hk
  have hk:=cY.mp hk;cases k with
  | zero=>simpa [uE]using h1
  | succ k=>simpa [uE]using h2 k (fk hk)
theorem DA{gs:Str->QQQ}{nm:QQQ}{ps:T0 (Str×Str)}(he:∀x∈nm,∀y,y∈gs x↔(x,y)∈ps):∀(ys:QQQ) (y:Str),y∈nm->(∀x∈ys,x∈nm)->(Ch gs y ys↔B7 ps y ys)
 | [],_,_,_=>⟨id,id⟩
 | x::xs,y,hy,h=>and_congr (he y hy x) (DA he xs x (h x bM) λz hz=>h z (bL _ hz))
theorem He{gs:Str->QQQ}{nm:QQQ}(cl:∀x∈nm,∀y∈gs x,y∈nm):∀(ys:QQQ) (y:Str),y∈nm->Ch gs y ys->∀x∈ys,x∈nm
 | [],_,_,_=>by simp
 | x::xs,y,hy,⟨h1,h2⟩=>λz hz=>by
  have hx:=cl y hy x h1;rcases bq.mp hz with e|e
  .rw[e];exact hx
  .exact He cl xs x hx h2 z e
def DF{l:m9}(ok:pM l){gs:Str->QQQ}(go:JH l gs){ps:T0 (Str×Str)}(hp:∀x y,(x,y)∈ps↔y∈l.led x)(r:QQQ):r∈(l.nm.flatMap λx=>nW gs 12 [x])↔r∈Hq l.nm/\Aj r ps=true:=by
 have he:∀x∈l.nm,∀y,y∈gs x↔(x,y)∈ps:=λx hx y=>((go x hx).2 y).trans (hp x y).symm;have cl:=(Jn ok go).1;rw[eR,xF];constructor
 .rintro ⟨x,hx,hr⟩
  obtain⟨ext,rfl,e2,e3,e4,e5,e6,e7⟩:=(pO 12 [x] (by simp)).mp hr;have hi:=He cl ext x hx e3;have e7:x∈gs (rZ (x::ext)):=e7;have hl:rZ (x::ext)∈l.nm:=by
   rcases bq.mp (ww (p:=x::ext) (by simp))with z|z
   .rw[z];exact hx
   .exact hi _ z
  have ne:ext≠[]:=λz=>by subst z;obtain⟨w,hw,_,e⟩:=vA.mp (((go x hx).2 x).mp e7);exact(wt ok hw e).2.2 rfl
  refine⟨⟨⟨x,ext,rfl,hx,λz hz=>⟨hi z hz,e4 z hz⟩,e5⟩,?_⟩,rQ.mpr ⟨(he _ hl x).mp e7,(DA he ext x hx hi).mp e3⟩⟩;have:=dg.mpr ne;show 2<=ext.length+1;lia
 .rintro ⟨⟨h1,h2⟩,h3⟩
  have Na:=qJ h1.nd h1.sub;have:=xR ok;have Pz:=h1.nd;have PP:=h1.sub;obtain⟨y,ys,rfl,hy,a1,a2⟩:=h1;obtain⟨g1,g2⟩:=rQ.mp h3;have hi:∀x∈ys,x∈l.nm:=λx hx=>(a1 x hx).1;rw[bR]at Na;refine⟨y,hy,(pO 12 [y] (by simp)).mpr ⟨ys,rfl,by lia,(DA he ys y hy hi).mpr g2,λx hx=>(a1 x hx).2,a2,λx hx z=>?_,(he _ (PP _ (ww (by simp))) y).mpr g1⟩⟩;rw[bK.mp z]at hx;exact(cp.mp Pz).1 hx
def yU{l:m9}(ok:pM l){gs:Str->QQQ}(go:JH l gs):(l.nm.flatMap λx=>nW gs 12 [x]).Nodup:=
 jf.mpr ⟨λx hx=>zT (λz hz=>(go z hz).1) (Jn ok go).1 12 [x] (by simp) hx,ok.nd.imp λ{x y} ne r hr u hu e=>by
  obtain⟨e1,rfl,_⟩:=(pO 12 [x] (by simp)).mp hr;obtain⟨e2,rfl,_⟩:=(pO 12 [y] (by simp)).mp hu;exact ne (dz e).1⟩
noncomputable def Mz(s:Int)(i:Nat):pZ:=(word s (0+(i:Nat)),1+(0+(i:Nat)) % 3,0+(i:Nat))
noncomputable def wU(c:Int)(all:QQQ):Wi:=
 let pl:=nB c 39373 all.length;let y:=sO all pl;let z:=sO all ((pl+1+nB c 742938285 ((all.length:Int) - 1)) % all.length);let h:=nB c 69621 24;let k:=nB c 16807 4
 if k=0 then .always y z
 else if k=1 then .night y z h ((h+5) % 24)
 else if k=2 then .busy y z
 else .silent y z (1+h % 9)
noncomputable def rb(ns:T0 Int)(i:Nat):Int:=cell ns (1+(0+(i:Nat)))+31*(0+(i:Nat))*(0+(i:Nat))
noncomputable def JI(s:Int):Nat:=(nB s 1664525 17).toNat
def Jc:pJ:=λds M Q=>Bf λc n all=>ds=[.int c,.ref n]/\md M n=some (all.map D.str)/\2<=all.length/\all.length<=64/\Q (.tup (wU c all).told) M
def Gk{c:Int}{all:QQQ}(na:all.Nodup)(ha:2<=all.length):sO all (nB c 39373 all.length)∈all/\sO all ((nB c 39373 all.length+1+nB c 742938285 ((all.length:Int) - 1)) % all.length)∈all/\sO all (nB c 39373 all.length)≠sO all ((nB c 39373 all.length+1+nB c 742938285 ((all.length:Int) - 1)) % all.length):=by
 have p0:=nI (c:=c) (f:=39373) (m:=all.length) (by lia);have p1:=nF (c:=c) (f:=39373) (m:=all.length) (by lia);have e0:=nI (c:=c) (f:=742938285) (m:=(all.length:Int) - 1) (by lia);have e1:=nF (c:=c) (f:=742938285) (m:=(all.length:Int) - 1) (by lia);have z0:=cu (nB c 39373 all.length+1+nB c 742938285 ((all.length:Int) - 1)) (show(all.length:Int)≠0 by lia);have z1:=ck (nB c 39373 all.length+1+nB c 742938285 ((all.length:Int) - 1)) (show(0:Int)<all.length by lia);refine⟨rq p0 p1,rq z0 z1,λz=>?_⟩;have q:=ym na p0 p1 z0 z1 z;have q2:(nB c 39373 all.length+0) % (all.length:Int)=(nB c 39373 all.length+(1+nB c 742938285 ((all.length:Int) - 1))) % (all.length:Int):=by rw[kY,Int.emod_eq_of_lt p0 p1,<-Int.add_assoc];exact q
 have:=yA (by lia) (by lia) (by lia) (by lia) (by lia) q2;lia
def Dm{c:Int}{own all:QQQ}(na:all.Nodup)(ha:2<=all.length):sV own all (wU c all):=by
 obtain⟨h1,h2,ne⟩:=Gk (c:=c) na ha;have hy:=qv h1;have hz:=qv h2;have f0:=nI (c:=c) (f:=69621) (m:=24) (by decide);have f1:=nF (c:=c) (f:=69621) (m:=24) (by decide);unfold wU;simp only;split
 .exact⟨hy,hz,ne⟩
 .split
  .exact⟨hy,hz,ne,⟨f0,by lia⟩,⟨by lia,by lia⟩,by lia⟩
  .split
   .exact⟨hy,hz,ne⟩
   .exact⟨hy,hz,ne,by lia,by lia⟩
def AO:Fq P w K mg base 3 a.ak Jc:=by
 refine fq G.ak.toDG om (λr u=>⟨_,(mI (nh 2 om (mO (oH G) r G.j (tE u0 mJ (mR nU rfl G.c nJ (oB V1)))))
 (mI (nh 3 om (nc V1 V2))
 (mI (nh 4 om (nc V1 (mU (mU (mU V2 mJ) (mO (oH G) r G.j (tE u0 mJ (mU (mR nU rfl G.c nJ (oB V1)) mJ)))) (mR nU rfl G.c nJ (oB V1)))))
 (mI (nh 5 om (mO (oH G) r G.j (tE u0 mJ mJ)))
 (mI (nh 6 om (qm (pk (nX (tE mV V3 v4)) (tE (nX (pk mV (pk V3 (tE v4 v5 (mU (mU v5 mJ) mJ))))) (nX (tE mV V3 v4)) (nX (pk mV (tE V3 v4 (mU mJ (mU v5 mJ)))))))))
 (mK (mT (nc v6 (mO (oH G) r G.j (tE u0 mJ mJ)))))))))),?_⟩)
 rintro ds M Q ⟨c,n,all,rfl,hn,h2,l2,q⟩
 have hne2:all≠[]:=λz=>by rw[z]at h2;simp at h2
 have e2:((all.map D.str).length:Int)=all.length:=by rw[bi]
 have p2:(0:Int)<all.length:=by lia
 have p3:(0:Int)<(all.length:Int) - 1:=by lia
 refine mH hn ⟨c,_,_,rfl,by rw[e2];exact p2,?_⟩;rw[e2];refine mH hn (mH (ye (nI p2) (nF p2)) ?_);refine mH hn ⟨c,_,_,rfl,by rw[e2];exact p3,?_⟩;rw[e2];refine mH hn ⟨by rw[e2];exact p2,?_⟩;rw[e2];refine mH hn (mH (vd hne2 _) ?_);refine⟨c,_,_,rfl,by decide,mF rfl,by decide,mF rfl,mF rfl,by decide,mF rfl,mF rfl,λr hr=>?_⟩;refine⟨c,_,_,rfl,by decide,mH mQ (mH (x:=D.tup (wU c all).told) ?_ ⟨M,.new hr,q⟩)⟩;have k0:0<=nB c 16807 4:=nI (by decide);have k1:nB c 16807 4<4:=nF (by decide);unfold wU;simp only;generalize nB c 16807 4=k at k0 k1;rcases(show k=0\/k=1\/k=2\/k=3 by lia)with e|e|e|e<;>subst e<;>rfl
def DT{M:Mp}{a:Addr}{ds:T0 D}(h:md M a=some ds):Me M (.ref a)=some (.type "list"):=by show An (M a)=_;rw[nq h];rfl
noncomputable def rm(l:m9):T0 (Str×Str):=l.k9.filterMap λw=>if w.1 then w.2.lu else none
def Bu{v:Wi}{p:Str×Str}(h:v.lu=some p):ug v.told 1=some (.str p.1)/\ug v.told 2=some (.str p.2):=by cases v<;>cases h<;>exact⟨rfl,rfl⟩
def xc{l:m9}(x y:Str):(x,y)∈rm l↔y∈l.led x:=by
 rw[vA];unfold rm;rw[eW];constructor
 .rintro ⟨w,hw,e⟩
  split at e
  .rename_i h;exact⟨w,hw,h,e⟩
  .cases e
 .rintro ⟨w,hw,h1,h2⟩
  exact⟨w,hw,by rw[bA h1];exact h2⟩
def B5{α β:Type}{f:α->Option β}{l:List α}{n:Nat}{v:α}(h:l[n]?=some v):(l.take (n+1)).filterMap f=(l.take n).filterMap f++(f v).toList:=by rw[List.take_succ,h,je];show _++[v].filterMap f=_;rw[eS,List.filterMap_nil];cases f v<;>rfl
def ET{α β:Type}{f:α->β}{l:List α}{pre post:List β}{d:β}(e:pre++d::post=l.map f):∃v,l[pre.length]?=some v/\d=f v:=by
 have h:(l.map f)[pre.length]?=some d:=by rw[<-e];simp
 rw[bJ]at h;cases ev:l[pre.length]? with
 | none=>rw[ev]at h;cases h
 | some v=>rw[ev]at h;exact⟨v,rfl,(bH h).symm⟩
theorem yG(z:Str)(b:QQQ):∀(a:QQQ) (y:Str),rZ (y::(a++z::b))=rZ (z::b)
 | [],_=>rfl
 | c::a,_=>yG z b a c
theorem tV{ps:T0 (Str×Str)}{z:Str}{b:QQQ}:∀(a:QQQ) (y:Str),B7 ps y (a++z::b)↔B7 ps y a/\(rZ (y::a),z)∈ps/\B7 ps z b
 | [],y=>⟨λ⟨h1,h2⟩=>⟨trivial,h1,h2⟩,λ⟨_,h1,h2⟩=>⟨h1,h2⟩⟩
 | c::a,y=>by show((y,c)∈ps/\B7 ps c (a++z::b))↔((y,c)∈ps/\B7 ps c a)/\(rZ (c::a),z)∈ps/\B7 ps z b;rw[tV a c,and_assoc]
def KW(nm:QQQ)(ps:T0 (Str×Str))(r:QQQ):Prop:=tI nm r/\2<=r.length/\Aj r ps=true
def HY{nm:QQQ}{ps:T0 (Str×Str)}(ir:∀z,(z,z)∉ps){x:Str}{t:QQQ}(nd:(x::t).Nodup)(sb:∀z∈x::t,z∈nm)(hc:B7 ps x t)(hx:(rZ (x::t),x)∈ps){pr b:QQQ}{m:Str}(e2:x::t=pr++m::b)(hm:∀n∈x::t,rg n m=false):KW nm ps (m::b++pr):=by
 have pm:(m::b++pr).Perm (x::t):=by rw[e2];exact jc
 have nd2:(m::(b++pr)).Nodup:=pm.nodup_iff.mpr nd;have mem:∀z∈m::(b++pr),z∈x::t:=λz hz=>pm.mem_iff.mp hz;obtain⟨n1,n2⟩:=cp.mp nd2;have ro:tI nm (m::(b++pr)):=⟨m,b++pr,rfl,sb m (mem m bM),λz hz=>⟨sb z (mem z (bL _ hz)),by
  have h1:=hm z (mem z (bL _ hz));rcases vv (λe:z=m=>n1 (e ▸ hz))with q|q
  .rw[q]at h1;cases h1
  .exact q⟩,n2⟩
 have go:Aj (m::(b++pr)) ps=true:=by
  cases pr with
  | nil=>rw[b5];obtain⟨rfl,rfl⟩:=dz e2;exact rQ.mpr ⟨hx,hc⟩
  | cons x' a=>
   obtain⟨rfl,rfl⟩:=dz e2;obtain⟨h1,h2,h3⟩:=(tV a x).mp hc;have hx:(rZ (m::b),x)∈ps:=by rw[<-yG m b a x];exact hx
   refine rQ.mpr ⟨by rw[yG];exact h2,(tV b m).mpr ⟨h3,hx,h1⟩⟩
 refine⟨ro,?_,go⟩;show 2<=(b++pr).length+1;cases e:b++pr with
 | nil=>rw[e]at go;exact absurd (rQ.mp go).1 (ir m)
 | cons _ _=>simp
def DL{ps:T0 (Str×Str)}{y x:Str}{ys t pre:QQQ}(h:B7 ps y ys)(e:y::ys=pre++x::t):B7 ps x t/\rZ (y::ys)=rZ (x::t):=by
 cases pre with
 | nil=>obtain⟨rfl,rfl⟩:=dz e;exact⟨h,rfl⟩
 | cons z a=>obtain⟨rfl,rfl⟩:=dz e;exact⟨((tV a y).mp h).2.2,yG x t a y⟩
theorem AY{x:Str}:∀{l:QQQ},x∈l->∃j b,AR (.str x) (l.map D.str)=some j/\j<l.length/\l.drop j=x::b
 | [],h=>by cases h
 | y::l,h=>by
  by_cases e:y=x
  .subst e;exact⟨0,l,by show(if (y==y)=true then some 0 else _)=_;rw[bA (by simp)],fZ _,rfl⟩
  .obtain⟨j,b,h1,h2,h3⟩:=AY ((bq.mp h).resolve_left (bQ e));refine⟨j+1,b,?_,gB h2,h3⟩;show(if (y==x)=true then some 0 else(AR (.str x) (l.map D.str)).map (·+1))=_;rw[bv (by simpa using e),h1];rfl
def zi{ds:T0 D}{j:Nat}(h:j<=ds.length):L3.qC ds (some (j:Nat)) none=ds.drop j:=by unfold L3.qC;rw[HT.BO,HT.zv,gR h,fm (by rw[fL];exact bw _)]
def HZ{ds:T0 D}{j:Nat}(h:j<=ds.length):L3.qC ds none (some (j:Nat))=ds.take j:=by unfold L3.qC;rw[HT.BO,HT.zv,gR h,kL,kW]
def HH{M:Mp}{a b:Addr}{ds:T0 D}(h1:md M a=some ds)(h2:md M b=some []):vM M 9 (.ref a) (.ref b)=some ds.isEmpty:=by
 show((md M a).bind λi=>(md M b).bind λj=>if i.length=j.length then oC (vM M 8) i j else some false)=_;rw[h1,h2];cases ds with
 | nil=>rfl
 | cons _ _=>rfl
def BQ{x:Str}{l:QQQ}:inD (.str x) (l.map D.str)=true↔x∈l:=by
 unfold inD;rw[gS,eP];constructor
 .rintro ⟨y,hy,e⟩
  have:y=x:=by simpa [Hr]using e
  exact this ▸ hy
 .exact λh=>⟨x,h,by simp[Hr]⟩
def Du{ps:T0 (Str×Str)}{x y:Str}(h:y∈ps.filterMap λp=>if p.1=x then some p.2 else none):(x,y)∈ps:=by
 obtain⟨p,hp,e⟩:=eW.mp h;split at e
 .rename_i h1;cases e;rw[<-h1];exact hp
 .cases e
def GQ{rs:T0 (QQQ)}(nd:rs.Nodup)(s:rs.Pairwise λr t=>rM t r=false):rs.Pairwise λr t=>rM r t=true:=by
 refine(nd.and s).imp λ{r t} h=>?_;cases e:rM r t with
 | true=>rfl
 | false=>exact absurd (zH r t e h.2) h.1
def Ic:pJ:=λds M Q=>∃p q ps rs nm NJ,ds=[.ref p,.ref q]/\md M p=some (List.map D.ref ps)/\nM M ps rs/\md M q=some (List.map pS NJ)/\nm.length<=12/\(∀r∈rs,KW nm NJ r)/\rs.Pairwise (λr t=>rM r t=true)/\Q (.bl true) M
def EZ{M:Mp}{ps:QXQ}{rs:T0 (QQQ)}(h:nM M ps rs){i:Nat}{q:Addr}(e:ps[i]?=some q):rs[i]?=some (rowAt M q):=by rw[<-h.rows,bJ,e];rfl
def Im{nm:QQQ}{y m:Str}{ys:QQQ}(h:tI nm (y::ys))(hm:m∈y::ys)(hl:∀n∈y::ys,rg n m=false):m=y:=by
 obtain⟨y',ys',e,_,h2,_⟩:=h;obtain⟨rfl,rfl⟩:=dz e;rcases bq.mp hm with z|z
 .exact z
 .have:=hl y bM;rw[(h2 m z).2]at this;cases this
def FM:Fq P w K mg base 1 a.al Ic:=by
 refine fq G.al.toDG rT (λr u=>⟨_,(mI (n9 (uB (vP (mR xB rfl G.aG sI (qd u0 (Hx rfl G.Z tP)))))
 (mK (mT uK))
 nk)
 (mI (pY cU rfl (ud rfl G.aE (oB u0)) (ql (n:=2) rfl (ng (oh 2 rT) (ng (oh 3 rT) pz)))
 (mI (n9 (W3.b3 (Fo (uB (vP (mR xB rfl G.aG sI (qd V3 (Hx rfl G.Z tP))))) (Fo (nC u (mR nU rfl G.c nJ (oB V3)) mJ) (Fo (nC u (xy rfl V3 rfl G.c rfl G.ax nJ AN) (mR nU rfl G.c nJ (oB V3))) (Ji (nC u (mR (Bt rfl) rfl G.ay A0 (oB V3)) (nc V3 mJ)))))))
 (mK (mT uK))
 nk)
 (mI (n9 (W3.b3 (vR (nC u V2 mJ) (tN (uB (Jl u (nc u0 (mU V2 mJ)) V3)))))
 (mK (mT uK))
 nk)
 (mK (n9 (uB (vP (mR (Bi rfl) rfl G.az Ay (oB (oG rfl (yO (ix:=[none,some 3,some 1]) (N':=["_law_j","_law_row","_law_pairs"])) (qi rfl G.B (oB (mR nU rfl G.c nJ (oB V3)))) (nO 0) oJ (Jx u (nX (qd (nc V1 (mU u0 mJ)) (nc V1 u0))) V2))))))
 (mK (mT uK))
 nk)))))
 (mK (mT uK)))),?_⟩)
 rintro ds M Q ⟨p,q,ps,rs,nm,NJ,rfl,hp,rp,hq,hn,hc,hw,qq⟩
 have zz:=b7;refine mH (DT hp) ⟨λC z=>(by cases z),mH G.aD (CJ ?_)⟩;refine mH hp ?_;refine ri (qX 0 (ps.map D.ref)) (λpre U M'=>oj M M'/\∃x y,U=[some (.ref p),some (.ref q),x,y]) (λ_ _ M' j=>j.1.lst hp) _ [] _ _ rfl ⟨.refl,none,none,rfl⟩ ?_ ?_
 .rintro pre d post e U M' ⟨s',x,y,rfl⟩ nx Nt
  have ed:(qX 0 (ps.map D.ref))[pre.length]?=some d:=by rw[<-e];simp
  rw[ua,bJ]at ed;cases et:ps[pre.length]? with
  | none=>rw[et]at ed;cases ed
  | some v=>
   rw[et]at ed;have ed:D.tup [.int ((0+pre.length:Nat):Int),.ref v]=d:=bH ed;subst ed;have Nt:∀U M3,(oj M M3/\∃x y,U=[some (.ref p),some (.ref q),x,y])->nx U M3:=Nt;generalize hk:pre.length=k at et ⊢;rw[gN];have hm:v∈ps:=cJ et;have hv:=s'.lst (rp.rowAt hm);have hr:=EZ rp et;obtain⟨c1,c2,c3⟩:=hc _ (cJ hr);have Na:=qJ c1.nd c1.sub;generalize rowAt M v=r at hv hr c1 c2 c3 Na;have rl:((r.map D.str).length:Int)=r.length:=by rw[bi]
   refine⟨rfl,?_⟩;refine mH (DT hv) ⟨λC z=>(by cases z),mH G.aD (CJ ?_)⟩;refine mH hv (Jk (cB (by rw[rl];lia)) ?_);refine mH hv (mH (L3.rP r) ⟨by lia,mH hv ?_⟩);refine Jk (c:=!(((nz r).length:Int)==((r.map D.str).length:Int))) (by rw[vY r c1.nd,rl];simp) ?_;obtain⟨y0,ys0,er⟩:∃y0 ys0,r=y0::ys0:=by
    cases r with
    | nil=>exact absurd c2 (by decide)
    | cons y0 ys0=>exact⟨y0,ys0,rfl⟩
   refine⟨r,hv,by lia,λm MX Nj=>?_⟩;have q2:m=y0:=by subst er;exact Im c1 MX Nj
   refine mH hv (mH (x:=D.str y0) (qH (j:=0) (by rw[er];rfl)) ?_);refine Jk (c:=!(m==y0)) (by rw[q2];simp) ?_;dsimp only[Ku];refine K9 (t:=IG _ _ _) (λU M2=>M2=M'/\U=[some (.ref p),some (.ref q),some (.int k),some (.ref v)]) (λnx2 OC=>?_) ?_
   .refine rJ (λh=>?_) (λh=>OC _ _ ⟨rfl,rfl⟩);have h:(0:Int)<(k:Int):=eH h;obtain⟨u,hu⟩:∃u,ps[k - 1]?=some u:=⟨_,bC (by have:=(bI.mp et).1;lia)⟩;have ek:(k:Int) - 1=((k - 1:Nat):Int):=by lia
    have PB:=EZ rp hu;have lt:rM (rowAt M u) r=true:=by
     obtain⟨g1,g2⟩:=bI.mp PB;obtain⟨g3,g4⟩:=bI.mp hr;have:=di.mp hw (k - 1) k g1 g3 (by lia)
     rwa [g2,g4]at this
    refine mH (s'.lst hp) (mH (x:=D.ref u) (by rw[ek];exact qH (by rw[bJ,hu];rfl)) ⟨rowAt M u,r,s'.lst (rp.rowAt (cJ hu)),hv,?_⟩);rw[lt];exact CJ (OC _ _ ⟨rfl,rfl⟩)
   rintro U M2 ⟨rfl,rfl⟩
   have hq2:=s'.lst hq;refine mH hv ?_;refine⟨rfl,⟨by rw[rl];lia,by rw[rl];lia⟩,?_⟩;refine tJ (f:=λ_=>.bl true) (λU=>∃x,U=[x,some (.ref v),some (.ref q)]) trivial _ [] _ ⟨_,rfl⟩ (by simp;lia) (λd hd U hδ k hk=>?_) λc hc=>?_
   .obtain⟨x,rfl⟩:=hδ;obtain⟨j,hj,rfl⟩:=bP.mp hd;have hj:j<r.length:=by simpa using hj
    have hg:NJ.contains (uE r j,r.getD j "")=true:=cD.mp c3 j (cY.mpr hj);rw[Int.zero_add];refine mH hv (mH (Ea hj) (mH hv (mH (Eo hj) ⟨by show 2<=sizeLine;lia,NJ,hq2,?_⟩)));rw[hg];exact hk _ ⟨_,rfl⟩
   .rw[cC];refine mH mQ (mH (vz (λ_=>true) _) ?_);have Oe:∀l:T0 D,(l.map λ_=>true).all id=true:=λl=>by rw[iK];exact cD.mpr λ_ _=>rfl
    rw[Oe];exact CJ (Nt _ _ ⟨s'.trans (.new hc),_,_,rfl⟩)
 .rintro U M' ⟨s',x,y,rfl⟩
  exact⟨M,s',qq⟩
def Js:pJ:=λds M Q=>∃q c x nm NJ,ds=[.ref q,.int c,.str x]/\md M q=some (List.map pS NJ)/\x∈nm/\(∀p∈NJ,p.2∈nm)/\(∀z,(z,z)∉NJ)/\NJ.length<=100/\Q .lw M/\∀b r M',oj M M'->md M' b=some (List.map D.str r)->KW nm NJ r->Q (.ref b) M'
noncomputable def JC(NJ:T0 (Str×Str))(x:Str):QQQ:=NJ.filterMap λp=>if p.1=x then some p.2 else none
def E5:Fq P w K mg base 2 a.am Js:=by
 refine fq G.am.toDG oA (λr u=>⟨_,(mI (nh 3 oA (qm (oB V2)))
 (mI (pY cU rfl (qi rfl G.B (oB mJ)) (oh 4 oA)
 (mI (qy (i:=5) oA.nd rfl (Or.inl rfl) rfl (yO (ix:=[none,none,some 3]) (N':=["_law_b","_law_c","_law_come"])) (oq u0) (ql (n:=2) rfl (ng (nO 0) (ng (nO 1) pz))) (Eh (nC u u0 (nc V2 (EE mJ)))) V1)
 (mI (n9 (nC u v5 (qm rc))
 (mK (mT Be))
 nk)
 (mI (nh 2 oA (nc v5 (mO (oH G) r G.j (tE (mU V1 (mU mJ v4)) mJ (mR nU rfl G.c nJ (oB v5))))))
 (mI (n9 (nC u V2 V3)
 (mI (nh 6 oA (pV V3 (qN (uL V3 (oB V2))) qL))
 (mI (nh 7 oA (uL v6 (oB (mR (Bt rfl) rfl G.ay A0 (oB v6)))))
 (mK (mT (mU (pV v6 (qN v7) qL) (pV v6 qL (qN v7)))))))
 nk)
 (mK (mX (pE V3 (oB V2)))))))))
 (mK (mT Be)))),?_⟩)
 rintro ds M Q ⟨q,c,x,nm,NJ,rfl,hq,hx,hin,ir,hl,q1,q2⟩
 have zz:=b7;refine⟨mF rfl,λcm hcm=>?_⟩;have qc:q≠cm:=λz=>by have:=nq hq;rw[z,hcm]at this;cases this
 refine⟨rfl,⟨by decide,by decide⟩,?_⟩;refine ri ((List.range 12).map λi=>D.int (0+(i:Nat))) (λpre U M'=>∃x2 x4 x5 y ys,U=[some (.ref q),some (.int c),x2,some (.ref cm),x4,x5,none,none]/\oj M M'/\md M' cm=some ((y::ys).map D.str)/\(y::ys).Nodup/\(∀z∈y::ys,z∈nm)/\B7 NJ y ys/\ys.length<=pre.length) (λ_ _ _ _=>trivial) _ [] _ _ rfl ⟨_,none,none,x,[],rfl,.new hcm,mQ,by simp,by simpa using hx,trivial,bw _⟩ ?_ ?_
 .rintro pre d post e U M' ⟨x2,x4,x5,y,ys,rfl,s',lc,nd,sb,ch,hyl⟩ nx Nt
  obtain⟨rfl,Nd⟩:=we e;generalize hi:pre.length=i at Nd hyl ⊢;have O1:=s'.lst hq;have ha:ug ((y::ys).map D.str) (-1)=some (.str (rZ (y::ys))):=x9 (by simp);generalize hls:rZ (y::ys)=la at ha;refine mH O1 (tT (NJ.map pS) (λpre acc U M2=>M2=M'/\acc=(JC (NJ.take pre.length) la).map D.str/\∃u v,U=[u,v,some (.ref cm)]) (λ_ _ _ _ j=>by rw[j.1];exact O1) _ [] [] _ _ rfl (by rw[bi];simp only[b9];lia) ⟨rfl,rfl,none,none,rfl⟩ (λpre d post e acc U M2 j k k2 hk N0=>?_) λacc U M2 j a5 ha5=>?_)
  .obtain⟨rfl,rfl,u,v,rfl⟩:=j;obtain⟨pr,hv,rfl⟩:=ET e;have N6:=B5 (f:=λp:Str×Str=>if p.1=la then some p.2 else none) hv;have el:(pre++[pS pr]).length=pre.length+1:=by simp
   refine⟨rfl,mH lc (mH ha (rJ (c:=pr.1==la) (λh=>?_) (λh=>?_)))⟩
   .have h:pr.1=la:=by simpa using h
    refine hk _ _ _ ⟨rfl,?_,_,_,rfl⟩;unfold JC;rw[el,N6,bA h,b6];rfl
   .have h:¬pr.1=la:=by simpa using h
    refine N0 _ _ ⟨rfl,?_,_,_,rfl⟩;unfold JC;rw[el,N6,bv h];show _=List.map D.str (_++[]);rw[b5]
  obtain⟨rfl,rfl,u,v,rfl⟩:=j;rw[bi,dN];have nl:(JC NJ la).length<=100:=bS (eQ ..) hl;have nm_:∀z∈JC NJ la,(la,z)∈NJ:=λz hz=>Du hz;generalize JC NJ la=ns at nl nm_ ⊢;obtain⟨M5,e0,t5,l5⟩:=Ac (ds:=ns.map D.str) ha5;rw[<-e0];have lc5:=t5.lst lc;have s5:=s'.trans t5;clear t5 ha5 lc O1 s';refine⟨mF rfl,λe0 he0=>?_⟩;have t6:=oj.new (c:=.lst []) he0;refine mH (HH (t6.lst l5) mQ) (rJ (λh=>?_) (λh=>?_))
  .exact⟨M,s5.trans t6,q1⟩
  have NY:ns≠[]:=λz=>by rw[z]at h;exact h rfl
  have l6:=t6.lst l5;have P7:=t6.lst lc5;have s6:=s5.trans t6;generalize mN M5 e0 (.lst [])=M6 at l6 P7 s6 ⊢;clear t6 he0 l5 lc5 s5;have c7:xZ 7 (0+(i:Int)):=.inl ⟨by decide,by decide⟩;have el:((ns.map D.str).length:Int)=ns.length:=by rw[bi]
  have p0:(0:Int)<ns.length:=by have:=dg.mpr NY;lia
  dsimp only[Ku];refine⟨c7,mH l6 ⟨_,_,_,rfl,by rw[el];exact p0,?_⟩⟩;rw[el];refine mH l6 (mH (ye (nI p0) (nF p0)) ?_);have OS:=nm_ _ (rq (nI (c:=c+7*(0+(i:Int))) (f:=48271) p0) (nF (c:=c+7*(0+(i:Int))) (f:=48271) p0));generalize sO ns (nB (c+7*(0+(i:Int))) 48271 ns.length)=x1 at OS ⊢;clear nm_ nl NY p0 el c7 l6;refine mH P7 ⟨rfl,oZ _,?_⟩;show if inD (.str x1) ((y::ys).map D.str)=true then _ else _
  refine rJ (λh=>?_) (λh=>?_)
  .obtain⟨j,t,j1,j2,j3⟩:=AY (BQ.mp h);have ec:L3.qC ((y::ys).map D.str) (some (j:Nat)) none=(x1::t).map D.str:=by rw[zi (by rw[bi];lia),<-kS,j3]
   refine⟨by show(md M6 cm).isSome=true;rw[P7];rfl,mH P7 ⟨rfl,oZ _,mH j1 (mH P7 λa7 ha7=>?_)⟩⟩;rw[ec];obtain⟨M7,e0,t7,l7⟩:=Ac (ds:=(x1::t).map D.str) ha7;rw[<-e0];have s7:=s6.trans t7;refine⟨by show(md M7 a7).isSome=true;rw[l7];rfl,x1::t,l7,fZ _,λm MX Nj=>?_⟩;obtain⟨k,b,k1,k2,k3⟩:=AY MX;refine mH l7 ⟨rfl,oZ _,mH k1 (mH l7 λa8 ha8=>?_)⟩;have e1:y::ys=(y::ys).take j++x1::t:=by rw[<-j3,dt]
   have e2:x1::t=(x1::t).take k++m::b:=by rw[<-k3,dt]
   have c8:L3.qC ((x1::t).map D.str) (some (k:Nat)) none=(m::b).map D.str:=by rw[zi (by rw[bi];lia),<-kS,k3]
   have c9:L3.qC ((x1::t).map D.str) none (some (k:Nat))=((x1::t).take k).map D.str:=by rw[HZ (by rw[bi];lia),<-List.map_take]
   rw[c8];have t8:=oj.new (c:=.lst ((m::b).map D.str)) ha8;have s8:=s7.trans t8;refine mH (t8.lst l7) λa9 ha9=>?_;rw[c9];have t9:=oj.new (c:=.lst (((x1::t).take k).map D.str)) ha9;have tl:(y::ys).length=((y::ys).take j).length+(x1::t).length:=by rw[<-bF,<-e1]
   have kl:(x1::t).length=((x1::t).take k).length+(m::b).length:=by rw[<-bF,<-e2]
   rw[bR]at tl;refine mH (t9.lst mQ) (mH mQ ⟨?_,λb0 hb0=>⟨_,.refl,q2 b0 (m::b++(x1::t).take k) _ ((s8.trans t9).trans (.new hb0)) ?_ ?_⟩⟩)
   .rw[bi,bi];lia
   .rw[mQ,b6]
   .obtain⟨g1,g2⟩:=DL ch e1;have nd2:=nd;rw[e1]at nd2;refine HY ir (cw.mp nd2).2.1 (λz hz=>sb z ?_) g1 (by rw[<-g2,hls];exact OS) e2 Nj;rw[e1];exact bW _ hz
  .have h:x1∉y::ys:=λz=>h (BQ.mpr z);refine⟨by show(md M6 cm).isSome=true;rw[P7];rfl,mH P7 ⟨?_,Nt _ _ ⟨_,_,_,y,ys++[x1],rfl,oW s6 hcm,?_,?_,?_,?_,?_⟩⟩⟩
   .rw[bi,bR];lia
   .rw[mQ];show some (List.map D.str (y::ys)++[D.str x1])=some (List.map D.str (y::ys++[x1]));rw[b6];rfl
   .show(y::ys++[x1]).Nodup;exact cw.mpr ⟨nd,by simp,λu hu v hv e=>h (by rw[<-bK.mp hv,<-e];exact hu)⟩
   .intro z hz;have hz:z∈y::ys++[x1]:=hz;rcases bT.mp hz with w|w
    .exact sb z w
    .rw[bK.mp w];exact hin _ OS
   .exact(tV ys y).mpr ⟨ch,by rw[hls];exact OS,trivial⟩
   .rw[bF,bF,hi];show ys.length+1<=i+1;lia
 .rintro U M' ⟨x2,x4,x5,y,ys,rfl,s',_⟩
  exact⟨M,s',q1⟩
noncomputable def oQ(s:Int):List pZ:=(List.range (2+nB s 48271 7).toNat).map (Mz s)
noncomputable def pT(s:Int):QQQ:=(oQ s).map (·.1)
noncomputable def pL(s:Int):QQQ:=pT s++(ou s (pT s)).map (·.1)
noncomputable def Wi.re(y z:Str):Wi->Wi
 | .always _ _=>.always y z
 | .night _ _ f l=>.night y z f l
 | .busy _ _=>.busy y z
 | .silent _ _ n=>.silent y z n
 | v=>v
noncomputable def se(s:Int)(i:Int)(c:Int)(nm:QQQ):oR:=(decide (0<nB c 22695477 9),if s % 2=1/\0<nB c 950706376 3 then(wU c nm).re (sO nm (i % nm.length)) (sO nm ((i+1) % nm.length))else wU c nm)
noncomputable def qG(ns:T0 Int)(n:Nat):List oR:=(List.range n).map λi=>se (cell ns 0) (0+(i:Nat)) (rb ns i) (pL (cell ns 0))
noncomputable def tO(ns:T0 Int):m9:=⟨oQ (cell ns 0),ou (cell ns 0) (pT (cell ns 0)),qG ns (JI (cell ns 0))⟩
def yQ(s:Int):2<=(oQ s).length/\(oQ s).length<=8:=by have d0:=nI (c:=s) (f:=48271) (m:=7) (by decide);have d1:=nF (c:=s) (f:=48271) (m:=7) (by decide);unfold oQ;rw[bi,cx];lia
def Hc(s:Int):pT s=(sC s 8).map (·.1):=by rw[Aq];unfold pT oQ;rw[cj];rfl
def wq(s:Int):2<=(pT s).length/\(pT s).length<=8:=by have:=yQ s;unfold pT;rw[bi];exact this
def rY(s:Int)(own:QQQ):(ou s own).length<=3:=by unfold ou;rw[bi,cx];exact sZ
def sU(s:Int):2<=(pL s).length/\(pL s).length<=11:=by have:=wq s;have:=rY s (pT s);unfold pL;rw[bF,bi];lia
def sr(c:Int)(nm:QQQ):(wU c nm).lu.isSome=true:=by
 unfold wU;simp only;split
 .rfl
 .split
  .rfl
  .split<;>rfl
def Ez{v:Wi}(h:v.lu.isSome=true)(y z:Str):(v.re y z).lu=some (y,z):=by cases v<;>first|rfl|cases h
def FY{v:Wi}(h:v.lu.isSome=true)(y z:Str):L3.qC v.told none (some 1)++[.str y,.str z]++L3.qC v.told (some 3) none=(v.re y z).told:=by cases v<;>first|rfl|cases h
def Jj{v:Wi}(h:v.lu.isSome=true):L3.qC v.told none (some 1)=[.str v.word]/\(L3.qC v.told (some 3) none).length<=2:=by cases v<;>first|exact⟨rfl,Nat.le_of_ble_eq_true rfl⟩|cases h
def J'{own nm:QQQ}{v:Wi}(h:v.lu.isSome=true)(ok:sV own nm v){y z:Str}(hy:y∈nm)(hz:z∈nm)(ne:y≠z):sV own nm (v.re y z):=by
 cases v with
 | always _ _=>exact⟨qv hy,qv hz,ne⟩
 | night _ _ _ _=>exact⟨qv hy,qv hz,ne,ok.2.2.2⟩
 | busy _ _=>exact⟨qv hy,qv hz,ne⟩
 | silent _ _ _=>exact⟨qv hy,qv hz,ne,ok.2.2.2⟩
 | _=>cases h
def zW{s i c:Int}{own nm:QQQ}(na:nm.Nodup)(ha:2<=nm.length):sV own nm (se s i c nm).2/\(se s i c nm).2.lu.isSome=true:=by
 unfold se;simp only;split
 .have h0:=cu i (show(nm.length:Int)≠0 by lia);have h1:=ck i (show(0:Int)<nm.length by lia);have g0:=cu (i+1) (show(nm.length:Int)≠0 by lia);have g1:=ck (i+1) (show(0:Int)<nm.length by lia);refine⟨J' (sr c nm) (Dm na ha) (rq h0 h1) (rq g0 g1) λe=>?_,by rw[Ez (sr c nm)];rfl⟩;have e2:=ym na h0 h1 g0 g1 e;have e3:(i+0) % (nm.length:Int)=(i+1) % (nm.length:Int):=by rw[kY];exact e2
  have:=yA (by lia) (by lia) (by lia) (by lia) (by lia) e3;lia
 .exact⟨Dm na ha,sr c nm⟩
def xb(s:Int):(pT s).Nodup/\(pL s).Nodup:=by obtain⟨n1,n2⟩:=zr (s:=s) (m:=8) (by decide) (by decide);rw[<-Hc]at n1 n2;exact⟨n1,n2 _⟩
def EN(ns:T0 Int):pM (tO ns):=by
 have pl:=yQ (cell ns 0);have ol:=wq (cell ns 0);have nl:=sU (cell ns 0);obtain⟨no,nd⟩:=xb (cell ns 0);have one:pT (cell ns 0)≠[]:=λz=>by rw[z]at ol;exact absurd ol.1 (by decide)
 refine⟨by show 1<=(oQ (cell ns 0)).length;lia,by show(oQ (cell ns 0)).length<=8;lia,λp hp=>?_,rY _ _,λg hg=>?_,nd,?_,λv hv=>?_⟩
 .obtain⟨i,hi,rfl⟩:=bP.mp hp;have hi:=cY.mp hi;have d1:=nF (c:=cell ns 0) (f:=48271) (m:=7) (by decide);exact⟨bS (wf (cell ns 0) (0+(i:Nat))).2 (by decide),xP _ _,by show(1:Int)<=1+(0+(i:Int)) % 3;lia,by show(1:Int)+(0+(i:Int)) % 3<=3;lia,by show(0:Int)<=0+(i:Int);lia,by show(0:Int)+(i:Int)<=9;lia⟩
 .obtain⟨i,_,rfl⟩:=bP.mp hg;exact Fn no one i
 .show(qG ns (JI (cell ns 0))).length<=16;have d1:=nF (c:=cell ns 0) (f:=1664525) (m:=17) (by decide);unfold qG JI;rw[bi,cx];lia
 .obtain⟨i,hi,rfl⟩:=bP.mp hv;exact(zW nd nl.1).1
def Aa(ns:T0 Int):∀v∈(tO ns).k9,v.2.lu.isSome=true:=λv hv=>by obtain⟨i,hi,rfl⟩:=bP.mp hv;exact(zW (own:=[]) (xb (cell ns 0)).2 (sU (cell ns 0)).1).2
def CW{l:m9}(ok:pM l){gs:Str->QQQ}(go:JH l gs){rs:T0 (QQQ)}(p:rs.Perm (l.nm.flatMap λx=>nW gs 12 [x]))(r:QQQ):r∈rs↔KW l.nm (rm l) r:=by rw[p.mem_iff,DF ok go xc,xF,and_assoc];exact⟨id,id⟩
def EK:pJ:=λds M Q=>∃ns:T0 Int,ds=[.rl (ns.map D.int)]/\ns.length<=63/\Q (.bl true) M
noncomputable def Mr(s:Int)(d:D):D:=match d with|.int i=>.tup [.str (word s i),.int (1+i % 3),.int i]|_=>.lw
def Ir:Fq P w K mg base 20 a.J EK:=by
 have Om:=Ah (P:=P) (w:=w) (base:=base) G (zC G) (zb G 12);refine fq G.J.toDG oM (λr u=>⟨_,(mI (nh 1 oM (mO (Hs G) r G.H (qd u0 mJ)))
 (mI (qy (i:=2) oM.nd rfl (Or.inl rfl) rfl (yO (ix:=[none,some 1]) (N':=["_law_k","_law_seed"])) (qi rfl G.B (oB (mU mJ (mO (oH G) r G.j (tE V1 mJ mJ))))) (nO 0) oJ (nX (tE (mO (B4 G) r G.I (qd V1 u0)) (mU mJ (mU u0 mJ)) u0)))
 (mI (qy (i:=3) oM.nd rfl (Or.inl rfl) rfl (yO (ix:=[none]) (N':=["_law_phone"])) (oq V2) (nO 0) oJ (nc u0 mJ))
 (mI (nh 4 oM (mO (Al G) r G.aj (qd V1 V3)))
 (mI (nh 5 oM (mU V3 (oG rfl (yO (ix:=[none]) (N':=["_law_group"])) (oq v4) (nO 0) oJ (nc u0 mJ))))
 (mI (nh 6 oM (qm rc))
 (mI (pY cU rfl (qi rfl G.B (oB (mO (oH G) r G.j (tE V1 mJ mJ)))) (oh 7 oM)
 (mI (nh 8 oM (mU (mO (Hs G) r G.H (qd u0 (mU mJ v7))) (mU (mU mJ v7) v7)))
 (mI (nh 9 oM (mO (AO G) r G.ak (qd v8 v5)))
 (mI (n9 (W3.b3 (vR (nC u (mU V1 mJ) mJ) (tN (nC u (mO (oH G) r G.j (tE v8 mJ mJ)) mJ))))
 (mI (nh 10 oM (nX (qd (nc v5 (mU v7 (mR nU rfl G.c nJ (oB v5)))) (nc v5 (mU (mU v7 mJ) (mR nU rfl G.c nJ (oB v5)))))))
 (mK (nh 9 oM (mU (mU (pV v9 qL (qN mJ)) MB) (pV v9 (qN mJ) qL)))))
 nk)
 (mK (mX (pE v6 (oB (nX (qd (pW u (mO (oH G) r G.j (tE v8 mJ mJ)) mJ) v9))))))))))
 (mI (qy (i:=11) oM.nd rfl (Or.inl rfl) rfl (yO (ix:=[none,none]) (N':=["_law_on","_law_told"])) (oq v6) (ql (n:=2) rfl (ng (nO 0) (ng (nO 1) pz))) (Eh (vP u0)) (nX (qd (nc V1 mJ) (nc V1 mJ))))
 (mI (nh 12 oM (mO Om r G.aa (oB (rj (Gv G) r G.e G.aK G.L.toDG (tE V2 v4 v6)))))
 (mI (n9 (uB (vP (mO (FM G) r G.al (qd Mj Mq))))
 (mK (mT uK))
 nk)
 (mI (pY cU rfl (ud rfl G.aE (oB (mU u0 (qm (oB mJ))))) (ql (n:=2) rfl (ng (oh 7 oM) (ng (oh 8 oM) pz)))
 (mI (nh 13 oM (mO (E5 G) r G.am (tE Mq v8 (nc v5 (mO (oH G) r G.j (tE (mU v8 v7) mJ (mR nU rfl G.c nJ (oB v5))))))))
 (mK (n9 (W3.b3 (vR (nC u Mw Be) (tN (FR u Mw Mj))))
 (mK (mT uK))
 nk))))
 (mK (mT uK))))))))))))),?_⟩)
 rintro ds M Q ⟨ns,rfl,hl,q⟩
 have hz:=b7;refine⟨ns,0,rfl,?_⟩;have po:=EN ns;have pld:=Aa ns;have Np:tO ns=⟨oQ (cell ns 0),ou (cell ns 0) (pT (cell ns 0)),qG ns (JI (cell ns 0))⟩:=rfl;have hnm:(tO ns).nm=pL (cell ns 0):=rfl;have pl:=yQ (cell ns 0);have ol:=wq (cell ns 0);have gl:=rY (cell ns 0) (pT (cell ns 0));have nl:=sU (cell ns 0);have d0:=nI (c:=cell ns 0) (f:=48271) (m:=7) (by decide);have d1:=nF (c:=cell ns 0) (f:=48271) (m:=7) (by decide);have ep:oQ (cell ns 0)=(List.range (2+nB (cell ns 0) 48271 7).toNat).map (Mz (cell ns 0)):=rfl;have wn:qG ns=λn=>(List.range n).map λi=>se (cell ns 0) (0+(i:Nat)) (rb ns i) (pL (cell ns 0)):=rfl;have eo:(oQ (cell ns 0)).map (·.1)=pT (cell ns 0):=rfl;have en:pL (cell ns 0)=pT (cell ns 0)++(ou (cell ns 0) (pT (cell ns 0))).map (·.1):=rfl;have one:pT (cell ns 0)≠[]:=λz=>by rw[z]at ol;exact absurd ol.1 (by decide)
 refine⟨_,_,_,rfl,by decide,rfl,⟨?_,?_⟩,?_⟩
 .show -(2 ^ 62)<=2+nB (cell ns 0) 48271 7;lia
 .show 2+nB (cell ns 0) 48271 7<2 ^ 62;lia
 refine n8 (f:=Mr (cell ns 0)) trivial ((List.range (2+nB (cell ns 0) 48271 7).toNat).map λi=>D.int (0+(i:Nat))) [] _ (by rw[bi,cx];simp only[b9];lia) (λd hd k hk=>?_) λr1 Ov=>?_
 .obtain⟨i,_,rfl⟩:=bP.mp hd;exact⟨_,_,rfl,by decide,mF rfl,hk⟩
 have e1:[]++((List.range (2+nB (cell ns 0) 48271 7).toNat).map λi=>D.int (0+(i:Nat))).map (Mr (cell ns 0))=(oQ (cell ns 0)).map nP:=by rw[cC,ep,cj,cj];rfl
 rw[e1];obtain⟨M1,e0,s1,a1⟩:=Ac (ds:=(oQ (cell ns 0)).map nP) Ov;rw[<-e0];refine mH a1 (n8 (f:=yy) a1 _ [] _ (by rw[bi];simp only[b9];lia) (λd hd k hk=>?_) λo ho=>?_)
 .obtain⟨x,_,rfl⟩:=bP.mp hd;exact hk
 rw[cC,tH,eo];obtain⟨M2,e0,t2,bo⟩:=Ac (ds:=(pT (cell ns 0)).map D.str) ho;rw[<-e0];have s2:=s1.trans t2;have b1:=t2.lst a1;clear e1 t2;refine⟨cell ns 0,o,pT (cell ns 0),rfl,bo,one,by lia,λr2 hr2=>?_⟩;obtain⟨M3,e0,t3,c2⟩:=Ac (ds:=(ou (cell ns 0) (pT (cell ns 0))).map nV) hr2;rw[<-e0];have c1:=t3.lst b1;have co:=t3.lst bo;have s3:=s2.trans t3;clear t3 hr2;refine mH c2 (n8 (f:=yy) c2 _ [] _ (by rw[bi];simp only[b9];lia) (λd hd k hk=>?_) λx4 hx4=>?_)
 .obtain⟨x,_,rfl⟩:=bP.mp hd;exact hk
 rw[cC,tq];have t4:=oj.new (c:=.lst (((ou (cell ns 0) (pT (cell ns 0))).map (·.1)).map D.str)) hx4;refine mH (t4.lst co) (mH mQ ⟨?_,λn hn=>?_⟩)
 .rw[bi,bi,bi];lia
 have en':(pT (cell ns 0)).map D.str++((ou (cell ns 0) (pT (cell ns 0))).map (·.1)).map D.str=(pL (cell ns 0)).map D.str:=by rw[en,b6]
 rw[en'];have t5:=t4.trans (oj.new (c:=.lst ((pL (cell ns 0)).map D.str)) hn);have en5:=@mQ (mN M3 x4 (.lst (((ou (cell ns 0) (pT (cell ns 0))).map (·.1)).map D.str))) n ((pL (cell ns 0)).map D.str);have f1:=t5.lst c1;have f2:=t5.lst c2;have fo:=t5.lst co;have s5:=s3.trans t5;generalize mN (mN M3 x4 (.lst (((ou (cell ns 0) (pT (cell ns 0))).map (·.1)).map D.str))) n (.lst ((pL (cell ns 0)).map D.str))=M5 at s5 f1 f2 fo en5 ⊢;clear c1 c2 co b1 bo a1 t4 t5 s1 s2 s3 en' ep Ov ho hx4 hn d0 d1;generalize hown:pT (cell ns 0)=own at *;generalize hnn:pL (cell ns 0)=nm at *;have ei:((nm.map D.str).length:Int)=nm.length:=by rw[bi]
 have NY:nm≠[]:=λz=>by rw[z]at nl;exact absurd nl.1 (by decide)
 have P8:(0:Int)<nm.length:=by lia
 have d0:=nI (c:=cell ns 0) (f:=1664525) (m:=17) (by decide);have d1:=nF (c:=cell ns 0) (f:=1664525) (m:=17) (by decide);refine⟨mF rfl,λr3 hr3=>?_⟩;have t6:=oj.new (c:=.lst []) hr3;have g3:=@mQ M5 r3 [];have nn:n≠r3:=λz=>by have:=nq en5;rw[z,hr3]at this;cases this
 have no:o≠r3:=λz=>by have:=nq fo;rw[z,hr3]at this;cases this
 have f3:=t6.lst en5;have f4:=t6.lst fo;have k6:oj M (mN M5 r3 (.lst [])):=s5.trans t6;have nr:M r3=none:=s5.none hr3;generalize hM6:mN M5 r3 (.lst [])=M6 at f3 f4 k6 g3 t6 ⊢;dsimp only[rA];refine K9 (t:=Iq _ _ _) (λU M7=>rV r3 M6 M7/\md M7 r3=some ((qG ns (JI (cell ns 0))).map qa)/\∃x1 x2 x3 x4,U=[some (.rl (ns.map D.int)),some (.int (cell ns 0)),some (.ref r1),some (.ref o),some (.ref r2),some (.ref n),some (.ref r3),x1,x2,x3,x4,none,none,none]) (λnx2 OC=>?_) ?_
 .refine⟨_,_,_,rfl,by decide,rfl,⟨?_,?_⟩,?_⟩
  .show -(2 ^ 62)<=nB (cell ns 0) 1664525 17;lia
  .show nB (cell ns 0) 1664525 17<2 ^ 62;lia
  refine ri ((List.range (JI (cell ns 0))).map λi=>D.int (0+(i:Nat))) (λpre U M'=>rV r3 M6 M'/\md M' r3=some ((qG ns pre.length).map qa)/\∃x1 x2 x3 x4,U=[some (.rl (ns.map D.int)),some (.int (cell ns 0)),some (.ref r1),some (.ref o),some (.ref r2),some (.ref n),some (.ref r3),x1,x2,x3,x4,none,none,none]) (λp U M' j=>trivial) _ [] _ _ rfl ⟨λ_ _ _ h=>h,g3,none,none,none,none,rfl⟩ ?_ ?_
  .rintro pre d post e U M' ⟨kp,lr,x1,x2,x3,x4,rfl⟩ nx Nt
   obtain⟨rfl,Nd⟩:=we e;have Nd:pre.length<(nB (cell ns 0) 1664525 17).toNat:=Nd;generalize hi:pre.length=i at Nd Nt lr ⊢;have c31:xZ 31 (0+(i:Int)):=.inl ⟨by decide,by decide⟩;have cm:xZ (31*(0+(i:Int))) (0+(i:Int)):=.inr ⟨by lia,by lia⟩;have ln:=kp.lst nn f3;have lo:=kp.lst no f4;have ec:cell ns (1+(0+(i:Int)))+31*(0+(i:Int))*(0+(i:Int))=rb ns i:=rfl;refine⟨ns,_,rfl,c31,cm,rb ns i,n,nm,rfl,ln,nl.1,by lia,?_⟩;dsimp only[rA];refine K9 (t:=IG _ _ _) (λU M2=>M2=M'/\∃x4,U=[some (.rl (ns.map D.int)),some (.int (cell ns 0)),some (.ref r1),some (.ref o),some (.ref r2),some (.ref n),some (.ref r3),some (.int (0+(i:Int))),some (.int (rb ns i)),some (.tup (se (cell ns 0) (0+(i:Nat)) (rb ns i) nm).2.told),x4,none,none,none]) (λKu hn3=>?_) ?_
   .refine⟨by decide,rJ (c:=cell ns 0 % 2==1) (λh=>?_) (λh=>?_)⟩
    .have h:cell ns 0 % 2=1:=by simpa using h
     refine⟨rb ns i,_,_,rfl,by decide,rJ (λg=>?_) (λg=>?_)⟩
     .have g:0<nB (rb ns i) 950706376 3:=eH g;refine mH ln ⟨by rw[ei];exact P8,mH ln ?_⟩;rw[ei];refine mH (vd NY _) (mH ln ⟨by rw[ei];exact P8,mH ln ?_⟩);rw[ei];refine mH (vd NY _) ⟨mF rfl,?_⟩;have fl:=sr (rb ns i) nm;obtain⟨u1,u2⟩:=Jj fl;have u3:=FY fl (sO nm ((0+(i:Int)) % nm.length)) (sO nm ((0+(i:Int)+1) % nm.length));refine⟨by rw[u1];simp,by rw[u1];show 1+2<=sizeLine;lia,?_⟩;refine⟨by rw[u1];simp,by rw[u1,bF];show 3+(L3.qC (wU (rb ns i) nm).told (some 3) none).length<=sizeLine;lia,?_⟩;refine hn3 _ _ ⟨rfl,some (.tup [.str (sO nm ((0+(i:Int)) % nm.length)),.str (sO nm ((0+(i:Int)+1) % nm.length))]),?_⟩;unfold se;rw[bA ⟨h,g⟩,<-u3];rfl
     .have g:¬0<nB (rb ns i) 950706376 3:=λz=>g (bZ z);refine hn3 _ _ ⟨rfl,x4,?_⟩;unfold se;rw[bv (λz=>g z.2)];rfl
    .have h:¬cell ns 0 % 2=1:=by simpa using h
     refine hn3 _ _ ⟨rfl,x4,?_⟩;unfold se;rw[bv (λz=>h z.1)];rfl
   rintro U M2 ⟨rfl,x4,rfl⟩
   refine⟨by show(md M2 r3).isSome=true;rw[lr];rfl,_,_,_,rfl,by decide,mF rfl,mH lr ⟨?_,?_⟩⟩
   .unfold qG;rw[bi,bi,cx];lia
   .refine Nt _ _ ⟨kp.trans .put,?_,_,_,_,_,rfl⟩;rw[mQ,bF,hi];show some (_++[qa (se (cell ns 0) (0+(i:Nat)) (rb ns i) nm)])=_;rw[wn];simp only;rw[zt (λi=>se (cell ns 0) (0+(i:Nat)) (rb ns i) nm)];rfl
  .rintro U M' ⟨kp,lr,x1,x2,x3,x4,rfl⟩
   rw[bi,cx]at lr;exact OC _ _ ⟨kp,lr,_,_,_,_,rfl⟩
 rintro U M7 ⟨kp,lr,x1,x2,x3,x4,rfl⟩
 have no:∀{x:Addr} {ds:T0 D},md M5 x=some ds->md M7 x=some ds:=λ{x ds} h=>kp.lst (λz=>by have:=nq h;rw[z,hr3]at this;cases this) (t6.lst h);have g1:=no f1;have g2:=no f2;have gn:=no en5;have s7:oj M M7:=λb c h=>kp b c (λz=>by rw[z,nr]at h;cases h) (k6 b c h);clear no kp f1 f2 fo en5 f3 f4 k6 t6 g3 hM6 hr3 s5 nn d0 d1;have hr:md M7 r3=some ((tO ns).k9.map qa):=lr;have hnL:nm=(tO ns).nm:=hnn.symm;have g1:md M7 r1=some ((tO ns).lq.map nP):=g1;have g2:md M7 r2=some ((tO ns).groups.map nV):=by rw[Np];exact g2
 have l16:=po.mo;have n11:=xR po;clear hown hnn wn eo en Np hnm ol pl gl lr;generalize tO ns=L at *;subst hnL;refine mH hr (tT (L.k9.map qa) (λpre acc U M'=>M'=M7/\acc=((L.k9.take pre.length).filterMap λw=>if w.1 then w.2.lu else none).map pS/\∃x y,U=[x,y]) (λ_ _ _ _ j=>by rw[j.1];exact hr) _ [] [] _ _ rfl (by rw[bi];simp only[b9];lia) ⟨rfl,rfl,none,none,rfl⟩ (λpre d post e acc U M' j k k2 hk N0=>?_) λacc U M' j pq hpq=>?_)
 .obtain⟨rfl,rfl,x,y,rfl⟩:=j;obtain⟨v,hv,rfl⟩:=ET e;have N6:=B5 (f:=λw:oR=>if w.1 then w.2.lu else none) hv;have el:(pre++[qa v]).length=pre.length+1:=by simp
  obtain⟨pr,ew⟩:=fW.mp (pld v (cJ hv));refine⟨rfl,rJ (c:=v.1) (λh=>?_) (λh=>?_)⟩
  .simp only[h,gD,ew]at N6;refine mH (Bu ew).1 (mH (Bu ew).2 ⟨mF rfl,hk _ _ _ ⟨rfl,?_,_,_,rfl⟩⟩);rw[el,N6,b6];rfl
  .have h:v.1=false:=by simpa using h
   simp only[h]at N6;refine N0 _ _ ⟨rfl,?_,_,_,rfl⟩;rw[el,N6];show _=List.map pS (_++[]);rw[b5]
 obtain⟨rfl,rfl,x,y,rfl⟩:=j;have ept:List.filterMap (λw:oR=>if w.1 then w.2.lu else none) (L.k9.take (L.k9.map qa).length)=rm L:=by rw[bi,dN];rfl
 rw[ept];obtain⟨M9,e0,t9,hq9⟩:=Ac (ds:=(rm L).map pS) hpq;rw[<-e0];have hn9:=t9.lst gn;have h19:=t9.lst g1;have h29:=t9.lst g2;have hr9:=t9.lst hr;have s9:=s7.trans t9;clear t9 gn g1 g2 s7 hpq ept;refine λp hp=>?_;have t8:=oj.new (c:=.ins a.e []) hp;refine⟨p,r1,r2,r3,L,rfl,mM,t8.lst h19,t8.lst h29,t8.lst hr9,po,λM0 kp pa _=>⟨rfl,?_⟩⟩;have sm:oj M9 M0:=λb c h=>kp b c (JF h hp) (t8 b c h);have hq0:=sm.lst hq9;have hn0:=sm.lst hn9;have s0:=s9.trans sm;clear hq9 hn9 h19 h29 hr9 t8 kp hp s9 sm;refine⟨p,L,rfl,pa,po,λq2 gs rs M12 go s12 rn p12 w12=>?_⟩;have cy:=λr=>CW po go p12 r;have rw12:=GQ (p12.nodup_iff.mpr (yU po go)) w12;obtain⟨_,fs,l2,_,_,_,rp⟩:=rn;have hq12:=s12.lst hq0;have hn12:=s12.lst hn0;have s12':=s0.trans s12;clear hq0 hn0 s0 s12 pa;refine⟨q2,pq,fs,rs,L.nm,rm L,rfl,l2,rp,hq12,by lia,λr hr=>(cy r).mp hr,rw12,CJ ?_⟩;dsimp only[Ku];refine K9 (t:=Iq _ _ _) (λU M13=>oj M12 M13) (λnx2 OC=>?_) λU M13 s13=>⟨M,s12'.trans s13,q⟩;refine⟨mF rfl,λe0 he0=>?_⟩;have t0:=oj.new (c:=.lst [.int 4]) he0;refine mH mQ ⟨by rw[bi];show ns.length+1<=sizeLine;lia,λe1 he1=>?_⟩;have t1:=t0.trans (oj.new (c:=.lst (ns.map D.int++[.int 4])) he1);have l1:=@mQ (mN M12 e0 (.lst [.int 4])) e1 (ns.map D.int++[.int 4]);have ee:ns.map D.int++[D.int 4]=(ns++[4]).map D.int:=by rw[b6];rfl
 rw[ee]at l1;refine mH (x:=(ns++[4]).map D.int) (by rw[ee];exact mQ) ?_;rw[ee]at t1 ⊢;generalize mN (mN M12 e0 (.lst [.int 4])) e1 (.lst ((ns++[4]).map D.int))=Ma at t1 l1 ⊢;have pin:∀x∈rm L,x.1∈L.nm/\x.2∈L.nm/\x.1≠x.2:=λx hx=>by obtain⟨w,hw,_,e⟩:=vA.mp ((xc x.1 x.2).mp hx);exact wt po hw e
 have pl:(rm L).length<=16:=bS (eQ ..) l16;refine ri (qX 0 ((ns++[4]).map D.int)) (λpre U M'=>oj Ma M'/\∃y7 y8 y13,U=[some (.rl (ns.map D.int)),some (.int (cell ns 0)),some (.ref r1),some (.ref o),some (.ref r2),some (.ref n),some (.ref r3),y7,y8,x3,x4,some (.ref pq),some (.ref q2),y13]) (λ_ _ M' j=>j.1.lst l1) _ [] _ _ rfl ⟨.refl,_,_,_,rfl⟩ ?_ ?_
 .rintro pre d post e U M' ⟨s',y7,y8,y13,rfl⟩ nx Nt
  have ed:(qX 0 ((ns++[4]).map D.int))[pre.length]?=some d:=by rw[<-e];simp
  rw[ua,bJ]at ed;cases et:(ns++[4])[pre.length]? with
  | none=>rw[et]at ed;cases ed
  | some c=>
   rw[et]at ed;have ed:D.tup [.int ((0+pre.length:Nat):Int),.int c]=d:=bH ed;subst ed;have Nt:∀U M3,(oj Ma M3/\∃y7 y8 y13,U=[some (.rl (ns.map D.int)),some (.int (cell ns 0)),some (.ref r1),some (.ref o),some (.ref r2),some (.ref n),some (.ref r3),y7,y8,x3,x4,some (.ref pq),some (.ref q2),y13])->nx U M3:=Nt;generalize (0+pre.length:Nat)=k;have ta:=t1.trans s';have OV:=ta.lst hn12;refine⟨rfl,mH OV ⟨_,_,_,rfl,by rw[ei];exact P8,?_⟩⟩;rw[ei];refine mH OV (mH (ye (nI P8) (nF P8)) ?_);have OS:=rq (nI (c:=c+(k:Int)) (f:=22695477) P8) (nF (c:=c+(k:Int)) (f:=22695477) P8);generalize sO L.nm (nB (c+(k:Int)) 22695477 L.nm.length)=x1' at OS ⊢;refine⟨pq,c,x1',L.nm,rm L,rfl,ta.lst hq12,OS,λx hx=>(pin x hx).2.1,λz hz=>(pin _ hz).2.2 rfl,by lia,?_,λb r M15 s15 lb cr=>?_⟩
   .exact Nt _ _ ⟨s',_,_,_,rfl⟩
   .have tb:=ta.trans s15;refine⟨r,fs,rowAt M12,lb,tb.lst l2,λz hz=>tb.lst (rp.rowAt hz),?_⟩;have:fs.any (λz=>rowAt M12 z==r)=true:=by have hr:=(cy r).mpr cr;rw[<-rp.rows]at hr;obtain⟨z,hz,ez⟩:=bP.mp hr;exact eP.mpr ⟨z,hz,by rw[ez];simp⟩
    rw[this];exact Nt _ _ ⟨s'.trans s15,_,_,_,rfl⟩
 .rintro U M' ⟨s',_⟩
  exact OC _ _ (t1.trans s')
end Z
end
structure PySem.W.Fast:Prop where(tw9077408435957120345 tw8257089583211840176 tw7196009000212945394 tw676436264412686117 tw5989740347370361290 tw4067499058489942783 tw2694950563805888250 tw2194123780352212180 tw204768399579176227 tw18216568655966897291 tw18030134320744422534 tw17359882461874324976 tw15342620767735717027 tw15183822890053578535 tw14951497982768130444 tw13431058668799446067 tw13040998035700721764 tw12503114644834220713 tw1200308423018428643 tw11694872425911886788 tw11114022015935633552 tw11041075942451124209 tw11440617794314477729 tw10069746193211771177 tw432182126296145496 tw15448390699365118582 tw4152960558909266505 tw1665358300893495511 tw9668696294256304032 tw5560796637834043847 tw4042250244260192037 tw8182267753290125498 tw10191295663137277740 tw13343017005067994224 tw15975338716071428452 tw12566782939118696472 tw8647725517165234564 tw17400372647047645640 tw8063603015416125499 tw73600800553356443 tw8026592787142666548 tw10122439052953548904 tw3120083014594525884 tw14007797320886654898 tw4256348405268565963 tw15796626535361177607 tw10018207789600206087 tw4746662914208791258 tw6566658968195492368 tw18053459370055306920 tw14745913680063295814 tw13958637603432885195 tw10682581339823351938 tw5464334655793556042 tw10170968740737737041 tw13841918826998550384 tw15591648453760609626 tw14688160822204926602 tw7281821788131645743 tw15736919095703276377 tw9052170868740733210 tw6345287072738777750 tw3694461857400961841 tw6404623084428730906 tw8514870499097255442 tw13419683534670808351 tw11848156237691084991 tw3956381833610552947 tw4496898036831529315 tw1971138275991830309 tw10183471724936353470 tw721489111762323873 tw6663814441768187875 tw13141605003214390431 tw12980054756648840182 tw9942739985490970651 tw7108464205537744404 tw16394892654748393730 tw17291316699619720471 tw170769306516574663 tw11050954469629013863 tw5600011827244704557 tw2977557730390346629 tw10753607471550080841 tw8092859442379918220 tw12812991212767918629 tw11485769959113546361 tw9544386340394242995 tw5772316657426841148 tw427194619155935469 tw7405906012933415477 tw11148123839639501088 tw16034545784175912991 tw700926827727645276 tw17608874092726082244 tw6712731474373063204 tw10031753396840654414 tw8044919778778766524 tw5481390406174570210 tw12937881682611633049 tw7677422689270258278 tw10447299202350431362 tw2254945291052492812 tw11136958980123175108 tw9810479412719022694 tw3759505772614301372 tw15660314459952949565 tw3325128145391509968 tw13566815239947702875 tw5462492480889928489 tw16721562226093828937 tw2132559400046963992 tw14610452056428000356 tw16348107415282395919 tw174633630284297839 tw5356461434891016630 tw4452751185433625525 tw18249833442255057230 tw4089385859546713251 tw1906876545955762022 tw15008968478727277373 tw5791295461112447669 tw14218755353562849355 tw5373161286897262070 tw16084068621055086419 tw2339525332677238355 tw14606034859333375209 tw7879892029139067170 tw13392225593718378846 tw11105898475773225035 tw4411266102649400877 tw9805573979446087494 tw3492266223815029523 tw11348750405983856452 tw5170034433848466228 tw10551055338212031805 tw16527803919800942685 tw10547128797628683507 tw15422528214761693243 tw12251652988210747411 tw5808469333342554276 tw8100383179495210888 tw5958818975548014709 tw10146576297441149913 tw8034968053815778198 tw15553007964623739348 tw16622370792610782408 tw10326450849914371877 tw14564420011850410121 tw8186692089311454960 tw18067450503665779415 tw3146897476590078095 tw4562410573212089651 tw16248246336704649168 tw5862696798321698767 tw17980999567053521979 tw14767122838066092926 tw12924602110058567934 tw17775565156090916012 tw8609829861515109518 tw6132783470079150662 tw10369101558688411781 tw8979264177187700346 tw9944198121266176934 tw15539197454096417220 tw8978926219242107567 tw17177063644822602518 tw18341533657979231778 tw13214977987282737831 tw13725509022023738209 tw108203836519986543 tw10844925590542766109 tw16688973101620206139 tw17215341665519448679 tw6082307599008447974 tw9822224156721204693 tw2797385127052554564 tw3731652588065474956 tw7200826340840511008 tw16501856603195766339 tw10463680842191515884 tw1454797928082857617 tw10370656035152214666 tw14962312362024629552 tw3729308860441804660 tw6051119833165256522 tw4311834883279022491 tw10143776581804118378 tw8331962913587100472 tw4907825745866508150 tw11740030888005952182 tw8142579288285882941 tw8665989833143894116 tw10883834042111236140 tw17360803964143797096 tw12453719992980496919 tw10423410636122591902 tw14362931474678788943 tw4065868061833766541 tw9030996599988122565 tw865249954284678069 tw14237748605558353161 tw15543874912582190112 tw4653763754000997378 tw9762047574583017094 tw15352814086526042352 tw10557874445691833887 tw16963852447216003548 tw15440310977900280537 tw13369327389413182951 tw12586169883995906676 tw17371893512881315697 tw17236510144270495404 tw14071630065095265232 tw13820253925429780568 tw4654523926191172108 tw18415153702190517310 tw15205608417178055416 tw16282193412659832970 tw15010138893172224967 tw10389926189514126900 tw3159470643775809387 tw15323100409550048570 tw4964204107109237914 tw9324037392334903506 tw8198149718467488968 tw6049724683733733139 tw9619905165707884172 tw4762214204294210833 tw4721804715468279015 tw2665486526279462187 tw12520403891249505725 tw12143538596714481386 tw14276724341918648624 tw11284723377731572695 tw10099763761257562859 tw9383144079247743499 tw2658869248798658182 tw181172802226225498 tw14505311137876539119 tw13460757403430754705 tw1923866980733222276 tw12654564438775515432 tw10519521944229491555 tw6617601588401047475 tw17178633662088999706 tw2788501340361677012 tw15436718754716472074 tw5623460614444260473 tw1000046971490453591 tw9414783409367441147 tw6866082705255250826 tw16791982864866973446 tw7379028539032080331 tw13363981166662213681 tw11515375137407931392 tw16593177292551240986 tw930306138291182073 tw9266001391019352783 tw3800939000579452089 tw8850489336169169709 tw18131233531074961964 tw12158304589632112409 tw11361415432218521333 tw16384700777373691646 tw6978365208464560078 tw9658726879769896246 tw9237567005678304815 tw5251079701752258354 tw4373737957663522659 tw18379327322412870181 tw18095238122688544634 tw17860830677769218790 tw17177399317733722914 tw13057731271301153808 tw7331062700050035964 tw4393399168978387771 tw14680379109738680162 tw1564774014170534602 tw10783017070785565853 tw6917552046441453448 tw4935831060253840822 tw9816754443812740390 tw7016397810886565197 tw16896327088290323205 tw7296530573679675686 tw4140133746468904727 tw14411882708957967718 tw11494558331268757578 tw2833590303217087510 tw12892120959668832249 tw10654606601251829498 tw12053807886398863668 tw17327400702578540819 tw10204034284174548669 tw8433655272044875428 tw12149550007485976229 tw9423121352922131762 tw7908235651732858447 tw16649160460771453367 tw12928269369672714435 tw3984465675860789348 tw11286140158465600701 tw17847688947872326860 tw17327801470547349024 tw8900467823052719589 tw1058980735439771663 tw9815412267611955738 tw4653305284578576843 tw17926937697495520329 tw9752076175104617525 tw7689362792888361756 tw594688359769622517 tw2650360968733324186 tw9753698602544996346 tw5474806269182523027 tw9659106182077777759 tw5469754857378053251 tw1586604726355661377 tw6369366250894955325 tw15618521486083842056 tw6765580624361259666 tw4665949949057062460 tw13821409747790088681 tw4836721289835762149 tw4304067062918475630 tw2311848553950800845 tw1997974416220075618 tw18097941550380162491 tw16815677312702240431 tw15707172237907210861 tw14462385787192517561 tw13469963516605454256 tw133674583271140823 tw10533386123903305854 tw609706984844200529 tw11463396696043376361 tw9994347854907095969 tw4475655801222117801 tw13857325766212370350 tw10162519485244208265 tw12308693079663372799 tw9035943310438860078 tw13921094865813103979 tw546706299433784395 tw14623901210410872479 tw8915431739603887841 tw8378258410514222852 tw7082201052703802108 tw9093817326184816376 tw7878029180340227769 tw7668152945595292129 tw5124388937626585194 tw4517402225450733626 tw4021381832099925716 tw282526646215335009 tw2286098874431494220 tw18261329092474942459 tw17739013223297665081 tw15808242280815189583 tw12328534364881930179 tw9292554492838926361 tw1289198811948944082 tw11658498893600643284 tw7756370687340035597 tw8479100168030986073 tw2395177891924033814:True)
open PySem PySem.W PyProof.Rows L2 L3
set_option maxRecDepth 100000 in
set_option maxHeartbeats 0 in
theorem PySem.Challenge.cw_callboard_k35_rings_of_many_names_holds : PySem.Challenge.rw_callboard_k35_rings_of_many_names.Holds := by
 w_on;o_law;k_head;(case hw=>w_witness2)
 k_fill
 refine L3.Es (l:=PySem.Challenge.rw_callboard_k35_rings_of_many_names) (sp:=Z.EK) (k:=20) (x:="_law_script") rfl rfl ⟨rfl,by decide,by decide⟩ (λw h Y=>PySem.W.kIn_of Y) (λns hl=>⟨ns,rfl,hl,rfl⟩) ?F;case F=>
  intro w mg fa h KX G hmg;suffices h:∃a:Z.Ad,Z.Gl _ mg a/\∀(s:Shared) (u:Value),BindsTo s a.J.d ⟨[u],[]⟩ [("_law_script",u)]by obtain⟨a,g,hb⟩:=h;have e:=hmg.symm.trans g.J.mg;cases e;exact⟨a.J.d,hb,λbase _ _=>g.J.pe ▸ Z.Ir g⟩
  refine'⟨⟨_,_,_,_,_,_,_,_,_,_,_,_,_,_,_,_,_,_,_,_,_,_,_,_,_,_,_,_,_,_,_,_,_,_,_,_,_,_,_,_,_,_,_,_,_,_,_,_,_,_,_⟩,⟨sd KX G ..,sd KX G ..,sd KX G ..,sd KX G ..,sd KX G ..,sd KX G ..,sd KX G ..,sd KX G ..,sd KX G ..,sd KX G ..,sd KX G ..,oO KX G ..,oO KX G ..,oO KX G ..,oO KX G ..,oO KX G ..,oO KX G ..,oO KX G ..,oO KX G ..,oO KX G ..,oO KX G ..,oO KX G ..,oO KX G ..,oO KX G ..,oO KX G ..,oO KX G ..,oO KX G ..,oO KX G ..,oO KX G ..,oO KX G ..,oO KX G ..,oO KX G ..,oO KX G ..,oO KX G ..,oN ..,oN ..,oN ..,oN ..,oN ..,oN ..,oN ..,oN ..,oN ..,oN ..,oN ..,oN ..,oN ..,oN ..,oN ..,oN ..,oN ..,⟨?_,?_,?_,?_⟩,⟨?_,?_,?_,?_⟩,⟨?_,?_,?_,?_⟩,⟨?_,?_,?_,?_⟩,⟨?_,?_,?_,?_⟩,⟨?_,?_,?_,?_⟩,⟨?_,?_,?_,?_⟩,⟨?_,?_,?_,?_⟩,⟨?_,?_,?_,?_⟩,⟨?_,?_,?_⟩,⟨?_,?_,?_⟩,⟨?_,?_,?_⟩,⟨?_,?_,?_⟩,⟨?_,?_,?_⟩,⟨?_,?_,?_⟩,⟨?_,?_,?_⟩,⟨?_,?_,?_⟩,⟨?_,?_,?_⟩,⟨?_,?_,?_⟩,⟨?_,?_,?_⟩,⟨?_,?_,?_⟩,⟨?_,?_,?_⟩,⟨?_,?_,?_⟩,(mP ?_ (mP ?_ (mP ?_ (mP ?_ (mP ?_ (mP ?_ pD)))))),(mP ?_ (mP ?_ (mP ?_ pD))),(mP ?_ (mP ?_ (mP ?_ pD))),(mP ?_ (mP ?_ (mP ?_ pD))),(mP ?_ (mP ?_ (mP ?_ (mP ?_ (mP ?_ pD))))),(mP ?_ (mP ?_ (mP ?_ pD))),(mP ?_ (mP ?_ (mP ?_ (mP ?_ pD)))),(mP ?_ (mP ?_ pD)),(mP ?_ (mP ?_ pD)),Dn,PySem.W.mg_none_of KX G ?_,PySem.W.mg_none_of KX G ?_,PySem.W.mg_none_of KX G ?_,PySem.W.mg_none_of KX G ?_,PySem.W.mg_none_of KX G ?_,PySem.W.mg_none_of KX G ?_,PySem.W.mg_none_of KX G ?_,PySem.W.mg_none_of KX G ?_,PySem.W.mg_none_of KX G ?_,PySem.W.mg_none_of KX G ?_,PySem.W.mg_none_of KX G ?_,PySem.W.mg_none_of KX G ?_,qP (PySem.W.mg_of KX G ?_),qP (PySem.W.mg_of KX G ?_),qP (PySem.W.mg_of KX G ?_),qP (PySem.W.mg_of KX G ?_),FL (PySem.W.mg_of KX G ?_) (pG (ss:=["all","turns"]) ?_ (.cons ⟨_,rfl⟩ (.cons ⟨_,rfl⟩ .nil)) (Nat.le_of_ble_eq_true rfl)),qP (PySem.W.mg_of KX G ?_),qP (PySem.W.mg_of KX G ?_),qP (PySem.W.mg_of KX G ?_),IA (PySem.W.mg_of KX G ?_),FI (es:=[⟨_,.str "bar" _,.ref _⟩,⟨_,.str "shut" _,.ref _⟩,⟨_,.str "always" _,.ref _⟩,⟨_,.str "night" _,.ref _⟩,⟨_,.str "busy" _,.ref _⟩,⟨_,.str "silent" _,.ref _⟩,⟨_,.str "wait" _,.ref _⟩,⟨_,.str "breaks" _,.ref _⟩]) (PySem.W.mg_of KX G ?_) ?_ ?_ (.cons rfl ⟨_,rfl,(pG (ss:=["phone","names"]) ?_ (.cons ⟨_,rfl⟩ (.cons ⟨_,rfl⟩ .nil)) (Nat.le_of_ble_eq_true rfl))⟩ (.cons rfl ⟨_,rfl,(pG (ss:=["name","phones"]) ?_ (.cons ⟨_,rfl⟩ (.cons ⟨_,rfl⟩ .nil)) (Nat.le_of_ble_eq_true rfl))⟩ (.cons rfl ⟨_,rfl,(pG (ss:=["name","name"]) ?_ (.cons ⟨_,rfl⟩ (.cons ⟨_,rfl⟩ .nil)) (Nat.le_of_ble_eq_true rfl))⟩ (.cons rfl ⟨_,rfl,(pG (ss:=["name","name","hour","hour"]) ?_ (.cons ⟨_,rfl⟩ (.cons ⟨_,rfl⟩ (.cons ⟨_,rfl⟩ (.cons ⟨_,rfl⟩ .nil)))) (Nat.le_of_ble_eq_true rfl))⟩ (.cons rfl ⟨_,rfl,(pG (ss:=["name","name"]) ?_ (.cons ⟨_,rfl⟩ (.cons ⟨_,rfl⟩ .nil)) (Nat.le_of_ble_eq_true rfl))⟩ (.cons rfl ⟨_,rfl,(pG (ss:=["name","name","turns"]) ?_ (.cons ⟨_,rfl⟩ (.cons ⟨_,rfl⟩ (.cons ⟨_,rfl⟩ .nil))) (Nat.le_of_ble_eq_true rfl))⟩ (.cons rfl ⟨_,rfl,(pG (ss:=["phone"]) ?_ (.cons ⟨_,rfl⟩ .nil) (Nat.le_of_ble_eq_true rfl))⟩ (.cons rfl ⟨_,rfl,(pG (ss:=["phone"]) ?_ (.cons ⟨_,rfl⟩ .nil) (Nat.le_of_ble_eq_true rfl))⟩ .nil)))))))),qP (PySem.W.mg_of KX G ?_),qP (PySem.W.mg_of KX G ?_),qP (PySem.W.mg_of KX G ?_)⟩,λs u=>.of_eq rfl⟩
  all_goals try first|k_is|(intro _ _ _ _ _ _ us hl;rcases us with _|⟨_,_|⟨_,_|⟨_,_|⟨_,_|⟨_,_|⟨_,_|⟨_,us⟩⟩⟩⟩⟩⟩⟩<;>first|rfl|(exfalso;revert hl;simp;done))|rfl
