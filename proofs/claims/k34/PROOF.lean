import PyProof.Rows.All
import Wide.All
import OpenK.AllK
import Wide.FinOn
import PyProof.EqAt
import PyProof.EqKinds
import PyProof.TupleCall
import PyProof.AttrMiss
import PyProof.IsiH_list
import PyProof.Rows.SetFrom
import KE.KDictOf
import KE.KTab
import PyProof.AutoListH
import KE.KSortTup
import KE.KItemsList
import KE.KEqDict
import KE.KIntText
import Lean
import PyProof.RulesRaise
import PyProof.RulesTry
import KE.KTryDeep
import KE.KTryMore
import KE.KTryOn
import KE.TryInHelper
import KE.TryLedger
import PyProof.ExcArgsOwn
import PyProof.ExcAttrAll.ValueError
import KE.KIsAll
import PyProof.ExcBaseAll.ValueError
import PyProof.InstStoreFacts
import PyProof.ExcInit
import PyProof.SeqI3
import PyProof.ConsumeWalk
import PyProof.IsRules
import PyProof.FactsAll.set_1
import PyProof.FactsAll.set_2
import PyProof.FactsTree
import PyProof.CollectWalk
import PyProof.Rows.SortStr
import PyProof.FactsAll.list_2
import PyProof.Rows.SortRuns
import PyProof.DictWalks
import PySem.Challenge.RW_callboard_k34_all_rings
set_option genInjectivity false
set_option genSizeOfSpec false
set_option genSizeOf false
set_option Elab.async false
set_option linter.all false
set_option maxRecDepth 100000
set_option maxHeartbeats 4000000
noncomputable section
open PySem renaming wpAny_bind->bh,wpAny_pure->bj,sizeLine_eq->cb,wpAny_call_entry->cy,wpAny_mono->cz,wpAny_holding->cB,wpAny_callSpecial?_slot->cG,codeAny_builtin->cN,wpAny_newObj_type->cR,wpAny_truthy_bool->cY,wpAny_field->c9,wpAny_Call_Name_kw->dn,wpAny_seqItems->dB,wpAny_rule->dI,codeAny_mono->dR,plainId_quiet->dX,wpAny_setField_rec->eB,builtinLookup_eq_fast->eE,wpAny_setState_of->eK,isSubtype_type->eQ,wpAny_askSetting->eR,mem_of_lookup->eW,wpAny_pyIter_tuple->fj,wpAny_pyIter_list->fu,wpAny_typeOf->fA,wpAny_setField->fB,codeAny_call_builtin->fH,wpAny_passesOwn->fQ,typeLookup_type->fS,typeIs_str->gj,wpAny_attempt->gz,wpAny_isInstance->gC,wpAny_pyIter_zip->gD,weight_type_call_type->gF,wpAny_call->gK,codeAny_of_tree->gN,wpAny_specialOf->gO,wpAny_updateSeq_pair->gP,wpAny_setEntries_of->gW,wpAny_runValue->gZ,slot_dict_contains->hX,wpAny_onRaise->ij,wpAny_sequenceKey->im,fits_of_scanBound->iu,wpAny_letOwnedTupleGo_zip->iz,wpAny_comprehension_free->iG,entryFor_of_tree->iH,check_set_init_1->iK,wpAny_execs_nil->iX,wpAny_richCompare_same->jd,getitemInPython_of_ne->jg,wpAny_newTuple->jh,wpAny_letTemporaryGo->jo,wpAny_newList->jw,concat_meets->jK,wpAny_assign_Name->jS,slot_list_getitem->jU,slot_dict_getitem->jV,wpAny_pyIter_slot->jX,wpAny_of_eq->kc,wpAny_letGo->kg,wpAny_pyHash_str->kj,wpAny_execs_cons->kl,noFill_tuple_add->kn,wpAny_Name->kD,call_meets->kF,strKind_is->kM
open List renaming length_map->bi,mem_cons->br,length_append->bz,size_toArray->bA,not_mem_nil->bC,getElem?_eq_getElem->bF,mem_cons_self->bG,mem_map->bI,mem_cons_of_mem->bK,getElem?_eq_some_iff->bL,getElem?_map->bM,mem_singleton->bP,mem_append->bS,length_cons->bT,mem_append_right->bU,append_nil->bY,length_nil->bZ,map_append->b5,map_cons->b6,append_assoc->cc,nil_append->ci,lookup_cons->cj,all_eq_true->ck,nodup_cons->cp,map_map->cx,nodup_append->cC,length_singleton->cF,mem_of_getElem?->cJ,flatMap_append->cP,length_range->cS,length_take->cV,extract_eq_take_drop->cW,length_pos_iff->cX,nodup_nil->df,drop_eq_getElem_cons->dg,getElem?_eq_none->dh,take_append_drop->dj,take_length->dq,map_inj_right->dw,filter_cons->dz,mem_range->dA,pairwise_map->dE,foldl_cons->dF,mem_reverse->dM,mem_flatMap->dN,getElem?_append_left->dO,pairwise_iff_getElem->dP,length_eq_zero_iff->dY,replicate_succ->dZ,reverse_append->d6,find?_cons->eD,getElem?_append_right->eF,take_add_one->eJ,filterMap_cons->eV,mem_filter->eZ,getElem?_set_self->fk,flatMap_cons->fz,pairwise_flatMap->fE,mem_append_left->fF,reverse_reverse->fL,all_cons->fO,getElem_of_mem->fP,mem_filterMap->fU,all_map->fX,pairwise_cons->fZ,contains_eq_any_beq->gg,getLast_eq_getLastD->gh,drop_eq_nil_of_le->gu,take_of_length_le->gy,length_drop->gA,getElem_mem->gB,length_replicate->gE,getElem?_toArray->gG,pairwise_reverse->gH,getElem?_set_ne->gJ,map_nil->gL,pairwise_append->gR,getElem?_range->gU,map_congr_left->gX,drop_drop->hJ,getLastD_cons->ic,filter_append->ie,getD_eq_getElem?_getD->ii,length_eraseIdx_of_lt->ik,ext_getElem?->iv,reverse_perm->iw,getElem?_eq_none_iff->iB,getElem?_take_of_lt->iD,zipIdx_cons->iL,eq_of_mem_replicate->iQ,length_filterMap_le->iR,getElem?_replicate->iT,pairwise_singleton->iV,append_cancel_left->iW,of_mem_zip->iY,forIn_cons->iZ,range_succ->i7,filter_nil->i9,map_eq_append_iff->je,forIn_nil->jf,filterMap_append->jl,length_filter_le->jm,perm_cons_erase->jq,mem_erase_of_ne->jr,mem_of_mem_take->js,getElem?_append->jt,map_eq_cons_iff->ju,mem_map_of_mem->jA,map_id'->jO,any_map->jP,getElem_range->jR,take_sublist->jT,getElem_take->jZ,getElem_drop->j3,mapM_toArray->j6,flatten_cons->j7,not_lt->kh,drop_length->ku,any_eq_true->kz,getElem_map->kA,getLast_mem->kB,flatMap_nil->kC,zipIdx_nil->kH,drop_zero->kR,take_succ->kS,any_cons->kW
open PySem.Heap renaming get?_push_of_some->bp,lt_size->bD,get?_push_size->bE,size_push->b8,get?_update_self->di,get?_update_other->gq,size_update->iO,get?_update_ne->jD,get?_push_ne->j4
def bq:=@if_neg
def bw:=@if_pos
def bV:=@decide_eq_true
def bX:=@or_false
def cA:=@not_or
def cE:=@decide_eq_false
def c8:=@congrArg
def dH:=@getElem?_pos
def dU:=@of_decide_eq_true
def eU:=@beq_eq_false_iff_ne
def fv:=@decide_eq_true_eq
def fG:=@beq_iff_eq
def gi:=@if_true
def gk:=@decide_eq_false_iff_not
def gY:=@if_false
def j5:=@bne_self_eq_false
def ky:=@map_eq_pure_bind
open PyProof.Rows renaming wpS_bind->bu,wpS_pure->bv,wpS_forRange->cI,callWith_type1->cQ,slot_tuple_getitem->cT,wpS_modify->dC,wpS_mono->ee,listItems_at->eC,wpS_get->eY,callWith_builtin1->fi,SetOf_congr->fW,wpS_lift->hG,setObjOf_fresh->hW,slot_str_gt->iP,subscriptTail_builtinR->jb,listUpdate_at->jx,entry_tuple_getitem->jz,getElem?_mirror_all->jB,args_tuple_getitem->jL,seqEpoch_at->ki,size_push'->kL
open Nat renaming le_refl->bB,ne_of_lt->bH,lt_of_lt_of_le->bO,le_trans->bQ,lt_of_succ_lt->ce,zero_le->cu,lt_irrefl->cM,ne_of_gt->cU,lt_succ_of_lt->cZ,le_add_right->dJ,le_succ->dQ,lt_succ_self->d9,lt_of_succ_lt_succ->fm,lt_of_succ_le->fw,mul_le_mul_right->fN,le_of_lt->fT,lt_of_le_of_ne->gc,succ_le_of_lt->gp,pow_le_pow_right->gS,lt_trans->iF,succ_pos->iM,lt_or_ge->iN,succ_lt_succ->iS,not_lt_zero->i6,le_add_left->i8,add_le_add_left->jE,le_of_eq->jI,succ_mul->jM,zero_add->jN,min_le_right->kq,min_eq_left->kN,not_lt->kO,mul_le_mul->kQ,add_assoc->kX,min_self->k7,sub_self->k8
open Option.some renaming inj->bJ,injEq->iq
open Bool renaming false_ne_true->bN,and_eq_true->cO,eq_false_iff->dD,true_and->eI,and_eq_true_iff->eO,and_false->eP,false_eq_true->fY,beq_comm->jy,or_eq_true->kI,or_false->kU,and_true->kY
open Ne renaming symm->bR
open Array renaming toList_append->bW,length_toList->b7,getElem?_toList->cw,toList_push->c7,perm_iff_toList_perm->eH,getElem?_eq_getElem->eM,size_eq_one_iff->fD,toList_reverse->fJ,toList_extract->fK,toList_eraseIdxIfInBounds->gI,size_extract->h9,toList_setIfInBounds->il,getElem?_eq_none->jc,toList_modify->jC,append_assoc->jH
open PySem.F renaming called_set->b9,slot_tuple_iterator_next->eG,slot_list_getattribute->fV,slot_zip_next->gQ,args_tuple_iterator_next_1->g9,entry_tuple_iterator_next->hZ,entry_type_call->io,slot_dict_getitem->iy,args_tuple_add_2->iE,typeCall_set_1->iI,entry_set_init->iJ,entry_tuple_add->iU,slot_tuple_add->ja,slot_list_lt->jj,args_zip_next_1->jW,plain_list_iadd->jY,entry_zip_next->kx,plain_set_new->kJ,slot_set_iter->kK
open Int renaming emod_lt_of_pos->cf,emod_nonneg->cq,eq_ofNat_of_zero_le->cH,toNat_natCast->dS,mul_le_mul_of_nonneg_left->gT,emod_add_mul_ediv->jk,emod_eq_of_lt->j8,add_assoc->kZ,add_zero->k9
open PyProof.Rows.F renaming plain_set_update_loop->cD,entry_set_update_loop->dt
open PySem.Around renaming under_plainId->cK,under_plain->hV
open PySem.PassesOwn renaming never->de
open PySem.Obj renaming data_mapFields->dv,isFreed_of_fields->fC,cls_mapFields->ip
open PySem.Heap.SameBut renaming update->dG,refl->gm
open PySem.W renaming kia_one->dW,plainGet_of->jv,callWith_K->jJ,kitx_list->ka,cellsFrom_some->km,methodCall_KW->kG
open Option renaming map_eq_some_iff->eh,map_some->fR,isSome_iff_exists->iC,getD_none->kr
open List.cons renaming inj->eX
open PySem.Calls renaming spliced_cons->fh,spliced_nil->ft,Name_function_global->ig,call_function_entry->iA
open PySem.Code renaming quiet_builtin->hU
open List.Perm renaming append_left->ji,of_eq->kP
open PySem.Walks renaming list->jn,tuple->lc
open PySem.Draws renaming list->jp
open PySem.SeqAt.EqAt renaming int_str->jF,str_int->jG
open List.Nodup renaming sublist->jQ
open Sum.inr renaming inj->j9
open PySem.Moved renaming trans->kb
open PySem.SeqAt renaming in_listAt->kE
open PySem.Paired renaming length->kT
open PySem.Heap.IsSliceOf renaming new->lg
abbrev m9:=PySem.W.Frag
local macro_rules | `(tactic| walk_at "l") => `(tactic| (intro _ _ _ h; repeat (first | (obtain ⟨e, _⟩ := h; subst e; rfl; done) | (cases h; rename_i h))))
local macro_rules | `(tactic| walk_at "m") => `(tactic| (intro _ _ _ _ h; repeat (first | (obtain ⟨e, _⟩ := h; subst e; rfl; done) | (cases h; rename_i h))))
abbrev Vl:=PySem.Value
abbrev Sd:=PySem.Shared
abbrev Pg:=PySem.Program
abbrev Ar:=PySem.Around
abbrev Wo:=PySem.World
abbrev T0(α:Type _):=List α
abbrev QQQ:=List PySem.Str
abbrev QQX:=PySem.Value->PySem.Shared->Prop
abbrev QQY:=List (PySem.Addr×PySem.Obj)
abbrev QQZ:=PySem.Str->Option PySem.Value
abbrev QXQ:=List PySem.Addr
section
open PySem PySem.Spec PyProof.Rows
namespace L2
def x5{α:Sort u}{β:Sort v}{p q r:α->β->Prop}{C:Prop}(h:∃a b,p a b/\q a b/\r a b)(f:∀a b,p a b->q a b->r a b->C):C:=by obtain⟨a,b,h1,h2,h3⟩:=h;exact f a b h1 h2 h3
abbrev nZ:=Sum Int Str
noncomputable def vz:nZ->Vl->Bool
 | .inl k,v=>Value.isInt k v
 | .inr x,v=>Value.isStrOf x v
noncomputable def Ln(w:Wo):nZ->Int
 | .inl k=>hashInt k
 | .inr x=>hashStr w x
def nV:∀{k:nZ} {v:Vl},vz k v=true->(∃i t,k=Sum.inl i/\v=Value.int i t)\/(∃x t,k=Sum.inr x/\v=Value.str x t)
 | .inl i,v,h=>by obtain⟨t,e⟩:=Value.isInt_shape (k:=i) (v:=v) h;exact .inl ⟨i,t,rfl,e⟩
 | .inr x,v,h=>by obtain⟨t,e⟩:=Value.isStrOf_shape (x:=x) (v:=v) h;exact .inr ⟨x,t,rfl,e⟩
def B'(i:Int)(t:Tok):vz (.inl i) (.int i t)=true:=by simp[vz,Value.isInt]
def CL(x:Str)(t:Tok):vz (.inr x) (.str x t)=true:=by simp[vz,Value.isStrOf]
def Ii(a b:Int):decide ((Sum.inl a:nZ)=Sum.inl b)=(a==b):=by
 by_cases e:a=b
 .subst e;simp
 .have h:¬(Sum.inl a:nZ)=Sum.inl b:=λq=>e (Sum.inl.inj q);rw[cE h];exact(eU.mpr e).symm
def Hs(a b:Str):decide ((Sum.inr a:nZ)=Sum.inr b)=decide (a=b):=by
 by_cases e:a=b
 .subst e;simp
 .have h:¬(Sum.inr a:nZ)=Sum.inr b:=λq=>e (j9 q);rw[cE h,cE e]
def HX(a:Int)(b:Str):decide ((Sum.inl a:nZ)=Sum.inr b)=false:=cE (λq=>nomatch q)
def HH(a:Str)(b:Int):decide ((Sum.inr a:nZ)=Sum.inl b)=false:=cE (λq=>nomatch q)
noncomputable def nU(prog:Pg)(w:Wo):PySem.KeyKind prog w nZ where
 is:=vz
 hash:=Ln w
 inj:=λv a b ha hb=>by
  rcases nV ha with⟨i,t,rfl,rfl⟩|⟨x,t,rfl,rfl⟩
  .rcases nV hb with⟨j,u,rfl,e⟩|⟨y,u,rfl,e⟩
   .injection e with e1 _;rw[e1]
   .exact nomatch e
  .rcases nV hb with⟨j,u,rfl,e⟩|⟨y,u,rfl,e⟩
   .exact nomatch e
   .injection e with e1 _;rw[e1]
 byValue:=λk v h=>by rcases nV h with⟨i,t,rfl,rfl⟩|⟨x,t,rfl,rfl⟩<;>rfl
 pyHash:=λhv h=>by
  rcases nV hv with⟨i,t,rfl,rfl⟩|⟨x,t,rfl,rfl⟩
  .exact wpAny_pyHash_int h
  .exact kj h
 eqBool:=λhu hv h=>by
  rcases nV hu with⟨i,t,rfl,rfl⟩|⟨x,t,rfl,rfl⟩
  .rcases nV hv with⟨j,u,rfl,rfl⟩|⟨y,u,rfl,rfl⟩
   .rw[Ii]at h;exact wpAny_eqBool_int h
   .rw[HX]at h;exact jF i t y u _ _ _ _ h
  .rcases nV hv with⟨j,u,rfl,rfl⟩|⟨y,u,rfl,rfl⟩
   .rw[HH]at h;exact jG x t j u _ _ _ _ h
   .rw[Hs]at h;exact wpAny_eqBool_str h
 «strs»:=λk x t v h=>by
  rcases nV h with⟨i,u,rfl,e⟩|⟨y,u,rfl,e⟩
  .exact nomatch e
  .injection e with e1 _
   subst e1;cases v<;>rfl
def y7(prog:Pg)(w:Wo)(i:Int)(t:Tok):(nU prog w).is (.inl i) (.int i t)=true:=B' i t
def ux(prog:Pg)(w:Wo)(x:Str)(t:Tok):(nU prog w).is (.inr x) (.str x t)=true:=CL x t
inductive V where
 | lB|bl (b:Bool)|int (i:Int)|str (x:Str)|byt (b:Array UInt8)|flt (b:UInt64)|ref (a:Addr)|ty (n:String)
 deriving DecidableEq
def nK:V->Vl->Prop
 | .lB,u=>u=Value.none
 | .bl b,u=>u=Value.bool b
 | .int i,u=>∃t,u=Value.int i t
 | .str x,u=>∃t,u=Value.str x t
 | .byt b,u=>∃t,u=Value.bytes b t
 | .flt b,u=>∃t,u=Value.float b t
 | .ref a,u=>u=Value.ref a
 | .ty n,u=>u=Value.type n
abbrev nv:T0 V->T0 Vl->Prop:=Paired nK
def nv.length{xs:T0 V}{us:T0 Vl}(r:nv xs us):xs.length=us.length:=kT r
theorem nv.get:∀{xs:T0 V} {us:T0 Vl} {i:Nat} {x:V},nv xs us->xs[i]?=some x->∃u,us[i]?=some u/\nK x u
 | _,_,_,_,.nil,e=>by simp at e
 | _,_,0,_,.cons r _,e=>by simp at e;subst e;exact⟨_,rfl,r⟩
 | _,_,i+1,x,.cons _ t,e=>by obtain⟨u,h1,h2⟩:=nv.get (i:=i) (x:=x) t (by simpa using e);exact⟨u,by simpa using h1,h2⟩
theorem nv.append:∀{xs ys:T0 V} {us ws:T0 Vl},nv xs us->nv ys ws->nv (xs++ys) (us++ws)
 | _,_,_,_,.nil,s=>s
 | _,_,_,_,.cons r t,s=>.cons r (nv.append t s)
theorem nv.take:∀{xs:T0 V} {us:T0 Vl} (n:Nat),nv xs us->nv (xs.take n) (us.take n)
 | _,_,0,_=>.nil
 | _,_,_+1,.nil=>.nil
 | _,_,n+1,.cons r t=>.cons r (nv.take n t)
theorem nv.drop:∀{xs:T0 V} {us:T0 Vl} (n:Nat),nv xs us->nv (xs.drop n) (us.drop n)
 | _,_,0,r=>r
 | _,_,_+1,.nil=>.nil
 | _,_,n+1,.cons _ t=>nv.drop n t
def tP:Option V->Option Vl->Prop
 | some v,some u=>nK v u
 | none,none=>True
 | _,_=>False
def KV{κ:Type}:T0 (κ×V)->T0 (κ×Vl)->Prop:=Paired λ(p:κ×V) (q:κ×Vl)=>p.1=q.1/\nK p.2 q.2
noncomputable def kV:nZ->V
 | .inl i=>.int i
 | .inr x=>.str x
inductive HO where
 | lst (xs:List V)
 | tup (xs:List V)
 | dK (kvs:List (nZ×V))|dT (kvs:List (List nZ×V))
 | set (S:Int->Bool) (n:Nat)
 | ins (C dx:Addr) (fs:List (Str×V))
 | own (x:Addr)
 | xd (fs:List (Str×V))
 | met (f x:Addr)
 | rng (lo hi:Int)
 | frz (o:Obj) (u:HO)
 | tbl (ps:Array Vl)
 | ext (φ:Heap->Prop)
abbrev Hp:=Addr->Option HO
noncomputable def upd(H:Hp)(a:Addr)(o:HO):Hp:=λb=>if b=a then some o else H b
def m7{H:Hp}{a:Addr}{o:HO}:upd H a o a=some o:=by unfold upd;rw[bw rfl]
def nh{H:Hp}{a b:Addr}{o:HO}(h:b≠a):upd H a o b=H b:=by unfold upd;rw[bq h]
def ny{H:Hp}{a b:Addr}{o:HO}(h:H a=some o)(h':H b=none):a≠b:=by intro e;subst e;rw[h]at h';cases h'
section
variable (P:Pg)(w:Wo)
def xO(h:Heap)(a:Addr)(its:Array Vl):Prop:=∃o,h.get? a=some o/\o.cls=.type "tuple"/\(∃n,o.data=.seq its n)/\o.dict=none
def oo(H:Hp)(h:Heap)(a:Addr):HO->Prop
 | .lst xs=>xs.length<=sizeLine/\∃(its:T0 Vl) (n:Nat),nv xs its/\h.get? a=some {cls:=.type "list",data:=.seq its.toArray n}
 | .tup xs=>xs.length<=sizeLine/\∃its:T0 Vl,nv xs its/\xO h a its.toArray
 | .dK kvs=>kvs.length<=sizeLine/\(a==sysModules)=false/\∃vs,KV kvs vs/\h.DictOf (nU P w) a vs
 | .dT kvs=>kvs.length<=sizeLine/\(a==sysModules)=false/\∃xs:T0 (List nZ×Addr×Vl),Paired (λ(p:List nZ×V) (q:List nZ×Addr×Vl)=>p.1=q.1/\H q.2.1=some (.tup (p.1.map kV))/\nK p.2 q.2.2) kvs xs/\
   ∃o es ep,h.get? a=some o/\o.ExactDict/\o.data=.dict es ep/\es.toList=xs.map (entryOfKey (tupleKind (nU P w)))/\(xs.map (·.1)).Nodup
 | .set S n=>h.SetOf (intKind P w) a S n
 | .ins C dx fs=>H dx=some (.own a)/\fs.length<=1000/\dx≠a/\h.get? a=some (W.instObj C dx)/\
   ∃mA,h.Ns1 dx mA/\(∀f,tP (fs.lookup f) (mA f))/\PySem.Within mA (fs.map (·.1))
 | .own _=>∃o,h.get? a=some o
 | .xd fs=>∃mA,h.Ns1 a mA/\∀f,tP (fs.lookup f) (mA f)
 | .rng lo hi=>∃t u v,h.get? a=some {cls:=.type "range",data:=.fields #[.int lo t,.int hi u,.int 1 v]}
 | .frz o u=>h.get? a=some o/\oo H h a u
 | .tbl ps=>h.get? a=some {cls:=.none,data:=.fields ps}
 | .met f x=>h.get? a=some (W.methodObj (.ref f) (.ref x))
 | .ext φ=>φ h/\(∃o,h.get? a=some o)/\∀h1 h2:Heap,φ h1->(∀o,h1.get? a=some o->h2.get? a=some o)->φ h2
def tz(H:Hp)(h:Heap):Prop:=∀a o,H a=some o->oo P w H h a o
end
variable {H H':Hp}{h h':Heap}
section
variable {P:Pg}{w:Wo}{a:Addr}{o:HO}
def xO.is{its:Array Vl}(x:xO h a its):IsTup h a its:=let⟨o,e,c,d,_⟩:=x;⟨o,e,c,d⟩
def xO.new(h:Heap)(Mg:Array Vl):xO (h.push {cls:=.type "tuple",data:=.seq Mg}) h.objs.size Mg:=⟨_,bE _ rfl,rfl,⟨_,rfl⟩,rfl⟩
def oo.lt(x:oo P w H h a o):a<h.objs.size:=by
 cases o with
 | lst xs=>obtain⟨_,_,_,_,e⟩:=x;exact bD e
 | tup xs=>obtain⟨_,_,_,_,e,_⟩:=x;exact bD e
 | dK kvs=>obtain⟨_,_,_,_,o,_,_,e,_⟩:=x;exact bD e
 | dT kvs=>obtain⟨_,_,_,_,o,_,_,e,_⟩:=x;exact bD e
 | set S n=>obtain⟨o,_,_,_,e,_⟩:=x;exact bD e
 | ins C dx fs=>obtain⟨_,_,_,e,_⟩:=x;exact bD e
 | own y=>obtain⟨_,e⟩:=x;exact bD e
 | xd fs=>obtain⟨_,⟨_,_,_,e,_⟩,_⟩:=x;exact bD e
 | rng lo hi=>obtain⟨_,_,_,e⟩:=x;exact bD e
 | frz ob u=>obtain⟨e,_⟩:=x;exact bD e
 | tbl ps=>exact bD (show h.get? a=some _ from x)
 | met f y=>exact bD (show h.get? a=some _ from x)
 | ext φ=>obtain⟨_,⟨_,e⟩,_⟩:=x;exact bD e
theorem Paired.mw{α β:Type}{F G:α->β->Prop}:∀{l₁:List α} {l₂:List β},Paired F l₁ l₂->(∀a b,F a b->G a b)->Paired G l₁ l₂
 | _,_,.nil,_=>.nil
 | _,_,.cons r t,f=>.cons (f _ _ r) (Paired.mw t f)
def oo.lT(x:oo P w H h a o)(k:∀b u,(b=a\/H b=some (.own a))->h.get? b=some u->h'.get? b=some u) (ho:∀b,H b=some (.own a)->H' b=some (.own a)) (ht:∀b xs,H b=some (.tup xs)->H' b=some (.tup xs)):oo P w H' h' a o:=by
 induction o with
 | lst xs=>obtain⟨z,its,n,r,e⟩:=x;exact⟨z,its,n,r,k _ _ (.inl rfl) e⟩
 | tup xs=>obtain⟨z,its,r,ob,e,c⟩:=x;exact⟨z,its,r,ob,k _ _ (.inl rfl) e,c⟩
 | dK kvs=>obtain⟨z,y,vs,r,ob,es,ep,e,c⟩:=x;exact⟨z,y,vs,r,ob,es,ep,k _ _ (.inl rfl) e,c⟩
 | dT kvs=>obtain⟨z,y,xs,r,ob,es,ep,e,c⟩:=x;exact⟨z,y,xs,Paired.mw r λp q z=>⟨z.1,ht _ _ z.2.1,z.2.2⟩,ob,es,ep,k _ _ (.inl rfl) e,c⟩
 | set S n=>obtain⟨ob,es,ep,t,e,c⟩:=x;exact⟨ob,es,ep,t,k _ _ (.inl rfl) e,c⟩
 | ins C dx fs=>obtain⟨d,z,ne,e,mA,⟨od,es,ep,e2,c⟩,r⟩:=x;exact⟨ho _ d,z,ne,k _ _ (.inl rfl) e,mA,⟨od,es,ep,k _ _ (.inr d) e2,c⟩,r⟩
 | own y=>obtain⟨ob,e⟩:=x;exact⟨ob,k _ _ (.inl rfl) e⟩
 | xd fs=>obtain⟨mA,⟨od,es,ep,e,c⟩,r⟩:=x;exact⟨mA,⟨od,es,ep,k _ _ (.inl rfl) e,c⟩,r⟩
 | rng lo hi=>obtain⟨t,u,v,e⟩:=x;exact⟨t,u,v,k _ _ (.inl rfl) e⟩
 | frz ob u ih=>obtain⟨e,q⟩:=x;exact⟨k _ _ (.inl rfl) e,ih q⟩
 | tbl ps=>have e:h.get? a=some {cls:=.none,data:=.fields ps}:=x;show h'.get? a=some {cls:=.none,data:=.fields ps};exact k a _ (.inl rfl) e
 | met f y=>have e:h.get? a=some (W.methodObj (.ref f) (.ref y)):=x;show h'.get? a=some (W.methodObj (.ref f) (.ref y));exact k a _ (.inl rfl) e
 | ext φ=>obtain⟨p,⟨o,e⟩,st⟩:=x;exact⟨st _ _ p λo q=>k _ _ (.inl rfl) q,⟨o,k _ _ (.inl rfl) e⟩,st⟩
def tz.lt(x:tz P w H h)(e:H a=some o):a<h.objs.size:=(x a o e).lt
def tz.fresh(x:tz P w H h)(e:h.objs.size<=a):H a=none:=by
 cases q:H a with
 | none=>rfl
 | some u=>exact absurd (bO (x.lt q) e) (cM _)
def tz.kept(x:tz P w H h)(k:∀b u,h.get? b=some u->h'.get? b=some u):tz P w H h':=λa o e=>(x a o e).lT (λb u _ q=>k b u q) (λ_ q=>q) λ_ _ q=>q
def tz.laid(x:tz P w H h)(k:∀b u,h.get? b=some u->h'.get? b=some u)(hp:h.objs.size<=a)(new:oo P w (upd H a o) h' a o):tz P w (upd H a o) h':=λb u e=>by
 have hn:=x.fresh hp;by_cases hb:b=a
 .subst hb;rw[m7]at e;cases e;exact new
 .rw[nh hb]at e;exact(x b u e).lT (λc v _ q=>k c v q) (λc q=>by rw[nh (ny q hn)];exact q) λc xs q=>by rw[nh (ny q hn)];exact q
end
def Rd(H:Hp)(a:Addr)(u:HO):Prop:=H a=some u\/∃o,H a=some (.frz o u)
def Rd.ok{P:Pg}{w:Wo}{H:Hp}{h:Heap}{a:Addr}{u:HO}(r:Rd H a u)(x:tz P w H h):oo P w H h a u:=by
 rcases r with r|⟨o,r⟩
 .exact x a u r
 .obtain⟨_,q⟩:=x a _ r;exact q
def Kp:Option HO->Prop
 | some (.lst _)=>True
 | some (.dK _)=>True
 | some (.dT _)=>True
 | some (.set _ _)=>True
 | some (.ins _ _ _)=>True
 | some (.ext _)=>True
 | _=>False
variable {o':HO}
section
variable {P:Pg}{w:Wo}{x e:Addr}
def tz.write(ok:tz P w H h)(mu:Kp (H x))(he:e=x\/H e=some (.own x))(k:∀b u,b≠e->h.get? b=some u->h'.get? b=some u)(heo:∃u,h'.get? e=some u) (new:oo P w (upd H x o') h' x o'):tz P w (upd H x o') h':=λb u q=>by
 have nown:∀c y,H c=some (.own y)->c≠x:=λc y r z=>by subst z;rw[r]at mu;exact mu
 have ntup:∀c xs,H c=some (.tup xs)->c≠x:=λc xs r z=>by subst z;rw[r]at mu;exact mu
 by_cases hb:b=x
 .subst hb;rw[m7]at q;cases q;exact new
 .rw[nh hb]at q;by_cases hbe:b=e
  .have q':H b=some (.own x):=by
    rcases he with z|z
    .exact absurd (hbe.trans z) hb
    .rw[hbe];exact z
   rw[q]at q';cases q';obtain⟨v,hv⟩:=heo;exact⟨v,by rw[hbe];exact hv⟩
  .refine(ok b u q).lT (λc v hc r=>k c v ?_ r) (λc r=>by rw[nh (nown c b r)];exact r) λc xs r=>by rw[nh (ntup c xs r)];exact r
   rcases hc with rfl|hc
   .exact hbe
   .rintro rfl
    rcases he with z|z
    .exact nown c b hc z
    .rw[hc]at z;cases z;exact hb rfl
end
structure Un(fs ex:QXQ)(H H':Hp)(h h':Heap):Prop where
 keep:∀b o,h.get? b=some o->H b=none->b∉fs->b∉ex->h'.get? b=some o
 slot:∀b o,h.get? b=some o->H b=none->b∈fs->b∉ex->∃sl,h'.get? b=some {o with slots:=sl}
 free:∀b o,h.get? b=some o->H b=none->b∉ex->H' b=none
 there:∀b o,h.get? b=some o->b∉ex->∃o',h'.get? b=some o'
 lW:∀b xs,H b=some (.tup xs)->H' b=some (.tup xs)
 lU:∀b o u,H b=some (.frz o u)->H' b=some (.frz o u)
 lY:∀b ps,H b=some (.tbl ps)->∃more,H' b=some (.tbl (ps++more))
variable {ex ex':QXQ}{H1 H2:Hp}{h1 h2:Heap}
section
variable {fs fs':QXQ}{a x e:Addr}{o:HO}
def Un.any(u:Un fs ex H H1 h h1){b:Addr}{ob:Obj}(q:h.get? b=some ob)(n:H b=none)(hx:b∉ex):∃sl,h1.get? b=some {ob with slots:=sl}:=by
 by_cases hb:b∈fs
 .exact u.slot b ob q n hb hx
 .exact⟨ob.slots,u.keep b ob q n hb hx⟩
def Un.trans(a:Un fs ex H H1 h h1)(b:Un fs ex H1 H2 h1 h2):Un fs ex H H2 h h2 where
 keep:=λc ob q n hc hx=>b.keep c ob (a.keep c ob q n hc hx) (a.free c ob q n hx) hc hx
 slot:=λc ob q n hc hx=>by obtain⟨sl,e1⟩:=a.slot c ob q n hc hx;obtain⟨sl',e2⟩:=b.slot c _ e1 (a.free c ob q n hx) hc hx;exact⟨sl',e2⟩
 free:=λc ob q n hx=>by obtain⟨o',e1⟩:=a.there c ob q hx;exact b.free c o' e1 (a.free c ob q n hx) hx
 there:=λc ob q hx=>by obtain⟨o',e1⟩:=a.there c ob q hx;exact b.there c o' e1 hx
 lW:=λc xs q=>b.lW c xs (a.lW c xs q)
 lU:=λc ob xs q=>b.lU c ob xs (a.lU c ob xs q)
 lY:=λc ps q=>by obtain⟨m1,e1⟩:=a.lY c ps q;obtain⟨m2,e2⟩:=b.lY c _ e1;exact⟨m1++m2,by rw[e2,jH]⟩
def Un.kept(k:∀b u,h.get? b=some u->h'.get? b=some u):Un fs ex H H h h':=
 ⟨λb ob q _ _ _=>k b ob q,λb ob q _ _ _=>⟨ob.slots,k b ob q⟩,λ_ _ _ n _=>n,λb ob q _=>⟨ob,k b ob q⟩,λ_ _ q=>q,λ_ _ _ q=>q,λ_ ps q=>⟨#[],by rw[q];simp⟩⟩
def Un.refl:Un fs ex H H h h:=Un.kept λ_ _ q=>q
def Un.laid(k:∀b u,h.get? b=some u->h'.get? b=some u)(hp:h.objs.size<=a)(hn:H a=none):Un fs ex H (upd H a o) h h' where
 keep:=λb u q _ _ _=>k b u q
 slot:=λb u q _ _ _=>⟨u.slots,k b u q⟩
 free:=λb u q n _=>by rw[nh (bH (bO (bD q) hp))];exact n
 there:=λb u q _=>⟨u,k b u q⟩
 lW:=λb xs q=>by rw[nh (ny q hn)];exact q
 lU:=λb u xs q=>by rw[nh (ny q hn)];exact q
 lY:=λb ps q=>⟨#[],by rw[nh (ny q hn),q];simp⟩
def Un.write(mu:Kp (H x))(he:e=x\/H e=some (.own x))(k:∀b u,b≠e->h.get? b=some u->h'.get? b=some u)(heo:∃u,h'.get? e=some u):Un fs ex H (upd H x o) h h':=by
 have hx:∀b,H b=none->b≠x:=λb n z=>by subst z;rw[n]at mu;exact mu
 have hb:∀b,H b=none->b≠e:=λb n z=>by
  subst z;rcases he with r|r
  .exact hx b n r
  .rw[n]at r;cases r
 have hm:∀b u,H b=some u->¬Kp (some u)->b≠x:=λb u q nm z=>by subst z;rw[q]at mu;exact nm mu
 refine⟨λb u q n _ _=>k b u (hb b n) q,λb u q n _ _=>⟨u.slots,k b u (hb b n) q⟩,λb u q n _=>by rw[nh (hx b n)];exact n,λb u q _=>?_,λb xs q=>by rw[nh (hm b _ q λz=>z)];exact q,λb u xs q=>by rw[nh (hm b _ q λz=>z)];exact q,λb ps q=>⟨#[],by rw[nh (hm b _ q λz=>z),q];simp⟩⟩
 by_cases hbe:b=e
 .subst hbe;exact heo
 .exact⟨u,k b u hbe q⟩
end
noncomputable def Ku(h:Heap)(H:Hp):QXQ:=(List.range h.objs.size).filter λa=>(H a).isSome
noncomputable def yu(h:Heap)(H:Hp):Heap:=W.hideAll h (Ku h H)
def CP(h:Heap)(H:Hp):(yu h H).objs.size=h.objs.size:=W.hideAll_size _ _
def C0{h:Heap}{H:Hp}{b:Addr}{o:Obj}(e:h.get? b=some o)(n:H b=none):(yu h H).get? b=some o:=
 W.hideAll_get _ e λhm=>by have q:(H b).isSome=true:=(eZ.mp hm).2;rw[n]at q;simp at q
def Ge{h:Heap}{H:Hp}{b:Addr}{o:Obj}(e:(yu h H).get? b=some o):h.get? b=some o/\H b=none:=by
 have e':h.get? b=some o:=W.of_hideAll (Ku h H) e;refine⟨e',?_⟩;cases q:H b with
 | none=>rfl
 | some x=>have hm:b∈Ku h H:=eZ.mpr ⟨dA.mpr (bD e'),by simp[q]⟩;have z:(yu h H).get? b=none:=W.hideAll_none (Ku h H) hm;rw[z]at e;cases e
structure Mod(K:m9)(mg:QQZ)(base:Heap):Prop where
 ml:K.In base
 glob:base.Ns mainGlobals mg
 blt:∃mb,base.Ns builtinsNs mb/\∀x:Str,x≠"__name__"->mb x=bootBuiltins x
 nolimit:base.NoLimit
structure Cx where
 prog:Pg
 w:Wo
 K:m9
 mg:QQZ
 base:Heap
 A:Ar
 N:QQQ
 s₀:Sd
 H₀:Hp
 env:Env
 outer:List Env
 stack:List Env
 ex:QXQ
 fn:Str->Bool
 calm:Bool
 pn:QQY
 xe:QQX
abbrev xG(X:Cx)(e:Expr)(es:T0 Expr):Prop:=starEach (e::es) X.env=(false,eval e X.env)::starEach es X.env
abbrev yL(X:Cx)(p:Pos)(es:T0 Expr):Prop:=(backTo p (starEach es X.env)).any (·.1)=false
abbrev va(x:Str):Prop:=(x==("__debug__":Str))=false
abbrev De(X:Cx)(x:Str):Prop:=X.fn x=true\/X.env.scope.names.lookup x=some .local
noncomputable def D5(l:T0 Env):QXQ:=l.filterMap (·.frame)
abbrev Cx.fs(X:Cx):QXQ:=D5 X.outer
def Km(sc:Scope)(x:Str):Prop:=sc.names.lookup x=some .local\/sc.names.lookup x=some .cell\/sc.names.lookup x=some .free
def EH(sc:Scope)(x:Str):Prop:=sc.names.lookup x=some .local\/sc.names.lookup x=some .cell
def Lq(env:Env)(h:Heap)(m:QQZ)(x:Str)(u:Vl):Prop:=
 (env.kindOf x=some .local/\m x=some u)\/((env.kindOf x=some .cell\/env.kindOf x=some .free)/\∃c,env.cells.lookup x=some c/\h.IsCell c (some u))
structure Cx.Ok(X:Cx):Prop where
 mod:Mod X.K X.mg X.base
 kind:X.env.scope.kind=.function
 glob:X.env.globals=mainGlobals
 blt:X.env.builtins=builtinsNs
 above:X.s₀.heap.objs.size<=X.env.locals
 inj:∀x y c,X.env.cells.lookup x=some c->X.env.cells.lookup y=some c->x=y
 has:∀x,(X.env.kindOf x=some .cell\/X.env.kindOf x=some .free)->∃c,X.env.cells.lookup x=some c
 mC:∀x c,X.fn x=true->X.env.cells.lookup x=some c->X.s₀.heap.objs.size<=c
 hd:X.calm=true->X.A.handled=none
 frames:X.A.frames=some X.stack
 stk:X.stack=X.outer\/(X.stack=X.env::X.outer/\X.env.frame=some X.env.locals)
 exf:∀b∈X.ex,b≠X.env.locals/\∀x c,X.env.cells.lookup x=some c->c≠b
 bs:∀b o,X.base.get? b=some o->X.s₀.heap.get? b=some o/\X.H₀ b=none
 md:X.base.objs.size<=X.s₀.heap.objs.size
 l6:∀b o,X.base.get? b=some o->b∉X.ex
 mi:∀b∈X.ex,b∉X.fs
 lO:X.s₀.heap.FunFrames X.base X.outer
 mo:∀b∈X.fs,X.H₀ b=none
structure Inv(X:Cx)(Mf:QQY)(Y:List (Option V))(H:Hp)(s:Sd):Prop where
 ok:X.Ok
 os:s.os=X.s₀.os
 bare:AllBare s.gens
 base:Un X.fs X.ex X.H₀ H X.s₀.heap s.heap
 loc:∃m,s.heap.Ns X.env.locals m/\∀(i:Nat) (x:Str) (v:V),X.N[i]?=some x->Y[i]?=some (some v)->Km X.env.scope x->∃u,nK v u/\Lq X.env s.heap m x u
 cell:∀x c,X.env.cells.lookup x=some c->∃v,s.heap.IsCell c v
 free:H X.env.locals=none
 lK:∀x c,X.env.cells.lookup x=some c->H c=none
 pin:∀p∈X.pn++Mf,s.heap.get? p.1=some p.2/\H p.1=none/\p.1≠X.env.locals/\p.1∉X.fs/\∀v,p.2.data≠.cell v
 lC:tz X.prog X.w H s.heap
 len:Y.length=X.N.length
variable {X:Cx}{Mf:T0 (Addr × Obj)}{s:Sd}
section
variable {Y:T0 (Option V)}
def Cx.Ok.nofr(ok:X.Ok){b:Addr}{o:Obj}(e:X.base.get? b=some o):b∉X.fs:=λhb=>by have:=(ok.lO.mem hb).1;rw[e]at this;cases this
def Inv.bs(I:Inv X Mf Y H s):∀b o,X.base.get? b=some o->s.heap.get? b=some o/\H b=none:=λb o e=>⟨I.base.keep b o (I.ok.bs b o e).1 (I.ok.bs b o e).2 (I.ok.nofr e) (I.ok.l6 b o e),I.base.free b o (I.ok.bs b o e).1 (I.ok.bs b o e).2 (I.ok.l6 b o e)⟩
def Inv.bk(I:Inv X Mf Y H s):∀b o,X.base.get? b=some o->s.heap.get? b=some o:=λb o e=>(I.bs b o e).1
def Inv.mod(I:Inv X Mf Y H s):Mod X.K X.mg X.base:=I.ok.mod
def Inv.lJ(I:Inv X Mf Y H s):X.K.In s.heap:=I.ok.mod.ml.keeps I.bk
def Inv.lt(I:Inv X Mf Y H s):X.env.locals<s.heap.objs.size:=let⟨_,hn,_⟩:=I.loc;hn.lt
def Inv.sz(I:Inv X Mf Y H s):X.s₀.heap.objs.size<=s.heap.objs.size:=bQ I.ok.above (fT I.lt)
def Inv.mz(I:Inv X Mf Y H s){a:Addr}(h:s.heap.objs.size<=a):a∉X.fs:=λhb=>by obtain⟨_,o,ho,_⟩:=I.ok.lO.mem hb;exact absurd (bO (bD ho) (bQ I.sz h)) (cM _)
def Inv.mD(I:Inv X Mf Y H s):∀x c,X.env.cells.lookup x=some c->c≠X.env.locals:=λx c e z=>by obtain⟨v,o,ho,hd⟩:=I.cell x c e;obtain⟨m,⟨o',es,ep,NL,hd',_⟩,_⟩:=I.loc;rw[z,NL]at ho;cases ho;rw[hd']at hd;cases hd
def Inv.lO(I:Inv X Mf Y H s):s.heap.FunFrames X.base X.outer:=by
 have all:∀(l:T0 Env),(∀b∈D5 l,b∈X.fs)->X.s₀.heap.FunFrames X.base l->s.heap.FunFrames X.base l:=by
  intro l;induction l with
  | nil=>intro _ _;trivial
  | cons env r ih=>intro hs hl;obtain⟨hk,⟨L,o,hf,hn,ho,hd⟩,hr⟩:=hl;have hL:L∈X.fs:=hs L (by unfold D5;rw[eV,hf];exact bG);obtain⟨sl,e⟩:=I.base.slot L o ho (I.ok.mo L hL) hL λz=>I.ok.mi L z hL;exact⟨hk,⟨L,_,hf,hn,e,hd⟩,ih (λb hb=>hs b (by unfold D5;rw[eV,hf];exact bK _ hb)) hr⟩
 exact all X.outer (λ_ hb=>hb) I.ok.lO
def Inv.stack(I:Inv X Mf Y H s):s.heap.FunFrames X.base X.stack:=by
 rcases I.ok.stk with e|⟨e,hf⟩
 .rw[e];exact I.lO
 .rw[e];obtain⟨m,hn,_⟩:=I.loc;refine .cons (by rw[I.ok.kind];decide) hf hn ?_ I.lO;exact Heap.get?_none_of_le (bQ I.ok.md I.ok.above)
def Inv.lL(I:Inv X Mf Y H s):∀b∈D5 X.stack,b∈X.env.locals::X.fs:=λb hb=>by
 rcases I.ok.stk with e|⟨e,hf⟩
 .rw[e]at hb;exact bK _ hb
 .rw[e]at hb;unfold D5 at hb;rw[eV,hf]at hb;exact hb
def Inv.l4(I:Inv X Mf Y H s):∀b∈D5 X.stack,H b=none:=λb hb=>by
 rcases br.mp (I.lL b hb)with e|hb
 .rw[e];exact I.free
 .obtain⟨_,o,ho,_⟩:=I.ok.lO.mem hb;exact I.base.free b o ho (I.ok.mo b hb) λz=>I.ok.mi b z hb
def Inv.step{g':Array GenState}{t':Nat}{d':Drawn}{ch:QXQ}(I:Inv X Mf Y H s) (Ni:∀b∈ch,(b∈X.ex\/X.s₀.heap.objs.size<=b)/\b≠X.env.locals/\(∀x c,X.env.cells.lookup x=some c->c≠b)/\∀p∈X.pn++Mf,p.1≠b) (keep:∀b o,b≠X.env.locals->b∉X.fs->b∉ch->s.heap.get? b=some o->H b=none->h'.get? b=some o) (slot:∀b o,b≠X.env.locals->b∈X.fs->b∉ch->s.heap.get? b=some o->H b=none->∃sl,h'.get? b=some {o with slots:=sl}) (free:∀b o,b∉ch->s.heap.get? b=some o->H b=none->H' b=none)
  (there:∀b o,b∉ch->s.heap.get? b=some o->∃o',h'.get? b=some o')
  (lW:∀b xs,H b=some (.tup xs)->H' b=some (.tup xs)) (lU:∀b o u,H b=some (.frz o u)->H' b=some (.frz o u)) (lY:∀b ps,H b=some (.tbl ps)->∃more,H' b=some (.tbl (ps++more)))
  (ns:∀m,s.heap.Ns X.env.locals m->h'.Ns X.env.locals m) (lC:tz X.prog X.w H' h') (hg:AllBare g'):
  Inv X Mf Y H' {s with heap:=h',gens:=g',drawn:=d',toks:=t'}:=by
 have neL:∀b o,X.s₀.heap.get? b=some o->b≠X.env.locals:=λb o e=>bH (bO (bD e) I.ok.above);have neC:∀b o,X.s₀.heap.get? b=some o->b∉X.ex->b∉ch:=λb o e hx hb=>by
  rcases(Ni b hb).1 with z|z
  .exact hx z
  .exact absurd (bO (bD e) z) (cM _)
 have OG:∀x c,X.env.cells.lookup x=some c->∀v,s.heap.IsCell c v->h'.IsCell c v:=λx c e v ⟨o,ho,hd⟩=>by
  have nch:c∉ch:=λz=>(Ni c z).2.2.1 x c e rfl;by_cases hc:c∈X.fs
  .obtain⟨sl,q⟩:=slot c o (I.mD x c e) hc nch ho (I.lK x c e);exact⟨_,q,hd⟩
  .exact⟨o,keep c o (I.mD x c e) hc nch ho (I.lK x c e),hd⟩
 refine⟨I.ok,I.os,hg,⟨λb o e n hb hx=>?_,λb o e n hb hx=>?_,λb o e n hx=>?_,λb o e hx=>?_,λb xs e=>lW b xs (I.base.lW b xs e),λb o xs e=>lU b o xs (I.base.lU b o xs e),λb ps e=>?_⟩,?_,λx c e=>?_,?_,λx c e=>?_,λp hp=>?_,lC,I.len⟩
 .exact keep b o (neL b o e) hb (neC b o e hx) (I.base.keep b o e n hb hx) (I.base.free b o e n hx)
 .obtain⟨sl,e1⟩:=I.base.slot b o e n hb hx;obtain⟨sl',e2⟩:=slot b _ (neL b o e) hb (neC b o e hx) e1 (I.base.free b o e n hx);exact⟨sl',e2⟩
 .obtain⟨o',e1⟩:=I.base.there b o e hx;exact free b o' (neC b o e hx) e1 (I.base.free b o e n hx)
 .obtain⟨o',e1⟩:=I.base.there b o e hx;exact there b o' (neC b o e hx) e1
 .obtain⟨m1,e1⟩:=I.base.lY b ps e;obtain⟨m2,e2⟩:=lY b _ e1;exact⟨m1++m2,by rw[e2,jH]⟩
 .obtain⟨m,hn,hl⟩:=I.loc;refine⟨m,ns m hn,λi x v e1 e2 e3=>?_⟩;obtain⟨u,r,l⟩:=hl i x v e1 e2 e3;refine⟨u,r,?_⟩;rcases l with l|⟨k,c,e,z⟩
  .exact .inl l
  .exact .inr ⟨k,c,e,OG x c e _ z⟩
 .obtain⟨v,z⟩:=I.cell x c e;exact⟨v,OG x c e v z⟩
 .obtain⟨m,⟨o,_,_,ho,_⟩,_⟩:=I.loc;exact free _ o (λz=>(Ni _ z).2.1 rfl) ho I.free
 .obtain⟨v,o,ho,hd⟩:=I.cell x c e;exact free c o (λz=>(Ni c z).2.2.1 x c e rfl) ho (I.lK x c e)
 .obtain⟨e,n,ne,nf,d⟩:=I.pin p hp;have nch:p.1∉ch:=λz=>(Ni p.1 z).2.2.2 p hp rfl;exact⟨keep p.1 p.2 ne nf nch e n,free p.1 p.2 nch e n,ne,nf,d⟩
def Inv.un{t':Nat}(I:Inv X Mf Y H s)(u:Un X.fs [] H H' s.heap h')(lC:tz X.prog X.w H' h'):Inv X Mf Y H' {s with heap:=h',toks:=t'}:=by
 obtain⟨m,⟨o,es,ep,ho,r⟩,_⟩:=id I.loc;obtain⟨sl,hL⟩:=u.any ho I.free (by simp);exact I.step (g':=s.gens) (d':=s.drawn) (ch:=[]) (λ_ z=>nomatch z) (λb o _ hb _ e n=>u.keep b o e n hb (by simp)) (λb o _ hb _ e n=>u.slot b o e n hb (by simp)) (λb o _ e n=>u.free b o e n (by simp)) (λb o _ e=>u.there b o e (by simp)) u.lW u.lU u.lY (λm' hm=>by
  obtain⟨o',MW,OH,NL,r'⟩:=hm;rw[ho]at NL;cases NL;exact⟨_,MW,OH,hL,r'⟩) lC I.bare
def Inv.call{g':Array GenState}{t':Nat}{d':Drawn}{ch:QXQ}(I:Inv X Mf Y H s)(u:Un (D5 X.stack) ch H H' s.heap h')(lC:tz X.prog X.w H' h')(hg:AllBare g') (Ni:∀b∈ch,(b∈X.ex\/X.s₀.heap.objs.size<=b)/\b≠X.env.locals/\(∀x c,X.env.cells.lookup x=some c->c≠b)/\∀p∈X.pn++Mf,p.1≠b):
  Inv X Mf Y H' {s with heap:=h',gens:=g',drawn:=d',toks:=t'}:=by
 obtain⟨m,⟨o,es,ep,ho,r⟩,_⟩:=id I.loc;obtain⟨sl,hL⟩:=u.any ho I.free λz=>(Ni _ z).2.1 rfl;exact I.step (ch:=ch) Ni (λb o hL hb hc e n=>u.keep b o e n (λz=>(br.mp (I.lL b z)).elim hL hb) hc) (λb o _ _ hc e n=>u.any e n hc) (λb o hc e n=>u.free b o e n hc) (λb o hc e=>u.there b o e hc) u.lW u.lU u.lY (λm' hm=>by
  obtain⟨o',MW,OH,NL,r'⟩:=hm;rw[ho]at NL;cases NL;exact⟨_,MW,OH,hL,r'⟩) lC hg
def Inv.turned{t':Nat}{it:Addr}(I:Inv X Mf Y H s)(k:∀b o,b≠it->s.heap.get? b=some o->h'.get? b=some o)(hn:H it=none)(hL:it≠X.env.locals) (h1:it∈X.ex\/X.s₀.heap.objs.size<=it) (h2:∀x c,X.env.cells.lookup x=some c->c≠it) (h3:∀p∈X.pn++Mf,p.1≠it):Inv X Mf Y H {s with heap:=h',toks:=t'}:=by
 have nit:∀b u,H b=some u->b≠it:=λb u e z=>by rw[z,hn]at e;cases e
 refine I.step (g':=s.gens) (d':=s.drawn) (ch:=[it]) (λb hb=>?_) (λb o _ _ hc e _=>k b o (λz=>hc (by simp[z])) e) (λb o _ _ hc e _=>⟨o.slots,k b o (λz=>hc (by simp[z])) e⟩) (λ_ _ _ _ n=>n)
  (λb o hc e=>⟨o,k b o (λz=>hc (by simp[z])) e⟩) (λ_ _ e=>e) (λ_ _ _ e=>e) (λb ps e=>⟨#[],by rw[e];simp⟩) (λm hm=>?_) (λb u e=>?_) I.bare
 .have e:b=it:=by simpa using hb
  subst e;exact⟨h1,hL,h2,h3⟩
 .obtain⟨o,es,ep,ho,r⟩:=hm;exact⟨o,es,ep,k _ o (bR hL) ho,r⟩
 .refine(I.lC b u e).lT (λc v hc q=>k c v ?_ q) (λ_ q=>q) λ_ _ q=>q;rcases hc with z|z
  .rw[z];exact nit b u e
  .exact nit c _ z
def Inv.tok(I:Inv X Mf Y H s)(t:Nat):Inv X Mf Y H {s with toks:=t}:=I.un (h':=s.heap) (t':=t) Un.refl I.lC
def Inv.kept{t':Nat}(I:Inv X Mf Y H s)(k:∀b u,s.heap.get? b=some u->h'.get? b=some u):Inv X Mf Y H {s with heap:=h',toks:=t'}:=I.un (Un.kept k) (I.lC.kept k)
def Inv.laid{a:Addr}{o:HO}{t':Nat}(I:Inv X Mf Y H s)(k:∀b u,s.heap.get? b=some u->h'.get? b=some u)(hp:s.heap.objs.size<=a)(new:oo X.prog X.w (upd H a o) h' a o):
  Inv X Mf Y (upd H a o) {s with heap:=h',toks:=t'}:=I.un (Un.laid k hp (I.lC.fresh hp)) (I.lC.laid k hp new)
def Inv.write{x e:Addr}{o:HO}{t':Nat}(I:Inv X Mf Y H s)(mu:Kp (H x))(he:e=x\/H e=some (.own x))(k:∀b u,b≠e->s.heap.get? b=some u->h'.get? b=some u)(heo:∃u,h'.get? e=some u) (new:oo X.prog X.w (upd H x o) h' x o):Inv X Mf Y (upd H x o) {s with heap:=h',toks:=t'}:=I.un (Un.write mu he k heo) (I.lC.write mu he k heo new)
def Inv.lR{Nj:QQY}(I:Inv X Mf Y H s)(h:∀p∈Nj,s.heap.get? p.1=some p.2/\H p.1=none/\p.1≠X.env.locals/\p.1∉X.fs/\∀v,p.2.data≠.cell v):Inv X Nj Y H s:=
 ⟨I.ok,I.os,I.bare,I.base,I.loc,I.cell,I.free,I.lK,λp hp=>(bS.mp hp).elim (λz=>I.pin p (fF _ z)) (h p),I.lC,I.len⟩
def zI{N:QQQ}(hN:N.Nodup){i j:Nat}{x:Str}(a:N[i]?=some x)(b:N[j]?=some x):i=j:=by obtain⟨h1,e1⟩:=bL.mp a;obtain⟨h2,e2⟩:=bL.mp b;exact(List.getElem_inj hN).mp (e1.trans e2.symm)
def wR{M:Model}{A:Ar}{E:QQX}{i:Nat}{x:Str}{v:V}{u:Vl}{Q:Unit->Sd->Prop}(I:Inv X Mf Y H s)(hN:X.N.Nodup)(hi:X.N[i]?=some x)(hx:EH X.env.scope x)(r:nK v u) (h:∀s',Inv X Mf (Y.set i (some v)) H s'->(∃a,Heap.SameBut a s.heap s'.heap/\(a=X.env.locals\/X.env.cells.lookup x=some a))->Q () s') (hf:De X x:=by first|exact .inl rfl|exact .inr rfl|assumption):wpAny M A (storeName X.env x u) Q E s:=by
 obtain⟨m,hn,hl⟩:=id I.loc;have hcls:(X.env.scope.kind==.class||(X.env.scope.kind==.module&&X.env.locals != X.env.globals))=false:=by rw[I.ok.kind];rfl
 have hiσ:i<Y.length:=by rw[I.len];exact(bL.mp hi).1
 have mD:=I.mD;have ND:∀{a:Addr} {h':Heap},(∃o,s.heap.get? a=some o/\H a=none)->Heap.SameBut a s.heap h'->tz X.prog X.w H h':=λ{a h'} ha hs b ob e=>by
  obtain⟨_,_,OI⟩:=ha;refine(I.lC b ob e).lT (λc w' hc q=>(hs.2 c ?_).trans q) (λ_ q=>q) λ_ _ q=>q
  rintro rfl
  rcases hc with rfl|hc
  .rw[OI]at e;cases e
  .rw[OI]at hc;cases hc
 rcases hx with hk|hk
 .refine wpAny_storeName_local hk hn (λh' OS hs=>?_) hcls;obtain⟨oL,_,_,OJ,_⟩:=id hn;refine h _ ⟨I.ok,I.os,I.bare,⟨λb o e n hb hx=>?_,λb o e n hb hx=>?_,I.base.free,λb o e hx=>?_,I.base.lW,I.base.lU,I.base.lY⟩,⟨_,OS,λj y v' e1 e2 e3=>?_⟩,λy c e=>?_,I.free,I.lK,λp hp=>?_,ND ⟨oL,OJ,I.free⟩ hs,by simpa using I.len⟩ ⟨_,hs,.inl rfl⟩
  .exact(hs.2 b (bH (bO (bD e) I.ok.above))).trans (I.base.keep b o e n hb hx)
  .obtain⟨sl,e1⟩:=I.base.slot b o e n hb hx;exact⟨sl,(hs.2 b (bH (bO (bD e) I.ok.above))).trans e1⟩
  .obtain⟨o',e1⟩:=I.base.there b o e hx;exact⟨o',(hs.2 b (bH (bO (bD e) I.ok.above))).trans e1⟩
  .by_cases hj:j=i
   .subst hj;rw[hi]at e1;cases e1;rw[fk hiσ]at e2;cases e2;exact⟨u,r,.inl ⟨hk,by simp⟩⟩
   .rw[gJ (bR hj)]at e2;obtain⟨u',r',q⟩:=hl j y v' e1 e2 e3;refine⟨u',r',?_⟩;rcases q with⟨k,e⟩|⟨k,c,e,z⟩
    .refine .inl ⟨k,?_⟩;have:y≠x:=λe=>hj (zI hN e1 (e ▸ hi));simp[this,e]
    .exact .inr ⟨k,c,e,z.sameBut hs (mD y c e)⟩
  .obtain⟨w',z⟩:=I.cell y c e;exact⟨w',z.sameBut hs (mD y c e)⟩
  .obtain⟨e,n,ne,nf,d⟩:=I.pin p hp;exact⟨(hs.2 p.1 ne).trans e,n,ne,nf,d⟩
 .have hfn:X.fn x=true:=by
   rcases hf with z|z
   .exact z
   .rw[z]at hk;cases hk
  obtain⟨c,hc⟩:=I.ok.has x (.inl hk);obtain⟨w',z⟩:=I.cell x c hc;refine wpAny_storeName_cell I.ok.kind hk hc z (λh' hc' hs=>?_);obtain⟨oc,hoc,hocd⟩:=id z;refine h {s with heap:=h'} ⟨I.ok,I.os,I.bare,⟨λb o e n hb hx=>?_,λb o e n hb hx=>?_,I.base.free,λb o e hx=>?_,I.base.lW,I.base.lU,I.base.lY⟩,⟨m,hn.sameBut hs (bR (mD x c hc)),λj y v' e1 e2 e3=>?_⟩,λy c' e=>?_,I.free,I.lK,λp hp=>?_,ND ⟨oc,hoc,I.lK x c hc⟩ hs,by simpa using I.len⟩ ⟨c,hs,.inr hc⟩
  .exact(hs.2 b (bH (bO (bD e) (I.ok.mC x c hfn hc)))).trans (I.base.keep b o e n hb hx)
  .obtain⟨sl,e1⟩:=I.base.slot b o e n hb hx;exact⟨sl,(hs.2 b (bH (bO (bD e) (I.ok.mC x c hfn hc)))).trans e1⟩
  .obtain⟨o',e1⟩:=I.base.there b o e hx;exact⟨o',(hs.2 b (bH (bO (bD e) (I.ok.mC x c hfn hc)))).trans e1⟩
  .by_cases hj:j=i
   .subst hj;rw[hi]at e1;cases e1;rw[fk hiσ]at e2;cases e2;exact⟨u,r,.inr ⟨.inl hk,c,hc,hc'⟩⟩
   .rw[gJ (bR hj)]at e2;obtain⟨u',r',q⟩:=hl j y v' e1 e2 e3;refine⟨u',r',?_⟩;rcases q with q|⟨k,c',e,z'⟩
    .exact .inl q
    .refine .inr ⟨k,c',e,z'.sameBut hs ?_⟩
     rintro rfl
     exact hj (zI hN e1 (I.ok.inj _ _ _ e hc ▸ hi))
  .by_cases hcc:c'=c
   .subst hcc;exact⟨_,hc'⟩
   .obtain⟨w2,z2⟩:=I.cell y c' e;exact⟨w2,z2.sameBut hs hcc⟩
  .obtain⟨e,n,ne,nf,d⟩:=I.pin p hp;refine⟨(hs.2 p.1 ?_).trans e,n,ne,nf,d⟩;intro q;rw[q,hoc]at e;have q':oc=p.2:=bJ e;exact d w' (by rw[<-q'];exact hocd)
def yP{M:Model}{A:Ar}{E:QQX}{i:Nat}{x:Str}{v:V}{u:Vl}{Q:Unit->Sd->Prop}(I:Inv X Mf Y H s)(hN:X.N.Nodup)(hi:X.N[i]?=some x)(hx:EH X.env.scope x)(r:nK v u) (h:∀s',Inv X Mf (Y.set i (some v)) H s'->Q () s') (hf:De X x:=by first|exact .inl rfl|exact .inr rfl|assumption):wpAny M A (storeName X.env x u) Q E s:=
 wR I hN hi hx r (λs' I' _=>h s' I') hf
def Inv.mn{s':Sd}{ch:QXQ}(I:Inv X Mf Y H s)(ho:s'.os=s.os)(u:Un (D5 X.stack) ch H H' s.heap s'.heap)(lC:tz X.prog X.w H' s'.heap)(hg:AllBare s'.gens) (Ni:∀b∈ch,(b∈X.ex\/X.s₀.heap.objs.size<=b)/\b≠X.env.locals/\(∀x c,X.env.cells.lookup x=some c->c≠b)/\∀p∈X.pn++Mf,p.1≠b):Inv X Mf Y H' s':=by
 obtain⟨h',g',d',t',o'⟩:=s';have e:o'=s.os:=ho;subst e;exact I.call (g':=g') (t':=t') (d':=d') u lC hg Ni
end
abbrev XK:=Vl->Option Addr->Hp->Prop
abbrev St:=T0 (Option V)
abbrev VK:=V->Hp->Prop
abbrev TE:=St->Hp->VK->Prop
abbrev TT:=St->Hp->(Bool->Hp->Prop)->Prop
abbrev TA:=St->Hp->(T0 V->Hp->Prop)->Prop
structure Em where
 nx:St->Hp->Prop
 rt:VK
 bk:St->Hp->Prop:=λ_ _=>False
 ct:St->Hp->Prop:=λ_ _=>False
abbrev TS:=Em->St->Hp->Prop
def EP(X:Cx)(Mf:QQY)(Y:St)(Q:VK)(u:Vl)(s':Sd):Prop:=∃v H',Inv X Mf Y H' s'/\nK v u/\Q v H'
def TP(X:Cx)(Mf:QQY)(Y:St)(Q:Bool->Hp->Prop)(b:Bool)(s':Sd):Prop:=∃H',Inv X Mf Y H' s'/\Q b H'
def AP(X:Cx)(Mf:QQY)(Y:St)(Q:T0 V->Hp->Prop)(us:T0 Vl)(s':Sd):Prop:=∃vs H',Inv X Mf Y H' s'/\nv vs us/\Q vs H'
def SP(X:Cx)(Mf:QQY)(D:Em)(f:Flow)(s':Sd):Prop:=
 match f with
 | .next=>∃σ' H',Inv X Mf σ' H' s'/\D.nx σ' H'
 | .brk=>∃σ' H',Inv X Mf σ' H' s'/\D.bk σ' H'
 | .cont=>∃σ' H',Inv X Mf σ' H' s'/\D.ct σ' H'
 | .ret u=>∃v σ' H',Inv X Mf σ' H' s'/\nK v u/\D.rt v H'
def PE(X:Cx)(e:Expr)(t:TE):Prop:=
 ∀(Mf:QQY) (s:Sd) (Y:St) (H:Hp) (Q:VK),Inv X Mf Y H s->t Y H Q->wpAny (model X.prog X.w) X.A (eval e X.env) (EP X Mf Y Q) X.xe s
def PT(X:Cx)(e:Expr)(t:TT):Prop:=
 ∀(Mf:QQY) (s:Sd) (Y:St) (H:Hp) (Q:Bool->Hp->Prop),Inv X Mf Y H s->t Y H Q->wpAny (model X.prog X.w) X.A (isTrue e X.env (eval e X.env)) (TP X Mf Y Q) X.xe s
def PW(X:Cx)(e:Expr)(t:TT):Prop:=
 ∀(MF:Sem Vl) (Mf:QQY) (s:Sd) (Y:St) (H:Hp) (Q:Bool->Hp->Prop),Inv X Mf Y H s->t Y H Q->wpAny (model X.prog X.w) X.A (isTrue e X.env MF) (TP X Mf Y Q) X.xe s
def PW.pt{X:Cx}{e:Expr}{t:TT}(h:PW X e t):PT X e t:=h _
def PA(X:Cx)(es:T0 Expr)(t:TA):Prop:=
 ∀(pos:Pos) (Mf:QQY) (s:Sd) (Y:St) (H:Hp) (Q:T0 V->Hp->Prop),Inv X Mf Y H s->t Y H Q->wpAny (model X.prog X.w) X.A (spliced (backTo pos (starEach es X.env))) (AP X Mf Y Q) X.xe s
def PS(X:Cx)(st:Stmt)(t:TS):Prop:=
 ∀(Mf:QQY) (s:Sd) (Y:St) (H:Hp) (D:Em),Inv X Mf Y H s->t D Y H->wpAny (model X.prog X.w) X.A (exec st X.env) (SP X Mf D) X.xe s
def xy(X:Cx)(st:T0 Stmt)(t:TS):Prop:=
 ∀(Mf:QQY) (s:Sd) (Y:St) (H:Hp) (D:Em),Inv X Mf Y H s->t D Y H->wpAny (model X.prog X.w) X.A (execs st X.env) (SP X Mf D) X.xe s
def pB{α:Type}{t:Sem α}{Q Q':α->Sd->Prop}{M:Model}{A:Ar}{E:QQX}{s:Sd}(h:wpAny M A t Q E s)(hQ:∀a s,Q a s->Q' a s):wpAny M A t Q' E s:=cz h hQ λ_ _ x=>x
variable {tA tB':TT}{ta tb:TE}{pos:Pos}
section
def Ig(i:Nat):TE:=λY H Q=>∃v,Y[i]?=some (some v)/\Q v H
def tC(v:V):TE:=λ_ H Q=>Q v H
def Hl{i:Nat}{x:Str}{pos:Pos}(hN:X.N[i]?=some x)(hv:Km X.env.scope x)(hd:va x:=by decide)(NP:(x==("__classdict__":Str))=false:=by decide):PE X (.Name x pos) (Ig i):=by
 intro Mf s Y H Q I h;obtain⟨v,e,h⟩:=h;obtain⟨m,hn,hl⟩:=I.loc;obtain⟨u,r,l⟩:=hl i x v hN e hv;have fin:EP X Mf Y Q u s:=⟨v,H,I,r,h⟩;rcases l with⟨hk,hm⟩|⟨hk,c,hc,hcell⟩
 .exact kD (wpAny_loadName_local I.ok.kind hk hn hm fin) hd
 .rcases hk with hk|hk
  .exact kD (wpAny_loadName_cell I.ok.kind hk hc hcell fin) hd
  .exact kD (wpAny_loadName_free I.ok.kind hk hc hcell fin NP) hd
def Ib{i j pos}:PE X (.Constant (.int i) j pos) (tC (.int i)):=λ_ _ _ H _ I h=>wpAny_Constant_int ⟨.int i,H,I.tok _,⟨_,rfl⟩,h⟩
def J'{b j pos}:PE X (.Constant (.bool b) j pos) (tC (.bl b)):=λ_ _ _ H _ I h=>Constant_bool ⟨.bl b,H,I,rfl,h⟩
def Hu{x j pos}:PE X (.Constant (.str x) j pos) (tC (.str x)):=λ_ _ _ H _ I h=>Calls.Constant_str ⟨.str x,H,I.tok _,⟨_,rfl⟩,h⟩
def Gl(X:Cx)(x:Str):Prop:=X.env.kindOf x=some .globalImplicit
def uV{E:QQX}{Mf:QQY}{s:Sd}{Y:St}{H:Hp}{x:Str}{u:Vl}{pos:Pos}{Q:QQX}(I:Inv X Mf Y H s)(hg:Gl X x)(hm:X.mg x=some u)(h:Q u s) (hd:va x:=by decide):wpAny (model X.prog X.w) X.A (eval (.Name x pos) X.env) Q E s:=
 ig I.ok.kind hg (Calls.loadGlobal_global (by rw[I.ok.glob];exact I.mod.glob.keeps I.bk) hm h) hd
def qo{E:QQX}{Mf:QQY}{s:Sd}{Y:St}{H:Hp}{x:Str}{u:Vl}{pos:Pos}{Q:QQX}(I:Inv X Mf Y H s)(hg:Gl X x)(hm:X.mg x=none)(hv:bootBuiltins x=some u)(h:Q u s) (hn:x≠"__name__":=by decide) (hd:va x:=by decide):wpAny (model X.prog X.w) X.A (eval (.Name x pos) X.env) Q E s:=by
 obtain⟨mb,h1,h2⟩:=I.mod.blt;exact ig I.ok.kind hg (Calls.loadGlobal_builtin (by rw[I.ok.glob];exact I.mod.glob.keeps I.bk) hm (by rw[I.ok.blt];exact h1.keeps I.bk) ((h2 x hn).trans hv) h) hd
def xH{x:Str}{v:V}{u:Vl}{pos:Pos}(hg:Gl X x)(hm:X.mg x=some u)(r:nK v u)(hd:va x:=by decide):PE X (.Name x pos) (tC v):=
 λ_ _ _ H _ I h=>uV I hg hm ⟨v,H,I,r,h⟩ hd
def GD{x:Str}{v:V}{u:Vl}{pos:Pos}(hg:Gl X x)(hm:X.mg x=none)(hv:bootBuiltins x=some u)(r:nK v u)(hn:x≠"__name__":=by decide)(hd:va x:=by decide):PE X (.Name x pos) (tC v):=
 λ_ _ _ H _ I h=>qo I hg hm hv ⟨v,H,I,r,h⟩ hn hd
variable {a b:Expr}
def tB(t:TE):TT:=λY H Q=>t Y H λx H1=>∃c,x=.bl c/\Q c H1
def HU{e:Expr}{t:TE}(h:PE X e t)(he:∀MF,isTrue e X.env MF=(do let v<-MF;standAt e.pos;holding [v] (truthy v)):=by intro _;rfl):PT X e (tB t):=by intro Mf s Y H Q I hw;refine isTrue_plain (pB (h Mf s Y H _ I hw) λv s1 zz=>x5 zz λx H1 I1 r1 q1=>?_) (he _);obtain⟨d,rfl,q⟩:=q1;cases r1;exact cY ⟨H1,I1,q⟩
variable {Mn:T0 Expr}
def KQ(t u:TT):TT:=λY H Q=>t Y H λc H1=>if c=true then u Y H1 Q else Q false H1
def L6(t u:TT):TT:=λY H Q=>t Y H λc H1=>if c=true then Q true H1 else u Y H1 Q
def KJ(t:TT):TT:=λY H Q=>t Y H λc H1=>Q (!c) H1
def Fz(ha:PT X a tA):PW X (.BoolOp .And [a] pos) tA:=by
 intro wh Mf s Y H Q I h;refine isTrue_and (pB (ha Mf s Y H Q I h) λc s1 e=>?_);cases c with
 | true=>exact isTrue_and_nil e
 | false=>exact e
def Ip(ha:PT X a tA):PW X (.BoolOp .Or [a] pos) tA:=by
 intro wh Mf s Y H Q I h;refine isTrue_or (pB (ha Mf s Y H Q I h) λc s1 e=>?_);cases c with
 | false=>exact isTrue_or_nil e
 | true=>exact e
def IC(ha:PT X a tA)(hb:PW X (.BoolOp .And (b::Mn) pos) tB'):PW X (.BoolOp .And (a::b::Mn) pos) (KQ tA tB'):=by
 intro wh Mf s Y H Q I h;refine isTrue_and (pB (ha Mf s Y H _ I h) λc s1 ⟨H1,I1,q1⟩=>?_);cases c with
 | true=>exact hb wh Mf s1 Y H1 Q I1 q1
 | false=>exact⟨H1,I1,q1⟩
def J2(ha:PT X a tA)(hb:PW X (.BoolOp .Or (b::Mn) pos) tB'):PW X (.BoolOp .Or (a::b::Mn) pos) (L6 tA tB'):=by
 intro wh Mf s Y H Q I h;refine isTrue_or (pB (ha Mf s Y H _ I h) λc s1 ⟨H1,I1,q1⟩=>?_);cases c with
 | true=>exact⟨H1,I1,q1⟩
 | false=>exact hb wh Mf s1 Y H1 Q I1 q1
def HV(ha:PT X a tA):PT X (.UnaryOp .Not a pos) (KJ tA):=by intro Mf s Y H Q I h;exact isTrue_not (ha Mf s Y H (λc H1=>Q (!c) H1) I h)
def Kb(ta tb:TE):TE:=λY H Q=>ta Y H λx H1=>∃c,x=.bl c/\if c=true then tb Y H1 Q else Q (.bl false) H1
def Hn{op}{t:TE}(h:PE X a t):PE X (.BoolOp op [a] pos) t:=λMf s Y H Q I hw=>BoolOp_one (h Mf s Y H Q I hw)
def Ih(ha:PE X a ta)(hb:PE X (.BoolOp .And (b::Mn) pos) tb):PE X (.BoolOp .And (a::b::Mn) pos) (Kb ta tb):=by
 intro Mf s Y H Q I h;refine BoolOp_and (pB (ha Mf s Y H _ I h) λv s1 zz=>x5 zz λx H1 I1 r1 q1=>?_);obtain⟨c,rfl,q1⟩:=q1;cases r1;refine cY ?_;cases c with
 | true=>exact hb Mf s1 Y H1 Q I1 q1
 | false=>exact⟨.bl false,H1,I1,rfl,q1⟩
end
def rA(K:m9)(H:Hp)(a:Addr)(xs:T0 V):Prop:=
 Rd H a (.lst xs)\/
  ∃(o:Obj) (its:Array Vl) (n:Nat),K.lookup a=some o/\o.cls=.type "list"/\o.dict=none/\o.data=.seq its n/\its.size<=sizeLine/\nv xs its.toList
def p9(K:m9)(H:Hp)(a:Addr)(xs:T0 V):Prop:=
 Rd H a (.tup xs)\/
  ∃(o:Obj) (its:Array Vl) (n:Nat),K.lookup a=some o/\o.cls=.type "tuple"/\o.dict=none/\o.data=.seq its n/\its.size<=sizeLine/\nv xs its.toList
noncomputable def Lr:Vl->Option V
 | .none=>some .lB
 | .bool b=>some (.bl b)
 | .int i _=>some (.int i)
 | .str x _=>some (.str x)
 | .bytes b _=>some (.byt b)
 | .float b _=>some (.flt b)
 | .ref a=>some (.ref a)
 | .type n=>some (.ty n)
 | _=>none
def nK.abs{x:V}{u:Vl}(r:nK x u):Lr u=some x:=by
 cases x with
 | lB=>cases r;rfl
 | bl _=>cases r;rfl
 | int _=>obtain⟨t,rfl⟩:=r;rfl
 | str _=>obtain⟨t,rfl⟩:=r;rfl
 | byt _=>obtain⟨t,rfl⟩:=r;rfl
 | flt _=>obtain⟨t,rfl⟩:=r;rfl
 | ref _=>cases r;rfl
 | ty _=>cases r;rfl
def nK.inj{x y:V}{u:Vl}(r:nK x u)(q:nK y u):x=y:=bJ (r.abs.symm.trans q.abs)
theorem nv.inj:∀{xs ys:T0 V} {us:T0 Vl},nv xs us->nv ys us->xs=ys
 | _,_,_,.nil,.nil=>rfl
 | _,_,_,.cons r t,.cons r' t'=>by rw[r.inj r',nv.inj t t']
variable {xs ys:T0 V}
section
variable {Y:St}{a:Addr}
def p9.of{K:m9}(h:H a=some (.tup xs)):p9 K H a xs:=.inl (.inl h)
def Inv.list(I:Inv X Mf Y H s)(h:rA X.K H a xs):∃its:T0 Vl,nv xs its/\PlainL s.heap a its.toArray/\xs.length<=sizeLine:=by
 rcases h with h|⟨o,its,n,hk,hc,hd,hs,hz,r⟩
 .obtain⟨z,its,n,r,e⟩:=h.ok I.lC;exact⟨its,r,⟨_,n,e,rfl,rfl,rfl⟩,z⟩
 .refine⟨its.toList,r,⟨o,n,I.lJ a o hk,hc,hd,by simpa using hs⟩,?_⟩;have e:=r.length;simp only[b7]at e;lia
def Inv.tuple(I:Inv X Mf Y H s)(h:p9 X.K H a xs):∃its:T0 Vl,nv xs its/\IsTup s.heap a its.toArray/\xs.length<=sizeLine:=by
 rcases h with h|⟨o,its,n,hk,hc,hd,hs,hz,r⟩
 .obtain⟨z,its,r,p⟩:=h.ok I.lC;exact⟨its,r,p.is,z⟩
 .refine⟨its.toList,r,⟨o,I.lJ a o hk,hc,n,by simpa using hs⟩,?_⟩;have e:=r.length;simp only[b7]at e;lia
def Inv.lN(I:Inv X Mf Y H s)(h:rA X.K H a xs)(h':rA X.K H a ys):xs=ys:=by
 obtain⟨its,r,⟨o,n,e,_,_,d⟩,_⟩:=I.list h;obtain⟨its',r',⟨o',n',e',_,_,d'⟩,_⟩:=I.list h';rw[e]at e';cases e';rw[d]at d';injection d' with d1 _
 have:its=its':=by simpa using c8 Array.toList d1
 subst this;exact r.inj r'
def Inv.lH(I:Inv X Mf Y H s)(h:p9 X.K H a xs)(h':p9 X.K H a ys):xs=ys:=by
 obtain⟨its,r,⟨o,e,_,n,d⟩,_⟩:=I.tuple h;obtain⟨its',r',⟨o',e',_,n',d'⟩,_⟩:=I.tuple h';rw[e]at e';cases e';rw[d]at d';injection d' with d1 _
 have:its=its':=by simpa using c8 Array.toList d1
 subst this;exact r.inj r'
end
abbrev Cx.lP(X:Cx)(E:QQX):Cx:={X with xe:=E}
abbrev Cx.mf(X:Cx):Cx:=X.lP λ_ _=>False
def Cx.Ok.lP{X:Cx}(ok:X.Ok)(E:QQX):(X.lP E).Ok:=
 ⟨ok.mod,ok.kind,ok.glob,ok.blt,ok.above,ok.inj,ok.has,ok.mC,ok.hd,ok.frames,ok.stk,ok.exf,ok.bs,ok.md,ok.l6,ok.mi,ok.lO,ok.mo⟩
def Cx.Ok.lG{X:Cx}{E:QQX}(ok:(X.lP E).Ok):X.Ok:=
 ⟨ok.mod,ok.kind,ok.glob,ok.blt,ok.above,ok.inj,ok.has,ok.mC,ok.hd,ok.frames,ok.stk,ok.exf,ok.bs,ok.md,ok.l6,ok.mi,ok.lO,ok.mo⟩
section
variable {Y:St}{E:QQX}
def Inv.lP(I:Inv X Mf Y H s)(E:QQX):Inv (X.lP E) Mf Y H s:=⟨I.ok.lP E,I.os,I.bare,I.base,I.loc,I.cell,I.free,I.lK,I.pin,I.lC,I.len⟩
def Inv.lG(I:Inv (X.lP E) Mf Y H s):Inv X Mf Y H s:=⟨I.ok.lG,I.os,I.bare,I.base,I.loc,I.cell,I.free,I.lK,I.pin,I.lC,I.len⟩
def SP.lG{D:Em}{f:Flow}{s':Sd}(h:SP (X.lP E) Mf D f s'):SP X Mf D f s':=by
 cases f with
 | next=>obtain⟨σ',H',I,q⟩:=h;exact⟨σ',H',I.lG,q⟩
 | brk=>obtain⟨σ',H',I,q⟩:=h;exact⟨σ',H',I.lG,q⟩
 | cont=>obtain⟨σ',H',I,q⟩:=h;exact⟨σ',H',I.lG,q⟩
 | ret u=>obtain⟨v,σ',H',I,r,q⟩:=h;exact⟨v,σ',H',I.lG,r,q⟩
def xy.mf{st:T0 Stmt}{t:TS}(h:xy X.mf st t):xy X st t:=λMf s Y H D I hw=>cz (h Mf s Y H D (I.lP _) hw) (λ_ _ q=>q.lG) λ_ _ z=>False.elim z
end
variable {st:Stmt}{u:TS}{te:TE}
section
variable {Mn:T0 Stmt}{t:TS}{e:Expr}
def JF:TS:=λD Y H=>D.nx Y H
def LA(t u:TS):TS:=λD Y H=>t {D with nx:=u D} Y H
def F0:xy X [] JF:=λ_ _ Y H _ I h=>iX ⟨Y,H,I,h⟩
def D6(h1:PS X st t)(h2:xy X Mn u):xy X (st::Mn) (LA t u):=by
 intro Mf s Y H D I h;refine kl (pB (h1 Mf s Y H {D with nx:=u D} I h) λf s1 q=>?_);cases f with
 | next=>obtain⟨σ',H',I',q⟩:=q;exact h2 Mf s1 σ' H' D I' q
 | ret v=>exact q
 | brk=>exact q
 | cont=>exact q
def GI(h1:PS X st t):xy X [st] t:=by
 intro Mf s Y H D I h;refine kl (pB (h1 Mf s Y H D I h) λf s1 q=>?_);cases f with
 | next=>exact iX q
 | ret v=>exact q
 | brk=>exact q
 | cont=>exact q
def Inv.quiet{Mf:QQY}{Y:St}{H:Hp}{s:Sd}(I:Inv X Mf Y H s):interactive X.env=false:=by simp[interactive,I.ok.kind]
def JD(te:TE):TS:=λD Y H=>te Y H λ_ H1=>D.nx Y H1
def FE(he:PE X e te)(hs:swapsWith e none pos.line X.env=pure false:=by rfl):PS X (.Expr e pos) (JD te):=by intro Mf s Y H D I h;exact wpAny_Expr_any (pB (he Mf s Y H _ I h) λv s1 zz=>x5 zz λx H1 I1 r1 q1=>⟨Y,H1,I1,q1⟩) I.quiet hs
def Lp(te:TE):TS:=λD Y H=>te Y H D.rt
def IX(he:PE X e te):PS X (.Return (some e) pos) (Lp te):=by intro Mf s Y H D I h;exact wpAny_Return_some (pB (he Mf s Y H _ I h) λv s1 zz=>x5 zz λx H1 I1 r1 q1=>⟨x,Y,H1,I1,r1,q1⟩)
def Lb(c:TT)(t u:TS):TS:=λD Y H=>c Y H λb H1=>if b=true then t D Y H1 else u D Y H1
def Kc{c:Expr}{a b:T0 Stmt}{tc:TT}(hc:PT X c tc)(ha:xy X a t)(hb:xy X b u):PS X (.If c a b pos) (Lb tc t u):=by
 intro Mf s Y H D I h;refine wpAny_If (pB (hc Mf s Y H _ I h) λd s1 ⟨H1,I1,q1⟩=>?_);cases d with
 | true=>exact ha Mf s1 Y H1 D I1 q1
 | false=>exact hb Mf s1 Y H1 D I1 q1
def IL:TS:=λ_ _ _=>False
def Ez:PS X st IL:=λ_ _ _ _ _ _ h=>h.elim
end
abbrev TG:=V->St->Hp->(St->Hp->Prop)->Prop
abbrev Ga:=T0 V->St->Hp->(St->Hp->Prop)->Prop
def PG(X:Cx)(MD:Expr)(t:TG):Prop:=
 ∀(Mf:QQY) (s:Sd) (Y:St) (H:Hp) (v:V) (u:Vl) (Q:St->Hp->Prop),Inv X Mf Y H s->nK v u->t v Y H Q->
  wpAny (model X.prog X.w) X.A (assign MD X.env u) (λ_ s'=>∃σ' H',Inv X Mf σ' H' s'/\Q σ' H') X.xe s
def EZ(X:Cx)(ts:T0 Expr)(t:Ga):Prop:=
 ∀(Mf:QQY) (s:Sd) (Y:St) (H:Hp) (vs:T0 V) (us:T0 Vl) (Q:St->Hp->Prop),Inv X Mf Y H s->nv vs us->t vs Y H Q->
  wpAny (model X.prog X.w) X.A (assignInOrder ((assignEach ts X.env).map (·.2)) us) (λ_ s'=>∃σ' H',Inv X Mf σ' H' s'/\Q σ' H') X.xe s
def EC(i:Nat):TG:=λv Y H Q=>Q (Y.set i (some v)) H
def GO{i:Nat}{x:Str}(hN:X.N.Nodup)(hi:X.N[i]?=some x)(hx:EH X.env.scope x)(hf:De X x:=by first|exact .inl rfl|exact .inr rfl|assumption):PG X (.Name x pos) (EC i):=by intro Mf s Y H v u Q I r h;exact jS (yP I hN hi hx r (λs' I'=>⟨_,H,I',h⟩) hf)
def Ly:Ga:=λvs Y H Q=>vs=[]/\Q Y H
def Kf(t:TG)(u:Ga):Ga:=λvs Y H Q=>∃v r,vs=v::r/\t v Y H λσ' H'=>u r σ' H' Q
def Gs:EZ X [] Ly:=by intro Mf s Y H vs us Q I r h;obtain⟨e,h⟩:=h;subst e;cases r;exact assignInOrder_nil ⟨Y,H,I,h⟩
def DV{e:Expr}{es:T0 Expr}{t:TG}{u:Ga}(h1:PG X e t)(h2:EZ X es u) (hs:(assignEach (e::es) X.env).map (·.2)=assign e X.env::(assignEach es X.env).map (·.2):=by rfl):EZ X (e::es) (Kf t u):=by
 intro Mf s Y H vs us Q I r h;obtain⟨v,vr,e1,h⟩:=h;subst e1;cases r with
 | cons r rr=>rw[hs];refine assignInOrder_cons (pB (h1 Mf s Y H _ _ _ I r h) λ_ s1 ⟨σ1,H1,I1,q1⟩=>?_);exact h2 Mf s1 σ1 H1 _ _ Q I1 rr q1
def KU(K:m9)(n:Nat)(t:Ga):TG:=λv Y H Q=>∃a xs,v=.ref a/\p9 K H a xs/\xs.length=n/\t xs Y H Q
def Hw{es:T0 Expr}{k:Nat}{t:Ga}{n:Nat}(hc:X.calm=true)(h:EZ X es t) (hn:(assignEach es X.env).length=n:=by rfl) (MT:(assignEach es X.env).findIdx? (·.1)=none:=by rfl):PG X (.Tuple es k pos) (KU X.K n t):=by
 intro Mf s Y H v u Q I r hw;obtain⟨a,xs,e1,hq,hl,hw⟩:=hw;subst e1;cases r;obtain⟨its,rv,ht,hz⟩:=I.tuple hq;refine assign_Tuple_tuple (I.ok.hd hc) ht (by simp[hn,<-hl,rv.length]) MT λh' hx=>?_;have I1:Inv X Mf Y H {s with heap:=h'}:=I.kept (t':=s.toks) λb o e=>hx b o (bH (bD e)) e;exact h Mf _ Y H xs _ Q I1 (by simpa using rv) hw
def Kk(te:TE)(g:TG):TS:=λD Y H=>te Y H λx H1=>g x Y H1 D.nx
def IZ{i:Nat}{x:Str}{e:Expr}{te:TE}{MB:Pos}(hN:X.N.Nodup)(hi:X.N[i]?=some x)(hx:EH X.env.scope x)(he:PE X e te)(hs:swapsWith e (some (.Name x MB)) pos.line X.env=pure false:=by rfl)(hf:De X x:=by first|exact .inl rfl|exact .inr rfl|assumption):
  PS X (.Assign [.Name x MB] e pos) (Kk te (EC i)):=by
 intro Mf s Y H D I h;refine wpAny_Assign_Name (pB (he Mf s Y H _ I h) λv s1 zz=>x5 zz λy H1 I1 r1 q1=>?_) hs;exact yP I1 hN hi hx r1 (λs2 I2=>⟨_,H1,I2,q1⟩) hf
structure It where
 go:Nat->Hp->Prop
 mv:Nat->Hp->V->Hp->Prop
 stop:Nat->Hp->Prop
def ui(X:Cx)(Mf:QQY)(H:Hp)(b:Addr):Prop:=
 H b=none/\b≠X.env.locals/\b∉X.fs/\(b∈X.ex\/X.s₀.heap.objs.size<=b)/\(∀x c,X.env.cells.lookup x=some c->c≠b)/\∀p∈X.pn++Mf,p.1≠b
def Inv.lX{X:Cx}{Mf:QQY}{Y:St}{H H':Hp}{s:Sd}{b:Addr}(I:Inv X Mf Y H s)(hb:s.heap.objs.size<=b)(hn:H' b=none):ui X Mf H' b:=by
 refine⟨hn,cU (bO I.lt hb),I.mz hb,.inr (bQ I.sz hb),λx c e z=>?_,λp hp z=>?_⟩
 .obtain⟨v,q⟩:=I.cell x c e;exact absurd (bO q.lt (by rw[z];exact hb)) (cM _)
 .exact absurd (bO (bD (I.pin p hp).1) (by rw[z];exact hb)) (cM _)
structure yb(P:Pg)(w:Wo)(K:m9)(tg:Expr)(J:It)(fp:QXQ)(it:Addr)(tn:Nat->Heap->Prop):Prop where
 mem:it∈fp
 obj:∀i h,tn i h->∀b∈fp,∃o,h.get? b=some o/\∀v,o.data≠.cell v
 keep:∀i h h',tn i h->(∀b∈fp,∀o,h.get? b=some o->h'.get? b=some o)->tn i h'
 item:∀(X:Cx),X.prog=P->X.w=w->X.K=K->X.calm=true->∀(i:Nat) (Mf:QQY) (s:Sd) (Y:St) (H:Hp) (E:QQX),Inv X Mf Y H s->(∀b∈fp,ui X Mf H b)->tn i s.heap->J.go i H->
  wpAny (model P w) X.A (pyNext (.ref it)) (λr s1=>∃u,r=some u/\
   wpAny (model P w) X.A (letOwnedTupleGo tg (.ref it) u) (λ_ s2=>∃x H',Inv X Mf Y H' s2/\nK x u/\J.mv i H x H'/\tn (i+1) s2.heap/\∀b∈fp,H' b=none) E s1) E s
 done:∀(X:Cx),X.prog=P->X.w=w->X.K=K->X.calm=true->∀(i:Nat) (Mf:QQY) (s:Sd) (Y:St) (H:Hp) (E:QQX),Inv X Mf Y H s->(∀b∈fp,ui X Mf H b)->tn i s.heap->J.stop i H->
  wpAny (model P w) X.A (pyNext (.ref it)) (λr s1=>r=none/\Inv X Mf Y H s1) E s
 self:∀(A:Ar) (i:Nat) (s:Sd) (Q:QQX) (E:QQX),tn i s.heap->Q (.ref it) s->wpAny (model P w) A (pyIter (.ref it)) Q E s
abbrev TI:=St->Hp->(It->Hp->Prop)->Prop
def LS(X:Cx)(Mf:QQY)(Y:St)(tg:Expr)(R:It->Hp->Prop)(itv:Vl)(s2:Sd):Prop:=
 ∃(it:Addr) (fp:QXQ) (tn:Nat->Heap->Prop) (J:It) (H':Hp),itv=.ref it/\Inv X Mf Y H' s2/\yb X.prog X.w X.K tg J fp it tn/\tn 0 s2.heap/\(∀b∈fp,ui X Mf H' b)/\R J H'
def PI(X:Cx)(tg iter:Expr)(wi:TI):Prop:=
 ∀(Mf:QQY) (s:Sd) (Y:St) (H:Hp) (R:It->Hp->Prop),Inv X Mf Y H s->wi Y H R->
  wpAny (model X.prog X.w) X.A (eval iter X.env) (λv s1=>wpAny (model X.prog X.w) X.A (pyIter v) (LS X Mf Y tg R) X.xe s1) X.xe s
def zj{M:Model}{A:Ar}{E:QQX}{s:Sd}{tg:Expr}{it:Addr}{u:Vl}{o:Obj}{n:String}{vs:Array Vl}{Q:Unit->Sd->Prop}(ho:s.heap.get? it=some o)(hc:o.cls=.type n)(hd:o.data=.fields vs) (hn:["enumerate","zip","dict_itemiterator","dict_reverseitemiterator","odict_iterator","itertools.zip_longest","itertools.pairwise"].contains n=false) (hQ:Q () s):wpAny M A (letOwnedTupleGo tg (.ref it) u) Q E s:=by
  unfold letOwnedTupleGo;cases tg<;>first
    | exact bj hQ
    | (cases u<;>first
        | exact bj hQ
        | (refine bh (wpAny_load ho ?_)
           rw[hc,hd];show wpAny M A (if (["enumerate","zip","dict_itemiterator","dict_reverseitemiterator","odict_iterator","itertools.zip_longest","itertools.pairwise"].contains n&&vs[0]?==some (rawInt _))=true then _ else _) Q E s;rw[bq (by intro h;rw[hn,Bool.false_and]at h;cases h)];exact bj hQ))
noncomputable def Ko(K:m9)(a:Addr):It:=
 ⟨λi H=>∃xs x,rA K H a xs/\xs[i]?=some x,λi H x H'=>H'=H/\∀xs,rA K H a xs->xs[i]?=some x,λi H=>∃xs,rA K H a xs/\xs.length<=i⟩
noncomputable def KH(K:m9)(a:Addr):It:=
 ⟨λi H=>∃xs x,p9 K H a xs/\xs[i]?=some x,λi H x H'=>H'=H/\∀xs,p9 K H a xs->xs[i]?=some x,λi H=>∃xs,p9 K H a xs/\xs.length<=i⟩
noncomputable def J0(lo:Int)(n:Nat):It:=⟨λi _=>i<n,λi H x H'=>H'=H/\x=.int (lo+i),λi _=>n<=i⟩
def CU{P:Pg}{w:Wo}{K:m9}{tg:Expr}(a it:Addr):yb P w K tg (Ko K a) [it] it (λi h=>h.IsListIter it a i) where
 mem:=by simp
 obj:=λi h st b hb=>by
  have e:b=it:=by simpa using hb
  subst e;obtain⟨o,e,c,d⟩:=st;exact⟨o,e,λv z=>by rw[d]at z;cases z⟩
 keep:=λi h h' st k=>st.at λo e=>k it (by simp) o e
 item:=by intro X hP hw hK hc i Mf s Y H E I hf st hg;subst hP hw hK;obtain⟨xs,x,hq,hx⟩:=hg;obtain⟨its,rv,p,hz⟩:=I.list hq;obtain⟨u,hu,ru⟩:=rv.get hx;obtain⟨f0,f1,f2,f3,f4,f5⟩:=hf it (by simp);refine wpAny_pyNext_list_item st p.isList (x:=u) (by simpa using hu) λh' Mi sb=>?_;have I1:Inv X Mf Y H {s with heap:=h'}:=I.turned (t':=s.toks) (λb o hb e=>(sb.2 b hb).trans e) f0 f1 f3 f4 f5;obtain⟨o,e,c,d⟩:=id Mi;exact⟨u,rfl,zj (s:={s with heap:=h'}) e c d (by decide) ⟨x,H,I1,ru,⟨rfl,λys hy=>by rw[I.lN hy hq];exact hx⟩,Mi,λb hb=>(hf b hb).1⟩⟩
 done:=by intro X hP hw hK hc i Mf s Y H E I hf st hg;subst hP hw hK;obtain⟨xs,hq,hx⟩:=hg;obtain⟨its,rv,p,hz⟩:=I.list hq;obtain⟨f0,f1,f2,f3,f4,f5⟩:=hf it (by simp);have hl:=rv.length;exact wpAny_pyNext_list_end (I.ok.hd hc) st p.isList (by simp;lia) λh' eb=>⟨rfl,I.turned (t':=s.toks) (λb o hb e=>eb b o hb e) f0 f1 f3 f4 f5⟩
 self:=λ_ _ _ _ _ st h=>wpAny_pyIter_listiter st h
def AD{P:Pg}{w:Wo}{K:m9}{tg:Expr}(a it:Addr):yb P w K tg (KH K a) [it] it (λi h=>h.IsTupleIter it a i) where
 mem:=by simp
 obj:=λi h st b hb=>by
  have e:b=it:=by simpa using hb
  subst e;obtain⟨o,e,c,d⟩:=st;exact⟨o,e,λv z=>by rw[d]at z;cases z⟩
 keep:=λi h h' st k=>st.at λo e=>k it (by simp) o e
 item:=by intro X hP hw hK hc i Mf s Y H E I hf st hg;subst hP hw hK;obtain⟨xs,x,hq,hx⟩:=hg;obtain⟨its,rv,p,hz⟩:=I.tuple hq;obtain⟨u,hu,ru⟩:=rv.get hx;obtain⟨f0,f1,f2,f3,f4,f5⟩:=hf it (by simp);refine wpAny_pyNext_tuple_item st (show s.heap.IsTuple a its.toArray from p) (x:=u) (by simpa using hu) λh' Mi sb=>?_;have I1:Inv X Mf Y H {s with heap:=h'}:=I.turned (t':=s.toks) (λb o hb e=>(sb.2 b hb).trans e) f0 f1 f3 f4 f5;obtain⟨o,e,c,d⟩:=id Mi;exact⟨u,rfl,zj (s:={s with heap:=h'}) e c d (by decide) ⟨x,H,I1,ru,⟨rfl,λys hy=>by rw[I.lH hy hq];exact hx⟩,Mi,λb hb=>(hf b hb).1⟩⟩
 done:=by intro X hP hw hK hc i Mf s Y H E I hf st hg;subst hP hw hK;obtain⟨xs,hq,hx⟩:=hg;obtain⟨its,rv,p,hz⟩:=I.tuple hq;obtain⟨f0,f1,f2,f3,f4,f5⟩:=hf it (by simp);have hl:=rv.length;exact wpAny_pyNext_tuple_end (I.ok.hd hc) st (show s.heap.IsTuple a its.toArray from p) (by simp;lia) λh' eb=>⟨rfl,I.turned (t':=s.toks) (λb o hb e=>eb b o hb e) f0 f1 f3 f4 f5⟩
 self:=λ_ _ _ _ _ st h=>wpAny_pyIter_tupleiter st h
def AW{P:Pg}{w:Wo}{K:m9}{tg:Expr}(it:Addr)(lo:Int)(n:Nat):yb P w K tg (J0 lo n) [it] it (λi h=>IsRangeIter h it (lo+(i:Nat)*1) ((n:Int) - (i:Nat)) 1) where
 mem:=by simp
 obj:=λi h st b hb=>by
  have e:b=it:=by simpa using hb
  subst e;exact⟨_,st,λv z=>by
   have z':Data.fields _=Data.cell v:=z;cases z'⟩
 keep:=λi h h' st k=>k it (by simp) _ st
 item:=by intro X hP hw hK hc i Mf s Y H E I hf st hg;subst hP hw hK;obtain⟨f0,f1,f2,f3,f4,f5⟩:=hf it (by simp);have W:=Walks.range (prog:=X.prog) (w:=X.w) (I.ok.hd hc) it lo 1 n;refine W.item i s _ _ hg st λv h' tk hv Mi kk=>?_;obtain⟨t,rfl⟩:=hv;have I1:Inv X Mf Y H {s with heap:=h',toks:=tk}:=I.turned (λb o hb e=>kk b o (by simpa using hb) e) f0 f1 f3 f4 f5;refine⟨_,rfl,zj (s:={s with heap:=h',toks:=tk}) (n:="range_iterator") Mi rfl rfl (by decide) ⟨.int (lo+i),H,I1,⟨t,?_⟩,⟨rfl,rfl⟩,Mi,λb hb=>(hf b hb).1⟩⟩;rw[Int.mul_one]
 done:=by intro X hP hw hK hc i Mf s Y H E I hf st hg;subst hP hw hK;obtain⟨f0,f1,f2,f3,f4,f5⟩:=hf it (by simp);exact wpAny_pyNext_range_end (I.ok.hd hc) st (by have:n<=i:=hg;lia) λh' eb=>⟨rfl,I.turned (t':=s.toks) (λb o hb e=>eb b o hb e) f0 f1 f3 f4 f5⟩
 self:=λ_ _ _ _ _ st h=>wpAny_pyIter_rangeiter st h
variable {tg:Expr}
def zA{Mf:QQY}{Y:St}{H:Hp}{s:Sd}{R:It->Hp->Prop}{E:QQX}{lo hi:Int}{t u v:Tok}{tk:Nat}(I:Inv X Mf Y H s)(h1:-(2 ^ 62)<=lo)(h2:lo<2 ^ 62)(h3:-(2 ^ 62)<=hi)(h4:hi<2 ^ 62) (q:R (J0 lo (hi - lo).toNat) H):wpAny (model X.prog X.w) X.A (pyIter (.ref s.heap.objs.size)) (LS X Mf Y tg R) E {s with heap:=s.heap.push {cls:=.type "range",data:=.fields #[.int lo t,.int hi u,.int 1 v]},toks:=tk}:=by
 refine wpAny_pyIter_range (IsRange.new ..) (small_one h1 h2 h3 h4) ?_;have I1:Inv X Mf Y H {s with heap:=s.heap.push {cls:=.type "range",data:=.fields #[.int lo t,.int hi u,.int 1 v]},toks:=tk}:=I.kept λb o e=>bp _ e;refine⟨(s.heap.push {cls:=.type "range",data:=.fields #[.int lo t,.int hi u,.int 1 v]}).objs.size,[(s.heap.push {cls:=.type "range",data:=.fields #[.int lo t,.int hi u,.int 1 v]}).objs.size],_,_,H,rfl,I1.kept (t':=tk) λb o e=>bp _ e,AW _ lo (hi - lo).toNat,?_,λb hb=>?_,q⟩
 .have e1:lo+((0:Nat):Int)*1=lo:=by simp
  have e2:(((hi - lo).toNat:Nat):Int) - ((0:Nat):Int)=Builtin.Range.rangeSize lo hi 1:=by rw[rangeSize_one];split<;>lia
  show IsRangeIter _ _ (lo+((0:Nat):Int)*1) ((((hi - lo).toNat:Nat):Int) - ((0:Nat):Int)) 1;rw[e1,e2];exact bE _ rfl
 .have e:b=(s.heap.push {cls:=.type "range",data:=.fields #[.int lo t,.int hi u,.int 1 v]}).objs.size:=by simpa using hb
  subst e;exact I1.lX (bB _) (I1.lC.fresh (bB _))
def J4(ta:TA):TI:=λY H R=>ta Y H λvs H1=>∃j:Int,vs=[.int j]/\-(2 ^ 62)<=j/\j<2 ^ 62/\R (J0 0 j.toNat) H1
def Jr(ta:TA):TI:=λY H R=>ta Y H λvs H1=>∃i j:Int,vs=[.int i,.int j]/\(-(2 ^ 62)<=i/\i<2 ^ 62/\-(2 ^ 62)<=j/\j<2 ^ 62)/\R (J0 i (j - i).toNat) H1
def CI{a:Expr}{ta:TA}{p pos:Pos}(hg:Gl X "range")(hm:X.mg "range"=none)(ha:PA X [a] ta)(hs:starEach [a] X.env=[(false,eval a X.env)]:=by rfl):PI X tg (.Call (.Name "range" p) [a] [] pos) (J4 ta):=by
 intro Mf s Y H R I h;refine Call_ (qo I hg hm boot_range (cQ (pB (ha pos Mf s Y H _ I h) λus s1 zz=>x5 zz λvs H1 I1 r1 q1=>?_) hs rfl));obtain⟨j,e,q1,q2,q⟩:=q1;subst e;cases r1 with
 | cons r rr=>cases rr;obtain⟨t,rfl⟩:=r;exact call_range_1 (zA I1 (by lia) (by lia) q1 q2 (by simpa using q))
def Co{a b:Expr}{ta:TA}{p pos:Pos}(hg:Gl X "range")(hm:X.mg "range"=none)(ha:PA X [a,b] ta)(hs:starEach [a,b] X.env=[(false,eval a X.env),(false,eval b X.env)]:=by rfl)(Nk:starEach [b] X.env=[(false,eval b X.env)]:=by rfl):
  PI X tg (.Call (.Name "range" p) [a,b] [] pos) (Jr ta):=by
 intro Mf s Y H R I h;refine Call_ (qo I hg hm boot_range (cQ (pB (ha pos Mf s Y H _ I h) λus s1 zz=>x5 zz λvs H1 I1 r1 q1=>?_) (by rw[hs,Nk]) (by rw[Nk];rfl)));obtain⟨i,j,e,⟨q1,q2,q3,q4⟩,q⟩:=q1;subst e;cases r1 with
 | cons r rr=>
  cases rr with
  | cons r' rr=>cases rr;obtain⟨t,rfl⟩:=r;obtain⟨t',rfl⟩:=r';exact call_range_2 (zA I1 q1 q2 q3 q4 q)
def K3(wi:TI)(g:TG)(tb:TS):TS:=λD Y H=>wi Y H λJ H1=>∃W:Nat->Nat->St->Hp->Prop,(∃m,W 0 m Y H1)/\∀i m Y H,W i m Y H->
 (J.stop i H/\D.nx Y H)\/(J.go i H/\∃N:St->Hp->Prop,(∀σ' H',N σ' H'->∃m',m'<m/\W (i+1) m' σ' H')/\∀x H',J.mv i H x H'->g x Y H' λσ2 H2=>tb {D with nx:=N,ct:=N,bk:=D.nx} σ2 H2)
noncomputable def vB(fp:QXQ)(h:Heap):QQY:=fp.filterMap λb=>(h.get? b).map λo=>(b,o)
def ql{fp:QXQ}{h:Heap}{b:Addr}{o:Obj}(hb:b∈fp)(e:h.get? b=some o):(b,o)∈vB fp h:=fU.mpr ⟨b,hb,by rw[e];rfl⟩
def Cq{fp:QXQ}{h:Heap}{p:Addr×Obj}(hp:p∈vB fp h):p.1∈fp/\h.get? p.1=some p.2:=by
 obtain⟨b,hb,e⟩:=fU.mp hp;cases q:h.get? b with
 | none=>rw[q]at e;cases e
 | some o=>rw[q]at e;have e':(b,o)=p:=bJ e;subst e';exact⟨hb,q⟩
def Inv.pinned{Mf:QQY}{Y:St}{H:Hp}{s:Sd}{fp:QXQ}(I:Inv X Mf Y H s)(hf:∀b∈fp,ui X Mf H b)(ho:∀b∈fp,∃o,s.heap.get? b=some o/\∀v,o.data≠.cell v):Inv X (Mf++vB fp s.heap) Y H s:=
 I.lR λp hp=>(bS.mp hp).elim (λz=>I.pin p (bU _ z)) λz=>by obtain⟨hb,e⟩:=Cq z;obtain⟨f0,f1,f2,_⟩:=hf p.1 hb;obtain⟨o,e',d⟩:=ho p.1 hb;rw[e]at e';cases e';exact⟨e,f0,f1,f2,d⟩
def Inv.lE{Mf pl:QQY}{Y:St}{H:Hp}{s:Sd}(I:Inv X (Mf++pl) Y H s):Inv X Mf Y H s:=I.lR λp hp=>I.pin p (bU _ (fF _ hp))
def Il{iter:Expr}{body:T0 Stmt}{wi:TI}{g:TG}{tb:TS}{pos:Pos}(hp:PassesOwn (model X.prog X.w) X.A X.env X.xe)(hc:X.calm=true)(hi:PI X tg iter wi)(hg:PG X tg g)(hb:xy X body tb) (hs:∀x,foldedSetIterable iter X.env x=pure x:=by intro _;rfl):PS X (.For tg iter body [] pos) (K3 wi g tb):=by
 intro Mf s Y H D I h;refine wpAny_For (pB (hi Mf s Y H _ I h) λv s1 h1=>pB h1 λitv s2 h2=>?_) hs;obtain⟨it,fp,tn,J,H2,e,I2,T,Mq,f2,W,⟨m0,w0⟩,NQ⟩:=h2;subst e;have Nu:∀{H':Hp},(∀b∈fp,H' b=none)->∀b∈fp,ui X Mf H' b:=λhn b hb=>⟨hn b hb,(f2 b hb).2⟩;refine codeAny_forLoop_any (λn s'=>∃i σ' H',Inv X Mf σ' H' s'/\tn i s'.heap/\(∀b∈fp,H' b=none)/\W i n σ' H') ?_ m0 ⟨0,Y,H2,I2,Mq,λb hb=>(f2 b hb).1,w0⟩
 rintro n s3 ⟨i,σ3,H3,I3,st3,fr3,w3⟩
 rcases NQ i n σ3 H3 w3 with⟨stop,qn⟩|⟨go,N,hN,step⟩
 .refine fQ hp (pB (T.done X rfl rfl rfl hc i Mf s3 σ3 H3 X.xe I3 (Nu fr3) st3 stop) λr s4 ⟨hr,I4⟩=>?_);subst hr;exact iX ⟨σ3,H3,I4,qn⟩
 .refine fQ hp (pB (T.item X rfl rfl rfl hc i Mf s3 σ3 H3 X.xe I3 (Nu fr3) st3 go) λr s4 ⟨u,hr,h4⟩=>?_);subst hr;refine fQ hp (pB h4 λ_ s5 zz=>?_);obtain⟨x,H5,I5,r5,y5,OK,fr5⟩:=zz;have I5':=I5.pinned (Nu fr5) (T.obj _ _ OK);refine fQ hp (pB (hg _ s5 σ3 H5 x u _ I5' r5 (step x H5 y5)) λ_ s6 ⟨σ6,H6,I6,q6⟩=>?_);refine fQ hp (pB (hb _ s6 σ6 H6 _ I6 q6) λf s7 q7=>?_);have again:∀{σ7:St} {H7:Hp},Inv X (Mf++vB fp s5.heap) σ7 H7 s7->N σ7 H7->∃m,m<n/\∃i σ' H',Inv X Mf σ' H' s7/\tn i s7.heap/\(∀b∈fp,H' b=none)/\W i m σ' H':=λ{σ7 H7} I7 n7=>by obtain⟨m',hm,w7⟩:=hN σ7 H7 n7;refine⟨m',hm,i+1,σ7,H7,I7.lE,T.keep _ _ _ OK λb hb o e=>(I7.pin (b,o) (bU _ (bU _ (ql hb e)))).1,λb hb=>?_,w7⟩;obtain⟨o,e,d⟩:=T.obj _ _ OK b hb;exact(I7.pin (b,o) (bU _ (bU _ (ql hb e)))).2.1
  cases f with
  | next=>obtain⟨σ7,H7,I7,n7⟩:=q7;exact again I7 n7
  | cont=>obtain⟨σ7,H7,I7,n7⟩:=q7;exact again I7 n7
  | brk=>obtain⟨σ7,H7,I7,q7⟩:=q7;exact⟨σ7,H7,I7.lE,q7⟩
  | ret v=>obtain⟨x7,σ7,H7,I7,r7,q7⟩:=q7;exact⟨x7,σ7,H7,I7.lE,r7,q7⟩
abbrev R2:=V->V->Hp->VK->Prop
def sf(X:Cx)(f:Vl->Vl->Sem Vl)(r:R2):Prop:=
 ∀(Mf:QQY) (s:Sd) (Y:St) (H:Hp) (x y:V) (v u:Vl) (Q:VK),Inv X Mf Y H s->nK x v->nK y u->r x y H Q->
  wpAny (model X.prog X.w) X.A (f v u) (EP X Mf Y Q) X.xe s
def Lx(X:Cx)(f:Vl->Sem Vl)(r:V->Hp->VK->Prop):Prop:=
 ∀(Mf:QQY) (s:Sd) (Y:St) (H:Hp) (x:V) (v:Vl) (Q:VK),Inv X Mf Y H s->nK x v->r x H Q->
  wpAny (model X.prog X.w) X.A (f v) (EP X Mf Y Q) X.xe s
def sO(X:Cx)(f:Vl)(r:T0 V->Hp->VK->Prop):Prop:=
 ∀(Mf:QQY) (s:Sd) (Y:St) (H:Hp) (xs:T0 V) (us:T0 Vl) (Q:VK),Inv X Mf Y H s->nv xs us->r xs H Q->
  wpAny (model X.prog X.w) X.A (call f us) (EP X Mf Y Q) X.xe s
def Ji(r:R2)(ta tb:TE):TE:=λY H Q=>ta Y H λx H1=>tb Y H1 λy H2=>r x y H2 Q
def Ma(r:V->Hp->VK->Prop)(ta:TE):TE:=λY H Q=>ta Y H λx H1=>r x H1 Q
def rI(C:Int->Int->Prop)(g:Int->Int->V):R2:=λx y H Q=>∃i j,x=.int i/\y=.int j/\C i j/\Q (g i j) H
def Ha(g:Int->Int->V):R2:=λx y H Q=>∃i j,x=.int i/\y=.int j/\Q (g i j) H
def rU(g:Int->V):V->Hp->VK->Prop:=λx H Q=>∃i,x=.int i/\Q (g i) H
variable {tc:TE}
section
variable {a b c:Expr}
def ID(ha:PE X a ta)(hb:PE X b tb){Mf:QQY}{s:Sd}{Y:St}{H:Hp}{R:V->V->Hp->Prop}(I:Inv X Mf Y H s) (h:ta Y H λx H1=>tb Y H1 λy H2=>R x y H2) {Q:QQX} {f:Vl->Vl->Sem Vl} (hf:∀v u s2 x y H2,Inv X Mf Y H2 s2->nK x v->nK y u->R x y H2->wpAny (model X.prog X.w) X.A (f v u) Q X.xe s2):
  wpAny (model X.prog X.w) X.A (eval a X.env) (λv s₁=>wpAny (model X.prog X.w) X.A (eval b X.env) (λu s₂=>wpAny (model X.prog X.w) X.A (f v u) Q X.xe s₂) X.xe s₁) X.xe s:=by
 refine pB (ha Mf s Y H _ I h) λv s1 zz=>x5 zz λx H1 I1 r1 q1=>?_;refine pB (hb Mf s1 Y H1 _ I1 q1) λu s2 zz=>x5 zz λy H2 I2 r2 q2=>?_;exact hf v u s2 x y H2 I2 r1 r2 q2
def Jz{op:Operator}{r:R2}(ho:sf X (binaryOp op) r)(ha:PE X a ta)(hb:PE X b tb):PE X (.BinOp a op b pos) (Ji r ta tb):=by intro Mf s Y H Q I h;exact wpAny_BinOp (ID ha hb I h λv u s2 x y H2 I2 rx ry q=>ho Mf s2 Y H2 x y v u Q I2 rx ry q)
def Jx{op:UnaryOp}{r:V->Hp->VK->Prop}(ho:Lx X (unaryOp op) r)(ha:PE X a ta):PE X (.UnaryOp op a pos) (Ma r ta):=by intro Mf s Y H Q I h;exact UnaryOp_ (pB (ha Mf s Y H _ I h) λv s1 zz=>x5 zz λx H1 I1 r1 q1=>ho Mf s1 Y H1 x v Q I1 r1 q1)
def KI{f:Vl->Vl->Sem Vl}{C:Int->Int->Prop}{g:Int->Int->Int} (rule:∀(i j:Int) (t u:Tok) (s:Sd) (Q:QQX) (E:QQX),C i j->Q (.int (g i j) s.toks) {s with toks:=s.toks+1}->wpAny (model X.prog X.w) X.A (f (.int i t) (.int j u)) Q E s):
  sf X f (rI C λi j=>.int (g i j)):=by
 intro Mf s Y H x y v u Q I rx ry h;obtain⟨i,j,rfl,rfl,hc,q⟩:=h;obtain⟨t,rfl⟩:=rx;obtain⟨t',rfl⟩:=ry;exact rule i j t t' s _ _ hc ⟨.int (g i j),H,I.tok _,⟨_,rfl⟩,q⟩
def Kn{f:Vl->Vl->Sem Vl}{g:Int->Int->Int} (rule:∀(i j:Int) (t u:Tok) (s:Sd) (Q:QQX) (E:QQX),Q (.int (g i j) s.toks) {s with toks:=s.toks+1}->wpAny (model X.prog X.w) X.A (f (.int i t) (.int j u)) Q E s):
  sf X f (Ha λi j=>.int (g i j)):=by
 intro Mf s Y H x y v u Q I rx ry h;obtain⟨i,j,rfl,rfl,q⟩:=h;obtain⟨t,rfl⟩:=rx;obtain⟨t',rfl⟩:=ry;exact rule i j t t' s _ _ ⟨.int (g i j),H,I.tok _,⟨_,rfl⟩,q⟩
def Gh{f:Vl->Vl->Sem Vl}{g:Int->Int->Bool} (rule:∀(i j:Int) (t u:Tok) (s:Sd) (Q:QQX) (E:QQX),Q (.bool (g i j)) s->wpAny (model X.prog X.w) X.A (f (.int i t) (.int j u)) Q E s):
  sf X f (Ha λi j=>.bl (g i j)):=by
 intro Mf s Y H x y v u Q I rx ry h;obtain⟨i,j,rfl,rfl,q⟩:=h;obtain⟨t,rfl⟩:=rx;obtain⟨t',rfl⟩:=ry;exact rule i j t t' s _ _ ⟨.bl (g i j),H,I,rfl,q⟩
def Jo(i j:Int):Prop:=0<j/\j<1073741824
def B7(i j:Int):Prop:=(-(2 ^ 64)<i/\i<2 ^ 64)\/(-(2 ^ 64)<j/\j<2 ^ 64)
def B7.ok{i j:Int}(h:B7 i j):IntMulOk i j:=by
 rcases h with⟨h1,h2⟩|⟨h1,h2⟩
 .exact .of_left (intBits_le_64 h1 h2)
 .exact .of_right (intBits_le_64 h1 h2)
def Iv:sf X (binaryOp .Add) (Ha λi j=>.int (i+j)):=Kn λ_ _ _ _ _ _ _ q=>add_int q
def IW:sf X (binaryOp .Sub) (Ha λi j=>.int (i - j)):=Kn λ_ _ _ _ _ _ _ q=>sub_int q
def IR:sf X (binaryOp .Mult) (rI B7 λi j=>.int (i*j)):=KI λ_ _ _ _ _ _ _ hc q=>mul_int q hc.ok
def GB:sf X (binaryOp .FloorDiv) (rI Jo λi j=>.int (i / j)):=KI λi j _ _ _ _ _ hc q=>by have h1:(0:Int)<j:=hc.1;have h2:j<1073741824:=hc.2;exact floordiv_int (by lia) (by rw[Int.fdiv_eq_ediv_of_nonneg i (by lia)];exact q) (.inl (PyProof.noPylong_small (by lia)))
def IV:sf X (binaryOp .Mod) (rI (λ_ j=>0<j) λi j=>.int (i % j)):=KI λi j _ _ _ _ _ hc q=>by have h1:(0:Int)<j:=hc;exact mod_int' (by lia) (by rw[Int.fmod_eq_emod_of_nonneg i (by lia)];exact q)
def L8{f:Vl->Sem Vl}{g:Int->Int} (rule:∀(i:Int) (t:Tok) (s:Sd) (Q:QQX) (E:QQX),Q (.int (g i) s.toks) {s with toks:=s.toks+1}->wpAny (model X.prog X.w) X.A (f (.int i t)) Q E s):
  Lx X f (rU λi=>.int (g i)):=by
 intro Mf s Y H x v Q I rx h;obtain⟨i,rfl,q⟩:=h;obtain⟨t,rfl⟩:=rx;exact rule i t s _ _ ⟨.int (g i),H,I.tok _,⟨_,rfl⟩,q⟩
def HI:Lx X (unaryOp .USub) (rU λi=>.int (-i)):=L8 λ_ _ _ _ _ q=>neg_int q
end
section
variable {a b c:Expr}
def xR{Mf:QQY}{Y:St}{H:Hp}{s:Sd}{Q:VK}{k k':Bool}(I:Inv X Mf Y H s)(q:Q (.bl k) H)(e:k=k'):EP X Mf Y Q (.bool k') s:=by subst e;exact⟨.bl k,H,I,rfl,q⟩
def JI:sf X (compareOp .Lt) (Ha λi j=>.bl (decide (i<j))):=Gh λ_ _ _ _ _ _ _ q=>lt_int q
def Kd:sf X (compareOp .LtE) (Ha λi j=>.bl (decide (i<=j))):=Gh λ_ _ _ _ _ _ _ q=>le_int q
def Jl:sf X (compareOp .Gt) (Ha λi j=>.bl (decide (j<i))):=Gh λ_ _ _ _ _ _ _ q=>gt_int q
def Jp:sf X (compareOp .GtE) (Ha λi j=>.bl (decide (j<=i))):=Gh λ_ _ _ _ _ _ _ q=>ge_int q
def CS:sf X (compareOp .In) (λx y H Q=>∃i j,x=.str i/\y=.str j/\Q (.bl (!(Builtin.Str.occurrences j i 0 j.length 1).isEmpty)) H):=by intro Mf s Y H x y v u Q I rx ry h;obtain⟨i,j,rfl,rfl,q⟩:=h;obtain⟨t,rfl⟩:=rx;obtain⟨t',rfl⟩:=ry;exact in_str (xR I q rfl)
def HL:sf X (compareOp .Is) (λx y H Q=>y=.lB/\Q (.bl (decide (x=.lB))) H):=by
 intro Mf s Y H x y v u Q I rx ry h;obtain⟨rfl,q⟩:=h;cases ry;refine is_none_gen (xR I q ?_);cases x<;>first
  | (cases rx;rfl)
  | (obtain⟨t,rfl⟩:=rx;rfl)
def Fp:sf X (compareOp .IsNot) (λx y H Q=>y=.lB/\Q (.bl (!decide (x=.lB))) H):=by
 intro Mf s Y H x y v u Q I rx ry h;obtain⟨rfl,q⟩:=h;cases ry;refine isnot_none_gen (xR I q ?_);cases x<;>first
  | (cases rx;rfl)
  | (obtain⟨t,rfl⟩:=rx;rfl)
def xW(b:Expr){op:CmpOp}(h:op≠.In:=by decide)(h2:op≠.NotIn:=by decide):behindInMarks op b=false:=by
 have e1:(op==CmpOp.In)=false:=by cases op<;>first|rfl|exact absurd rfl h
 have e2:(op==CmpOp.NotIn)=false:=by cases op<;>first|rfl|exact absurd rfl h2
 cases b<;>simp[behindInMarks,e1,e2]
def yf{op:CmpOp}{r:R2}(ho:sf X (compareOp op) r)(ha:PE X a ta)(hb:PE X b tb)(hm:behindInMarks op b=false):PE X (.Compare a [op] [b] pos) (Ji r ta tb):=by intro Mf s Y H Q I h;exact wpAny_Compare1 (ID ha hb I h λv u s2 x y H2 I2 rx ry q=>ho Mf s2 Y H2 x y v u Q I2 rx ry q) hm
def G1(t:TE):TT:=λY H Q=>t Y H λx H'=>∃k,x=.bl k/\Q k H'
def Ba{op:CmpOp}{r:R2}(ho:sf X (compareOp op) r)(ha:PE X a ta)(hb:PE X b tb)(hm:behindInMarks op b=false):PT X (.Compare a [op] [b] pos) (G1 (Ji r ta tb)):=by
 intro Mf s Y H Q I h;refine wpAny_isTrue_Compare1 (pB (ha Mf s Y H _ I h) λv s1 zz=>x5 zz λx H1 I1 r1 q1=>pB (hb Mf s1 Y H1 _ I1 q1) λu s2 zz=>x5 zz λy H2 I2 r2 q2=>
  pB (ho Mf s2 Y H2 x y v u _ I2 r1 r2 q2) λc s3 zz=>?_) hm
 obtain⟨z,H3,I3,r3,k,e,q3⟩:=zz;subst e;cases r3;exact cY ⟨H3,I3,q3⟩
def Do(r r':R2)(ta tb tc:TE):TE:=λY H Q=>ta Y H λx H1=>tb Y H1 λy H2=>r x y H2 λz H3=>∃k,z=.bl k/\
 (if k=true then tc Y H3 λw' H4=>r' y w' H4 Q else Q (.bl false) H3)
def EG{op Nb:CmpOp}{r r':R2}(ho:sf X (compareOp op) r)(NL:sf X (compareOp Nb) r')(ha:PE X a ta)(hb:PE X b tb)(hc:PE X c tc) (hm:lastMarks [op,Nb] [b,c]=false:=by with_unfolding_all rfl):PE X (.Compare a [op,Nb] [b,c] pos) (Do r r' ta tb tc):=by
 intro Mf s Y H Q I h;refine Compare_chain (pB (ha Mf s Y H _ I h) λv s1 zz=>x5 zz λx H1 I1 r1 q1=>chain_link (pB (hb Mf s1 Y H1 _ I1 q1) λu s2 zz=>x5 zz λy H2 I2 r2 q2=>
  pB (ho Mf s2 Y H2 x y v u _ I2 r1 r2 q2) λd s3 zz=>?_)) hm
 obtain⟨z,H3,I3,r3,k,e,q3⟩:=zz;subst e;cases r3;refine cY ?_;cases k with
 | false=>exact ite_ff ⟨.bl false,H3,I3,rfl,q3⟩
 | true=>exact ite_tt (chain_last (pB (hc Mf s3 Y H3 _ I3 q3) λw' s4 zz=>x5 zz λz' H4 I4 r4 q4=>NL Mf s4 Y H4 y z' u w' Q I4 r2 r4 q4))
def Ee{op Nb:CmpOp}{r r':R2}(ho:sf X (compareOp op) r)(NL:sf X (compareOp Nb) r')(ha:PE X a ta)(hb:PE X b tb)(hc:PE X c tc) (hm:lastMarks [op,Nb] [b,c]=false:=by with_unfolding_all rfl):PT X (.Compare a [op,Nb] [b,c] pos) (G1 (Do r r' ta tb tc)):=by
 intro Mf s Y H Q I h;refine isTrue_chain (pB (ha Mf s Y H _ I h) λv s1 zz=>x5 zz λx H1 I1 r1 q1=>test_link (pB (hb Mf s1 Y H1 _ I1 q1) λu s2 zz=>x5 zz λy H2 I2 r2 q2=>
  pB (ho Mf s2 Y H2 x y v u _ I2 r1 r2 q2) λd s3 zz=>?_)) hm
 obtain⟨z,H3,I3,r3,k,e,q3⟩:=zz;subst e;cases r3;refine cY ?_;cases k with
 | false=>obtain⟨k',e',q'⟩:=q3;cases e';exact ite_ff ⟨H3,I3,q'⟩
 | true=>refine ite_tt (test_last (pB (hc Mf s3 Y H3 _ I3 q3) λw' s4 zz=>x5 zz λz' H4 I4 r4 q4=>pB (NL Mf s4 Y H4 y z' u w' _ I4 r2 r4 q4) λd' s5 zz=>?_));obtain⟨z2,H5,I5,r5,k2,e2,q5⟩:=zz;subst e2;cases r5;exact cY ⟨H5,I5,q5⟩
def vW:(sizeLine:Nat)<2 ^ 63:=by rw[cb];decide
def Ay:sf X (binaryOp .Add) (λx y H Q=>∃i j,x=.str i/\y=.str j/\i.length+j.length<=sizeLine/\Q (.str (i++j)) H):=by intro Mf s Y H x y v u Q I rx ry h;obtain⟨i,j,rfl,rfl,hz,q⟩:=h;obtain⟨t,rfl⟩:=rx;obtain⟨t',rfl⟩:=ry;exact add_str (λt' tk=>⟨.str (i++j),H,I.tok _,⟨_,rfl⟩,q⟩) hz
def wb{x:V}{us:T0 Vl}(r:nv [x] us):∃u,us=[u]/\nK x u:=by
 cases r with
 | cons r1 r2=>cases r2;exact⟨_,rfl,r1⟩
def A5{x y:V}{us:T0 Vl}(r:nv [x,y] us):∃u w',us=[u,w']/\nK x u/\nK y w':=by
 cases r with
 | cons r1 r2=>
  cases r2 with
  | cons r3 r4=>cases r4;exact⟨_,_,rfl,r1,r3⟩
def BU(hc:X.calm=true):sO X (.builtin "min") (λxs H Q=>∃i j,xs=[.int i,.int j]/\Q (.int (if j<i then j else i)) H):=by
 intro Mf s Y H xs us Q I r h;obtain⟨i,j,rfl,q⟩:=h;obtain⟨u,w',rfl,⟨t,rfl⟩,⟨t',rfl⟩⟩:=A5 r;refine min_two_ints (I.ok.hd hc) λh' tk k=>⟨_,H,I.kept k,?_,q⟩;by_cases hj:j<i
 .rw[bw hj,bw hj];exact⟨_,rfl⟩
 .rw[bq hj,bq hj];exact⟨_,rfl⟩
end
structure AC(h:Heap)(x dx C:Addr)(mA:QQZ):Prop where
 obj:h.get? x=some (W.instObj C dx)
 ns:h.Ns1 dx mA
 ne:dx≠x
def CM{h:Heap}{dx:Addr}{mA:QQZ}(n:h.Ns1 dx mA):∃od,h.get? dx=some od/\∀name,W.lookIn name od=some (mA name):=by
 obtain⟨o,es,ep,ho,hd,hk,_,hm⟩:=n;refine⟨o,ho,λname=>?_⟩;have e:=hm name;unfold nsFind findBy at e;rw[<-Array.find?_toList]at e;unfold W.lookIn;rw[hd];dsimp only;split
 .rename_i y q;rw[q]at e;exact c8 some e
 .rename_i q;rw[q]at e;have a:es.toList.any (·.refKey)=false:=by rw[List.any_eq_false];intro y hy;obtain⟨z,t,Nv⟩:=hk y (Array.mem_toList_iff.mp hy);simp[DictEntry.refKey,Nv]
  have a':¬es.toList.any (·.refKey)=true:=by rw[a];exact bN
  rw[bq a'];exact c8 some e
def AC.look{h:Heap}{x dx C:Addr}{mA:QQZ}(I:AC h x dx C mA):∃od,W.InstAt h x (W.instObj C dx) C (some od)/\∀name,W.lookIn name od=some (mA name):=
 let⟨od,ho,hl⟩:=CM I.ns
 ⟨od,⟨I.obj,rfl,rfl,ho⟩,hl⟩
variable {prog:Pg}{A:Ar}{K:m9}{dx C:Addr}{mA:QQZ}{name:Str}
section
variable {w:Wo}{E:QQX}{x f:Addr}{v:Vl}
def FI{expr:Bool}{Q:QQX}(X:K.In s.heap)(I:AC s.heap x dx C mA)(hg:W.plainGet K C name=true)(hh:W.hasDictIn K C=true) (ha:W.findIn K (.ref C) name=some none) (hv:mA name=some v) (hv':W.handedIn v=true) (h:Q v {s with toks:=s.toks+1}):
  wpAny (model prog w) A (getAttr (.ref x) name expr) Q E s:=by
 obtain⟨od,J,hl⟩:=I.look;exact W.get_value X J (jv hg).1 (W.findObj_own hh ha rfl (by rw[hl,hv])) hv' h
def EJ{pl:Sem Bool}{Q:Vl×T0 Vl->Sd->Prop}(X:K.In s.heap)(I:AC s.heap x dx C mA)(hg:W.plainGet K C name=true) (hf:W.findIn K (.ref C) name=some (some (.ref f))) (ht:W.isFn K (.ref f)=true) (hv:mA name=none) (h:Q (.ref f,[.ref x]) s):
  wpAny (model prog w) A (getMethod (.ref x) name pl) Q E s:=by
 obtain⟨od,J,hl⟩:=I.look;exact W.method_fn X J (jv hg).1 (jv hg).2 hf (fG.mp ht) (by show(W.lookIn name od).map (·.isSome)=some false;rw[hl,hv];rfl) h
def GK{ns:QQQ}{Q:Unit->Sd->Prop}(X:K.In s.heap)(I:AC s.heap x dx C mA) (hs:W.findIn K (.ref C) "__setattr__"=some (some (.builtin "object.__setattr__"))) (hp:W.plainOver K C=true) (ht:W.takerIn K C name=some none) (hh:W.hasDictIn K C=true) (hw:PySem.Within mA ns) (hsz:ns.length<=sizeLine) (h:∀h',AC h' x dx C (λy=>if y=name then some v else mA y)->Heap.SameBut dx s.heap h'->Q () {s with heap:=h',toks:=s.toks+2}):
  wpAny (model prog w) A (setAttr (.ref x) name v) Q E s:=by
 obtain⟨od,J,hl⟩:=I.look;refine W.set_plain X J hs (W.osa_open (s:={s with toks:=s.toks+1}) (r:=none) X J hp ht λb=>?_);obtain⟨cd,hc,hd'⟩:=W.any_some hh;have hx:s.heap.get? x=some ⟨.ref C,some dx,.plain,#[]⟩:=I.obj;refine bh (bj (bh (bh (wpAny_loadPart hx (bh (W.Looks.here (s:={s with toks:=s.toks+1}) (W.looks_clsIn X hc) ?_))))));rw[hd'];refine bj (a:=some dx) (bh (bj (bh ?_)));refine wpAny_nsSet1 (s:={s with toks:=s.toks+1}) I.ns λh' OL Nk=>?_;obtain⟨oD,esD,epD,hoD,hdD,hcD⟩:=OL.count (PySem.Within.cons name v hw);refine bh (wpAny_lookBehind hoD (by rw[hdD];exact pastItsLine_dict (bQ hcD (by rw[bT];lia))) ?_);exact bj (h _ ⟨(Nk.2 _ (bR I.ne)).trans I.obj,OL,I.ne⟩ Nk)
def Eh{R:Result->Sd->Prop}{vs:T0 Vl}{kw:T0 (Str×Vl)}(X:K.In s.heap)(hm:W.makesIn K C=true) (hi:W.findIn K (.ref C) "__init__"=some (some (.ref f))) (hf:W.typeIn K (.ref f)=some (.type "function")) (h:codeAny (model prog w) (A.under (.builtin "type.__call__" ⟨.ref C::vs,kw⟩)) (.call (.ref f) ⟨.ref (s.heap.objs.size+1)::vs,kw⟩) (W.InitBack (s.heap.objs.size+1) R) {s with heap:=(s.heap.push W.emptyDict).push (W.instObj C s.heap.objs.size)}):
  codeAny (model prog w) A (.call (.ref C) ⟨vs,kw⟩) R s:=by
 obtain⟨hh,g,d,t,os⟩:=s;exact W.make_core (W.makes_of X hm) (W.looks_findIn X hi) (λself=>W.bind_fn X self hf) (.inl rfl) h
end
noncomputable def qU(f:Str)(v:V):T0 (Str×V)->T0 (Str×V)
 | []=>[(f,v)]
 | (g,x)::r=>if g=f then(g,v)::r else(g,x)::qU f v r
theorem ur(f g:Str)(v:V):∀fs:T0 (Str×V),(qU f v fs).lookup g=if g=f then some v else fs.lookup g
 | []=>by
  show List.lookup g [(f,v)]=_;by_cases h:g=f
  .have hb:(g==f)=true:=fG.mpr h;simp only[List.lookup,hb,bw h]
  .have hb:(g==f)=false:=eU.mpr h;simp only[List.lookup,hb,bq h]
 | (k,x)::r=>by
  have ih:=ur f g v r;rw[show qU f v ((k,x)::r)=(if k=f then(k,v)::r else(k,x)::qU f v r)from rfl];by_cases hk:k=f
  .rw[bw hk];by_cases h:g=k
   .have hb:(g==k)=true:=fG.mpr h;simp only[List.lookup,hb,bw (h.trans hk)]
   .have hb:(g==k)=false:=eU.mpr h;simp only[List.lookup,hb,bq (λe:g=f=>h (e.trans hk.symm))]
  .rw[bq hk];by_cases h:g=k
   .have hb:(g==k)=true:=fG.mpr h;simp only[List.lookup,hb,bq (λe:g=f=>hk (h.symm.trans e))]
   .have hb:(g==k)=false:=eU.mpr h;simp only[List.lookup,hb];exact ih
theorem uc(f:Str)(v:V):∀fs:T0 (Str×V),f∈(qU f v fs).map (·.1)/\∀g,g∈fs.map (·.1)->g∈(qU f v fs).map (·.1)
 | []=>⟨by simp[qU],λg h=>by simp at h⟩
 | (k,x)::r=>by
  obtain⟨i1,i2⟩:=uc f v r;rw[show qU f v ((k,x)::r)=(if k=f then(k,v)::r else(k,x)::qU f v r)from rfl];by_cases hk:k=f
  .rw[bw hk];subst hk;exact⟨by simp,λg h=>by simpa using h⟩
  .rw[bq hk];refine⟨?_,λg h=>?_⟩
   .rw[b6];exact bK _ i1
   .rw[b6]at h ⊢;rcases br.mp h with e|e
    .exact br.mpr (.inl e)
    .exact bK _ (i2 g e)
theorem uB(f:Str)(v:V):∀fs:T0 (Str×V),(qU f v fs).length<=fs.length+1
 | []=>by simp[qU]
 | (k,x)::r=>by
  have ih:=uB f v r;rw[show qU f v ((k,x)::r)=(if k=f then(k,v)::r else(k,x)::qU f v r)from rfl];by_cases hk:k=f
  .rw[bw hk,bT,bT];lia
  .rw[bq hk,bT,bT];lia
def tP.some_of{v:V}{o:Option Vl}(r:tP (some v) o):∃u,o=some u/\nK v u:=by
 cases o with
 | none=>exact(show False from r).elim
 | some u=>exact⟨u,rfl,r⟩
def tP.none_of{o:Option Vl}(r:tP none o):o=none:=by
 cases o with
 | none=>rfl
 | some u=>exact(show False from r).elim
def B1{v:V}{u:Vl}(r:nK v u):W.handedIn u=true:=by
 cases v with
 | lB=>cases(show u=Value.none from r);rfl
 | bl b=>cases(show u=Value.bool b from r);rfl
 | int i=>obtain⟨t,e⟩:=(show ∃t,u=Value.int i t from r);cases e;rfl
 | str x=>obtain⟨t,e⟩:=(show ∃t,u=Value.str x t from r);cases e;rfl
 | byt b=>obtain⟨t,e⟩:=(show ∃t,u=Value.bytes b t from r);cases e;rfl
 | flt b=>obtain⟨t,e⟩:=(show ∃t,u=Value.float b t from r);cases e;rfl
 | ref a=>cases(show u=Value.ref a from r);rfl
 | ty n=>cases(show u=Value.type n from r);rfl
section
variable {P:Pg}{w:Wo}{a:Addr}{fs fs':T0 (Str × V)}
def uZ(lC:tz P w H h)(e:H a=some (.ins C dx fs)):∃mA,AC h a dx C mA/\(∀f,tP (fs.lookup f) (mA f))/\PySem.Within mA (fs.map (·.1))/\fs.length<=1000/\H dx=some (.own a):=by obtain⟨d,z,ne,ob,mA,n,r,q⟩:=(show oo P w H h a (.ins C dx fs)from lC a _ e);exact⟨mA,⟨ob,n,ne⟩,r,q,z,d⟩
end
structure Cls(K:m9)(C:Addr):Prop where
 pg:W.plainGet K C Str.empty=true
 hd:W.hasDictIn K C=true
 po:W.plainOver K C=true
 sa:W.findIn K (.ref C) "__setattr__"=some (some (.builtin "object.__setattr__"))
def Cls.get{K:m9}{C:Addr}(c:Cls K C)(f:Str):W.plainGet K C f=true:=c.pg
def pV(K:m9)(C:Addr)(f:Str):Prop:=W.findIn K (.ref C) f=some none
def pV.mq{K:m9}{C:Addr}{f:Str}(n:pV K C f):W.takerIn K C f=some none:=by unfold W.takerIn;rw[show W.findIn K (.ref C) f=some none from n];rfl
structure sW(K:m9)(C:Addr)(m:Str)(f:Addr):Prop where
 at_:W.findIn K (.ref C) m=some (some (.ref f))
 fn:W.isFn K (.ref f)=true
 kp:W.keepIn K (.ref f)=true
section
variable {Y:St}{a:Addr}{fs:T0 (Str × V)}{f:Str}{v:V}{E:QQX}
def Aj{b:Bool}{Q:QQX}(I:Inv X Mf Y H s)(e:H a=some (.ins C dx fs))(c:Cls X.K C)(n:pV X.K C f)(l:fs.lookup f=some v) (h:∀u s',Inv X Mf Y H s'->nK v u->Q u s'):wpAny (model X.prog X.w) A (getAttr (.ref a) f b) Q E s:=by
 obtain⟨mA,O,r,_,_,_⟩:=uZ I.lC e;obtain⟨u,hu,ru⟩:=tP.some_of (v:=v) (o:=mA f) (by rw[<-l];exact r f);exact FI I.lJ O (c.get f) c.hd n hu (B1 ru) (h u _ (I.tok _) ru)
def AE{m:Str}{g:Addr}{pl:Sem Bool}{Q:Vl×T0 Vl->Sd->Prop}(I:Inv X Mf Y H s)(e:H a=some (.ins C dx fs))(c:Cls X.K C)(k:sW X.K C m g)(l:fs.lookup m=none) (h:Q (.ref g,[.ref a]) s):wpAny (model X.prog X.w) A (getMethod (.ref a) m pl) Q E s:=by
 obtain⟨mA,O,r,_,_,_⟩:=uZ I.lC e;have hn:mA m=none:=tP.none_of (by rw[<-l];exact r m);exact EJ I.lJ O (c.get m) k.at_ k.fn hn h
def Aw{y:V}{u:Vl}{Q:Unit->Sd->Prop}(I:Inv X Mf Y H s)(e:H a=some (.ins C dx fs))(c:Cls X.K C)(n:pV X.K C f)(hl:fs.length<1000)(ry:nK y u) (h:∀s',Inv X Mf Y (upd H a (.ins C dx (qU f y fs))) s'->Q () s'):wpAny (model X.prog X.w) A (setAttr (.ref a) f u) Q E s:=by
 obtain⟨mA,O,r,wi,_,ho⟩:=uZ I.lC e;have hz:(fs.map (·.1)).length<=sizeLine:=by rw[bi,cb];lia
 refine GK I.lJ O c.sa c.po n.mq c.hd wi hz λh' O' sb=>h _ ?_;have hd:∃o,h'.get? dx=some o:=let⟨o,_,_,e',_⟩:=O'.ns;⟨o,e'⟩;refine I.write (x:=a) (e:=dx) (by rw[e];exact True.intro) (.inr ho) (λb q hb z=>(sb.2 b hb).trans z) hd ?_;refine⟨by rw[nh O.ne];exact ho,?_,O.ne,O'.obj,_,O'.ns,λg=>?_,λg hg=>?_⟩
 .have:=uB f y fs;lia
 .show tP ((qU f y fs).lookup g) (if g=f then some u else mA g);rw[ur];by_cases q:g=f
  .rw[bw q,bw q];exact ry
  .rw[bq q,bq q];exact r g
 .by_cases q:g=f
  .rw[q];exact(uc f y fs).1
  .refine(uc f y fs).2 g (wi g λz=>hg ?_);show(if g=f then some u else mA g)=none;rw[bq q];exact z
def Inv.made(I:Inv X Mf Y H s):Inv X Mf Y (upd (upd H s.heap.objs.size (.own (s.heap.objs.size+1))) (s.heap.objs.size+1) (.ins C s.heap.objs.size [])) {s with heap:=(s.heap.push W.emptyDict).push (W.instObj C s.heap.objs.size)}:=by
 have e1:(s.heap.push W.emptyDict).get? s.heap.objs.size=some W.emptyDict:=bE s.heap rfl;have e2:((s.heap.push W.emptyDict).push (W.instObj C s.heap.objs.size)).get? (s.heap.objs.size+1)=some (W.instObj C s.heap.objs.size):=by
  have:=bE (s.heap.push W.emptyDict) (o:=W.instObj C s.heap.objs.size) rfl
  rwa [b8]at this
 have e3:(s.heap.push W.emptyDict).Ns s.heap.objs.size (λ_=>none):=⟨W.emptyDict,#[],_,e1,rfl,(λe he=>absurd he (by simp)),λ_=>rfl⟩;have I1:=I.laid (a:=s.heap.objs.size) (o:=.own (s.heap.objs.size+1)) (h':=s.heap.push W.emptyDict) (t':=s.toks) (λb u q=>bp _ q) (bB _) ⟨_,e1⟩;refine I1.laid (a:=s.heap.objs.size+1) (o:=.ins C s.heap.objs.size []) (t':=s.toks) (λb u q=>bp _ q) (jI (b8 _ _)) ?_;have ne:s.heap.objs.size≠s.heap.objs.size+1:=bH (d9 _);refine⟨by rw[nh ne,m7],cu _,ne,e2,λ_=>none,(Heap.Ns1.of_empty e3).at λo q=>bp _ q,λ_=>True.intro,λy hy=>absurd rfl hy⟩
def Fy{prog:Pg}{w:Wo}{env:Env}{e:Expr}{f:Str}{pos:Pos}{s:Sd}{Q:QQX}(hb:attributeBase e f env (eval e env)=eval e env) (h:wpAny (model prog w) A (eval e env) (λo s₁=>wpAny (model prog w) A (getAttr o f true) Q E s₁) E s):wpAny (model prog w) A (eval (.Attribute e f pos) env) Q E s:=
 Attribute_any_ h (by rw[arm_eval_Attribute,hb])
end
def Ky(K:m9)(ta:TE)(f:Str):TE:=λY H Q=>ta Y H λx H1=>∃a C dx fs v,x=.ref a/\H1 a=some (.ins C dx fs)/\Cls K C/\pV K C f/\fs.lookup f=some v/\Q v H1
def Lf(K:m9)(ta tv:TE)(f:Str):TS:=λD Y H=>tv Y H λy H1=>ta Y H1 λx H2=>∃a C dx fs,x=.ref a/\H2 a=some (.ins C dx fs)/\Cls K C/\pV K C f/\fs.length<1000/\
 D.nx Y (upd H2 a (.ins C dx (qU f y fs)))
variable {value:Expr}{MB tpos:Pos}{tv:TE}
section
variable {o e:Expr}{f:Str}
def HE(he:PE X e ta)(hb:attributeBase e f X.env (eval e X.env)=eval e X.env):PE X (.Attribute e f pos) (Ky X.K ta f):=by intro Mf s Y H Q I h;refine Fy hb (pB (he Mf s Y H _ I h) λu s1 zz=>?_);obtain⟨x,H1,I1,rx,a,C,dx,fs,v,ex,ea,c,n,l,q⟩:=zz;subst ex;obtain rfl:u=Value.ref a:=rx;exact Aj I1 ea c n l λu' s2 I2 ru=>⟨v,H1,I2,ru,q⟩
def II(ha:PE X o ta)(hv:PE X value tv)(hs:swapsWith value (some (.Attribute o f MB)) pos.line X.env=pure false):PS X (.Assign [.Attribute o f MB] value pos) (Lf X.K ta tv f):=by intro Mf s Y H D I h;refine plainObj_wpAny_Assign_Attribute (pB (hv Mf s Y H _ I h) λu s1 zz=>x5 zz λy H1 I1 ry q=>pB (ha Mf s1 Y H1 _ I1 q) λov s2 zz=>?_) hs;obtain⟨x,H2,I2,rx,a,C,dx,fs,ex,ea,c,n,l,q2⟩:=zz;subst ex;obtain rfl:ov=Value.ref a:=rx;exact Aw I2 ea c n l ry λs3 I3=>⟨Y,_,I3,q2⟩
end
variable {Q:QQX}
section
variable {Y:St}{E:QQX}{c:Vl}{b:Bool}
inductive uQ(K:m9)(H:Hp):V->Vl->Prop where
 | lB:uQ K H .lB (.type "NoneType")
 | bl (x:Bool):uQ K H (.bl x) (.type "bool")
 | int (i:Int):uQ K H (.int i) (.type "int")
 | str (x:Str):uQ K H (.str x) (.type "str")
 | flt (x:UInt64):uQ K H (.flt x) (.type "float")
 | lst {a:Addr} {xs:List V} (e:H a=some (.lst xs)):uQ K H (.ref a) (.type "list")
 | frz {a:Addr} {o:Obj} {xs:List V} (e:H a=some (.frz o (.lst xs))):uQ K H (.ref a) (.type "list")
 | tup {a:Addr} {xs:List V} (e:H a=some (.tup xs)):uQ K H (.ref a) (.type "tuple")
 | dK {a:Addr} {kvs:List (nZ×V)} (e:H a=some (.dK kvs)):uQ K H (.ref a) (.type "dict")
 | dT {a:Addr} {kvs:List (List nZ×V)} (e:H a=some (.dT kvs)):uQ K H (.ref a) (.type "dict")
 | ins {a C dx:Addr} {fs:List (Str×V)} (e:H a=some (.ins C dx fs)) (cl:Cls K C) (ha:W.findIn K (.ref C) "__class__"=some (some (.builtin "object.__class__")))
   (hn:W.specialIn K (.builtin "object.__class__") "__get__"=some (some (.builtin "getset_descriptor.__get__"))) (htk:W.takesIn K (.builtin "object.__class__")=some true)
   (hm:W.mroIn K C (.type "object")=some true):uQ K H (.ref a) (.ref C)
def pQ{x:V}{u t:Vl}(I:Inv X Mf Y H s)(rx:nK x u)(ty:uQ X.K H x t)(e:W.kitOne X.K t c=some b)(h:∀tk,Q (.bool b) {s with toks:=tk}):
  wpAny (model X.prog X.w) A (call (.builtin "isinstance") [u,c]) Q E s:=by
 cases ty with
 | lB=>cases(show u=Value.none from rx);exact dW W.kitx_none I.lJ True.intro e (λz=>nomatch z) h
 | bl y=>cases(show u=Value.bool y from rx);exact dW W.kitx_bool I.lJ True.intro e (λz=>nomatch z) h
 | int i=>obtain⟨t,q⟩:=(show ∃t,u=Value.int i t from rx);cases q;exact dW W.kitx_int I.lJ True.intro e (λz=>nomatch z) h
 | str y=>obtain⟨t,q⟩:=(show ∃t,u=Value.str y t from rx);cases q;exact dW W.kitx_str I.lJ True.intro e (λz=>nomatch z) h
 | flt y=>obtain⟨t,q⟩:=(show ∃t,u=Value.float y t from rx);cases q;exact dW W.kitx_float I.lJ True.intro e (λz=>nomatch z) h
 | @lst a xs ea=>cases(show u=Value.ref a from rx);obtain⟨_,_,n,_,h1⟩:=(show oo X.prog X.w H s.heap a (.lst xs)from I.lC a _ ea);exact dW ka I.lJ ⟨_,h1,rfl⟩ e (λz=>nomatch z) h
 | @frz a ob xs ea=>cases(show u=Value.ref a from rx);obtain⟨_,_,_,n,_,h1⟩:=(show oo X.prog X.w H s.heap a (.frz ob (.lst xs))from I.lC a _ ea);exact dW ka I.lJ ⟨_,h1,rfl⟩ e (λz=>nomatch z) h
 | @tup a xs ea=>cases(show u=Value.ref a from rx);obtain⟨_,_,_,p⟩:=(show oo X.prog X.w H s.heap a (.tup xs)from I.lC a _ ea);obtain⟨o,h1,h2,_⟩:=p;exact dW W.kitx_tuple I.lJ ⟨o,h1,h2⟩ e (λz=>nomatch z) h
 | @dK a kvs ea=>cases(show u=Value.ref a from rx);obtain⟨_,_,vs,_,p⟩:=(show oo X.prog X.w H s.heap a (.dK kvs)from I.lC a _ ea);obtain⟨o,es,ep,h1,h2,_⟩:=p;exact dW W.kitx_dict I.lJ ⟨o,h1,h2.1⟩ e (λz=>nomatch z) h
 | @dT a kvs ea=>cases(show u=Value.ref a from rx);obtain⟨_,_,xs,_,o,es,ep,h1,h2,_⟩:=(show oo X.prog X.w H s.heap a (.dT kvs)from I.lC a _ ea);exact dW W.kitx_dict I.lJ ⟨o,h1,h2.1⟩ e (λz=>nomatch z) h
 | @ins a C dx fs ea cl ha hn htk hm=>cases(show u=Value.ref a from rx);obtain⟨mA,O,_⟩:=uZ I.lC ea;obtain⟨od,J,_⟩:=O.look;exact dW (W.kitx_own (cl.get _) cl.hd ha hn htk hm) I.lJ J e (λz=>nomatch z) h
end
structure oO(k:Nat)(A:Ar):Prop where
 hd:A.handled=none
 dp:A.depth+3*k+5<recursionLimit
 un:A.units+16*k+200<cLine
def oO.mono{j k:Nat}{A:Ar}(r:oO k A)(h:j<=k):oO j A:=⟨r.hd,by have:=r.dp;lia,by have:=r.un;lia⟩
def oO.deeper{k:Nat}{A:Ar}(r:oO (k+1) A)(env:Env):oO k (A.deeper env):=
 ⟨r.hd,by have:=r.dp;show A.depth+1+3*k+5<_;lia,by have:=r.un;show A.units+3+16*k+200<_;lia⟩
def Am{A:Ar}{C:Addr}{us:T0 Vl}{kw:T0 (Str×Vl)}:(A.under (.builtin "type.__call__" ⟨.ref C::us,kw⟩)).depth=A.depth+1:=by first|rfl|simp[Around.under,Code.weight,Code.isCreation,Code.isGuard,Code.isCaller,Code.frames,Code.isFrame,guardIds]
def AX{A:Ar}{C:Addr}{us:T0 Vl}{kw:T0 (Str×Vl)}:(A.under (.builtin "type.__call__" ⟨.ref C::us,kw⟩)).units=A.units+1:=by first|rfl|simp[Around.under,Code.cUnits,Code.frames,Code.isFrame]
def oO.make{k:Nat}{A:Ar}(r:oO (k+1) A)(C:Addr)(us:T0 Vl)(kw:T0 (Str×Vl)):oO k (A.under (.builtin "type.__call__" ⟨.ref C::us,kw⟩)):=
 ⟨r.hd,by have:=r.dp;rw[Am];lia,by have:=r.un;rw[AX];lia⟩
def oO.depth{k:Nat}{A:Ar}(r:oO k A):A.depth<recursionLimit:=by have:=r.dp;lia
def oO.units{k:Nat}{A:Ar}(r:oO k A):A.units+64<cLine:=by have:=r.un;lia
def JT:TA:=λ_ H Q=>Q [] H
def JQ(ta:TE)(tr:TA):TA:=λY H Q=>ta Y H λx H1=>tr Y H1 λxs H2=>Q (x::xs) H2
variable {es:T0 Expr}
section
variable {e:Expr}{t:TA}
def Ij:PA X [] JT:=λ_ _ _ _ H Q I h=>ft ⟨[],H,I,.nil,h⟩
def Fn(ha:PE X e te)(hr:PA X es t)(hs:xG X e es:=by rfl):PA X (e::es) (JQ te t):=by intro pos Mf s Y H Q I h;rw[hs];show wpAny _ _ (spliced ((false,eval e X.env)::backTo pos (starEach es X.env))) _ _ s;refine fh (pB (ha Mf s Y H _ I h) λu s1 zz=>x5 zz λx H1 I1 r1 q1=>?_);exact pB (hr pos Mf s1 Y H1 _ I1 q1) λus s2 zz=>x5 zz λxs H2 I2 r2 q2=>⟨x::xs,H2,I2,.cons r1 r2,q2⟩
def KB(t:TA):TE:=λY H Q=>t Y H λxs H1=>xs.length<=sizeLine/\∀p,H1 p=none->Q (.ref p) (upd H1 p (.tup xs))
def KR(t:TA):TE:=λY H Q=>t Y H λxs H1=>xs.length<=sizeLine/\∀p,H1 p=none->Q (.ref p) (upd H1 p (.lst xs))
def Ic{x1}(h:PA X es t):PE X (.Tuple es x1 pos) (KB t):=by intro Mf s Y H Q I hq;refine wpAny_Tuple_spliced (pB (h pos Mf s Y H _ I hq) λus s1 ⟨xs,H1,I1,r,z,q⟩=>⟨by rw[<-r.length];exact z,?_⟩);have hf:H1 s1.heap.objs.size=none:=I1.lC.fresh (bB _);refine⟨.ref s1.heap.objs.size,upd H1 s1.heap.objs.size (.tup xs),I1.laid (t':=s1.toks) (λb u e=>bp _ e) (bB _) ?_,rfl,q _ hf⟩;exact⟨z,us,r,⟨_,bE _ rfl,rfl,⟨_,rfl⟩,rfl⟩⟩
def I9(h:PA X es t):PE X (.List es pos) (KR t):=by intro Mf s Y H Q I hq;refine wpAny_List_spliced (pB (h pos Mf s Y H _ I hq) λus s1 ⟨xs,H1,I1,r,z,q⟩=>⟨by rw[<-r.length];exact z,?_⟩);have hf:H1 s1.heap.objs.size=none:=I1.lC.fresh (bB _);refine⟨.ref s1.heap.objs.size,upd H1 s1.heap.objs.size (.lst xs),I1.laid (t':=s1.toks) (λb u e=>bp _ e) (bB _) ?_,rfl,q _ hf⟩;exact⟨z,us,0,r,bE _ rfl⟩
end
abbrev Sp:=T0 V->Hp->VK->XK->Prop
abbrev DW:=T0 Env->Hp->Sd->XK->Vl->Sd->Prop
structure AF(P:Pg)(w:Wo)(K:m9)(mg:QQZ)(base:Heap)(A:Ar)(outer:List Env)(s:Sd)(H:Hp):Prop where
 frames:A.frames=some outer
 mod:Mod K mg base
 bs:∀b o,base.get? b=some o->s.heap.get? b=some o/\H b=none
 md:base.objs.size<=s.heap.objs.size
 lO:s.heap.FunFrames base outer
 mo:∀b∈D5 outer,H b=none
 lC:tz P w H s.heap
 bare:AllBare s.gens
def CE(outer:T0 Env)(P:Pg)(w:Wo)(H:Hp)(s:Sd)(Q:VK)(u:Vl)(s':Sd):Prop:=
 ∃v H',s'.os=s.os/\AllBare s'.gens/\Un (D5 outer) [] H H' s.heap s'.heap/\tz P w H' s'.heap/\nK v u/\Q v H'
def CR(CX:DW)(outer:T0 Env)(P:Pg)(w:Wo)(H:Hp)(s:Sd)(Q:VK)(E:XK)(r:Result)(s':Sd):Prop:=
 match r with
 | .ok (.ret u)=>CE outer P w H s Q u s'
 | .ok _=>False
 | .error e=>CX outer H s E e s'
structure vC(P:Pg)(w:Wo)(K:m9)(mg:QQZ)(base:Heap)(CX:DW)(k:Nat)(f:Addr)(fd:FuncData)(ps:QQQ)(sp:Sp):Prop where
 len:∀vs H Q E,sp vs H Q E->vs.length=ps.length
 run:∀(A:Ar) (outer:List Env) (s:Sd) (H:Hp) (args:Args) (us:List Vl) (vs:List V) (Q:VK) (E:XK),oO k A->AF P w K mg base A outer s H->BindsTo s fd args (ps.zip us)->nv vs us->sp vs H Q E->
  codeAny (model P w) A (.call (.ref f) args) (CR CX outer P w H s Q E) s
def AF.make{P:Pg}{w:Wo}{K:m9}{mg:QQZ}{base:Heap}{A:Ar}{outer:T0 Env}{s:Sd}{H:Hp}(e:AF P w K mg base A outer s H)(C:Addr)(us:T0 Vl)(kw:T0 (Str×Vl)):
  AF P w K mg base (A.under (.builtin "type.__call__" ⟨.ref C::us,kw⟩)) outer s H:=⟨by first|exact e.frames|(simpa [Around.under,Code.envs,Code.isFrame,pushEnvs]using e.frames),e.mod,e.bs,e.md,e.lO,e.mo,e.lC,e.bare⟩
variable {s':Sd}
section
variable {Y:St}
def Inv.mB(I:Inv X Mf Y H s):AF X.prog X.w X.K X.mg X.base X.A X.stack s H:=
 ⟨I.ok.frames,I.ok.mod,I.bs,bQ I.ok.md I.sz,I.stack,I.l4,I.lC,I.bare⟩
def Inv.after{Q:VK}{u:Vl}(I:Inv X Mf Y H s)(h:CE X.stack X.prog X.w H s Q u s'):EP X Mf Y Q u s':=by obtain⟨v,H',os,bare,un,lC,r,q⟩:=h;obtain⟨hh,g,d,t,OT⟩:=s';obtain rfl:OT=s.os:=os;exact⟨v,H',I.call (h':=hh) (g':=g) (d':=d) (t':=t) (ch:=[]) un lC bare (λb z=>absurd z (by simp)),r,q⟩
end
def JA(sp:Sp)(Nq:T0 V)(E:XK)(t:TA):TE:=λY H Q=>t Y H λvs H1=>sp (vs++Nq) H1 Q E
def J1(C:Addr)(sp:Sp)(Nq:T0 V)(E:XK)(t:TA):TE:=λY H Q=>t Y H λvs H1=>∀x dx,H1 x=none->H1 dx=none->dx≠x->
 sp (.ref x::(vs++Nq)) (upd (upd H1 dx (.own x)) x (.ins C dx [])) (λv H2=>v=.lB/\Q (.ref x) H2) E
def qW(K:m9)(fd:FuncData)(ps:QQQ)(ds:T0 Vl):Prop:=
 ∀(s:Sd) (us:T0 Vl),K.In s.heap->(us++ds).length=ps.length->BindsTo s fd ⟨us,[]⟩ (ps.zip (us++ds))
def qW.all{K:m9}{fd:FuncData}{ps:QQQ}(h:∀us:T0 Vl,us.length=ps.length->bindArgs fd ⟨us,[]⟩=pure (ps.zip us)):qW K fd ps []:=λs us _ hl=>by rw[bY]at hl ⊢;exact .of_eq (h us hl)
def vY(CX:DW)(X:Cx)(E:XK):Prop:=∀(Mf:QQY) (Y:St) (H:Hp) (s:Sd) (e:Vl) (s':Sd),Inv X Mf Y H s->CX X.stack H s E e s'->X.xe e s'
variable {CX:DW}{k:Nat}{fd:FuncData}{ps:QQQ}{sp:Sp}{Nq:T0 V}{ds:T0 Vl}{m:Str}{p Mj:Pos}
section
variable {f:Addr}{E:XK}{x:Str}{e o:Expr}{t:TA}
def AQ{Mf:QQY}{Y:St}{H:Hp}{s:Sd}{Q:VK}{us:T0 Vl}{vs:T0 V}(F:vC X.prog X.w X.K X.mg X.base CX k f fd ps sp)(hr:oO k X.A)(hb:qW X.K fd ps ds)(hd:nv Nq ds)(hx:vY CX X E) (I:Inv X Mf Y H s) (r:nv vs us) (h:sp (vs++Nq) H Q E):wpAny (model X.prog X.w) X.A (call (.ref f) us) (EP X Mf Y Q) X.xe s:=by
 have r2:nv (vs++Nq) (us++ds):=r.append hd;have hl:(us++ds).length=ps.length:=by rw[<-r2.length];exact F.len _ _ _ _ h
 refine gK (dR (F.run X.A X.stack s H ⟨us,[]⟩ (us++ds) (vs++Nq) Q E hr I.mB (hb s us I.lJ hl) r2 h) λr s' hq=>?_);cases r with
 | error e=>exact hx Mf Y H s e s' I hq
 | ok fl=>
  cases fl with
  | ret u=>exact I.after hq
  | next=>exact False.elim hq
  | brk=>exact False.elim hq
  | cont=>exact False.elim hq
def FX(F:vC X.prog X.w X.K X.mg X.base CX k f fd ps sp)(hr:oO k X.A)(hg:Gl X x)(hm:X.mg x=some (.ref f))(hk:W.keepIn X.K (.ref f)=true)(hb:qW X.K fd ps ds)(hd:nv Nq ds)(hx:vY CX X E) (ha:PA X (e::es) t) (ME:va x:=by decide) (he:xG X e es:=by rfl) (MA:yL X pos es:=by rfl):
  PE X (.Call (.Name x p) (e::es) [] pos) (JA sp Nq E t):=by
 intro Mf s Y H Q I h;refine dn (uV I hg hm ?_ ME);refine jJ (h₀:=X.base) I.ok.mod.ml hk (pB (ha pos Mf s Y H _ I h) λus s1 zz=>x5 zz λvs H1 I1 r q=>⟨I1.lJ,?_⟩) he MA;exact AQ F hr hb hd hx I1 r q
structure Mk(K:m9)(C f:Addr):Prop where
 makes:W.makesIn K C=true
 init:W.findIn K (.ref C) "__init__"=some (some (.ref f))
 fn:W.isFn K (.ref f)=true
 kp:W.keepIn K (.ref C)=true
def Di{Mf:QQY}{Y:St}{H:Hp}{s:Sd}{Q:VK}{us:T0 Vl}{vs:T0 V}(M:Mk X.K C f)(F:vC X.prog X.w X.K X.mg X.base CX k f fd ps sp)(hr:oO (k+1) X.A)(hb:qW X.K fd ps ds)(hd:nv Nq ds) (hx:vY CX X E) (I:Inv X Mf Y H s) (r:nv vs us) (h:∀x dx,H x=none->H dx=none->dx≠x->sp (.ref x::(vs++Nq)) (upd (upd H dx (.own x)) x (.ins C dx [])) (λv H2=>v=.lB/\Q (.ref x) H2) E):
  wpAny (model X.prog X.w) X.A (call (.ref C) us) (EP X Mf Y Q) X.xe s:=by
 have hq:=h (s.heap.objs.size+1) s.heap.objs.size (I.lC.fresh (dQ _)) (I.lC.fresh (bB _)) (bH (d9 _));have I2:=Inv.made (C:=C) I;have r2:nv (V.ref (s.heap.objs.size+1)::(vs++Nq)) (Value.ref (s.heap.objs.size+1)::(us++ds)):=.cons rfl (r.append hd);have hl:(Value.ref (s.heap.objs.size+1)::us++ds).length=ps.length:=by have e:=r2.length;rw[F.len _ _ _ _ hq]at e;exact e.symm
 refine gK (Eh (f:=f) I.lJ M.makes M.init (fG.mp M.fn) (dR (F.run _ X.stack _ _ ⟨Value.ref (s.heap.objs.size+1)::us,[]⟩ (Value.ref (s.heap.objs.size+1)::(us++ds)) _ _ E (hr.make C us [])
  (I2.mB.make C us []) (hb _ (Value.ref (s.heap.objs.size+1)::us) I2.lJ hl) r2 hq) λr s' hq'=>?_))
 cases r with
 | error e=>exact hx Mf Y _ _ e s' I2 hq'
 | ok fl=>
  cases fl with
  | ret u=>obtain⟨v,H',I3,rv,ev,q3⟩:=I2.after hq';subst ev;exact⟨rv,⟨V.ref (s.heap.objs.size+1),H',I3,rfl,q3⟩⟩
  | next=>exact False.elim hq'
  | brk=>exact False.elim hq'
  | cont=>exact False.elim hq'
def FD(M:Mk X.K C f)(F:vC X.prog X.w X.K X.mg X.base CX k f fd ps sp)(hr:oO (k+1) X.A)(hg:Gl X x)(hm:X.mg x=some (.ref C))(hb:qW X.K fd ps ds)(hd:nv Nq ds)(hx:vY CX X E) (ha:PA X (e::es) t) (ME:va x:=by decide) (he:xG X e es:=by rfl) (MA:yL X pos es:=by rfl):
  PE X (.Call (.Name x p) (e::es) [] pos) (J1 C sp Nq E t):=by
 intro Mf s Y H Q I h;refine dn (uV I hg hm ?_ ME);refine jJ (h₀:=X.base) I.ok.mod.ml M.kp (pB (ha pos Mf s Y H _ I h) λus s1 zz=>x5 zz λvs H1 I1 r q=>⟨I1.lJ,?_⟩) he MA;exact Di M F hr hb hd hx I1 r q
end
variable {g:T0 Vl→T0 Vl→T0 Vl}{gV:T0 V→T0 V→T0 V}{ks:QQQ}{kpos:Pos}{kws:T0 Keyword}{tk:TA}{nm:Option Str}
section
variable {f:Addr}{E:XK}{x:Str}{e o:Expr}{t:TA}
end
structure pX(N P:QQQ)(sc:Scope):Prop where
 kind:sc.kind=.function
 co:sc.isCoroutine=false
 gen:sc.isGenerator=false
 nd:N.Nodup
 pre:N.take P.length=P
 par:∀x∈P,sc.names.lookup x=some .local\/sc.names.lookup x=some .cell
 mE:∀y∈sc.names,y.2≠.free
theorem wY{kindOf:Str->Option NameKind}{x:Str}:∀{binds:T0 (Str×Vl)} {m:QQZ},(∀v,(x,v)∉binds)->bindL kindOf binds m x=m x
 | [],_,_=>rfl
 | (n,v)::r,m,h=>by
  unfold bindL;rw[wY λw hw=>h w (bK _ hw)];split
  .have:x≠n:=by rintro rfl;exact h v bG
   simp[this]
  .rfl
theorem xc{kindOf:Str->Option NameKind}{x:Str}:∀{binds:T0 (Str×Vl)} {m:QQZ},(∀v,(x,v)∉binds)->bindC kindOf binds m x=m x
 | [],_,_=>rfl
 | (n,v)::r,m,h=>by
  unfold bindC;rw[xc λw hw=>h w (bK _ hw)];split
  .rfl
  .have:x≠n:=by rintro rfl;exact h v bG
   simp[this]
theorem xn{kindOf:Str->Option NameKind}{x:Str}{v:Vl}:∀{P:QQQ} {vs:T0 Vl} {i:Nat} {m:QQZ},P.Nodup->P[i]?=some x->vs[i]?=some v->kindOf x=some .local->
  bindL kindOf (P.zip vs) m x=some v
 | [],_,_,_,_,h,_,_=>by simp at h
 | _::_,[],_,_,_,_,h,_=>by simp at h
 | p::P,w::vs,0,m,nd,h1,h2,hk=>by simp at h1 h2;subst h1;subst h2;show bindL kindOf ((p,w)::P.zip vs) m p=_;unfold bindL;rw[wY λv hv=>(cp.mp nd).1 (iY hv).1,bw hk];simp
 | p::P,w::vs,i+1,m,nd,h1,h2,hk=>by show bindL kindOf ((p,w)::P.zip vs) m x=_;unfold bindL;exact xn (i:=i) (cp.mp nd).2 (by simpa using h1) (by simpa using h2) hk
theorem wJ{kindOf:Str->Option NameKind}{x:Str}{v:Vl}:∀{P:QQQ} {vs:T0 Vl} {i:Nat} {m:QQZ},P.Nodup->P[i]?=some x->vs[i]?=some v->kindOf x≠some .local->
  bindC kindOf (P.zip vs) m x=some v
 | [],_,_,_,_,h,_,_=>by simp at h
 | _::_,[],_,_,_,_,h,_=>by simp at h
 | p::P,w::vs,0,m,nd,h1,h2,hk=>by simp at h1 h2;subst h1;subst h2;show bindC kindOf ((p,w)::P.zip vs) m p=_;unfold bindC;rw[xc λv hv=>(cp.mp nd).1 (iY hv).1,bq hk];simp
 | p::P,w::vs,i+1,m,nd,h1,h2,hk=>by show bindC kindOf ((p,w)::P.zip vs) m x=_;unfold bindC;exact wJ (i:=i) (cp.mp nd).2 (by simpa using h1) (by simpa using h2) hk
noncomputable def sI(N:QQQ)(vs:T0 V):St:=vs.map some++List.replicate (N.length - vs.length) none
noncomputable def xY(CX:DW)(P:Pg)(w:Wo)(K:m9)(mg:QQZ)(base:Heap)(N:QQQ)(qual:Str)(scope:Scope)(f:Addr)(cd:Vl)(A:Ar)(outer:T0 Env)(s:Sd)(H:Hp)(E:XK):Cx where
 prog:=P
 w:=w
 K:=K
 mg:=mg
 base:=base
 A:=A.deeper (envOfC qual scope s.heap.objs.size f cd)
 N:=N
 s₀:=s
 H₀:=H
 env:=envOfC qual scope s.heap.objs.size f cd
 outer:=outer
 stack:=envOfC qual scope s.heap.objs.size f cd::outer
 ex:=[]
 calm:=true
 fn:=λ_=>true
 pn:=[]
 xe:=λe s'=>wpAny (model P w) (A.deeper (envOfC qual scope s.heap.objs.size f cd)) (leaving (envOfC qual scope s.heap.objs.size f cd) e) (λ_ Oj=>CX outer H s E e Oj) (λe' Oj=>CX outer H s E e' Oj) s'
def zB{sc:Scope}{n:Nat}{x:Str}(h:sc.names.lookup x=some .cell):∃c,(cellsFrom n sc.names []).lookup x=some c:=by have q:=km sc.names n [] (.inl h);exact iC.mp q
def CF{CX:DW}{P:Pg}{w:Wo}{K:m9}{mg:QQZ}{base:Heap}{N ps:QQQ}{qual:Str}{scope:Scope}{f:Addr}{cd:Vl}{A:Ar}{outer:T0 Env}{s s1:Sd}{H:Hp}{E:XK}{us:T0 Vl}{vs:T0 V} (S:pX N ps scope) (hd:A.handled=none) (e0:AF P w K mg base A outer s H) (hl:vs.length=ps.length) (r:nv vs us) (x:InCallC s s.heap.objs.size (bindL (envOfC qual scope s.heap.objs.size f cd).kindOf (ps.zip us) λ_=>none) (cellsFrom (s.heap.objs.size+1) scope.names []) (bindC (envOfC qual scope s.heap.objs.size f cd).kindOf (ps.zip us) λ_=>none) s1):
  Inv (xY CX P w K mg base N qual scope f cd A outer s H E) [] (sI N vs) H s1:=by
 have MA:ps.length<=N.length:=by have:=c8 List.length S.pre;rw[cV]at this;lia
 obtain⟨h1,tk,rfl,hk⟩:=x.done;have noA:∀b:Addr,b∉(xY CX P w K mg base N qual scope f cd A outer s H E).ex:=λb z=>absurd (show b∈([]:QXQ)from z) (by simp);refine⟨⟨e0.mod,S.kind,rfl,rfl,bB _,λy z c h1 h2=>?_,λy hy=>?_,λy c _ h=>?_,λ_=>hd,Around.frames_deeper e0.frames,.inr ⟨rfl,rfl⟩,λb z=>absurd z (noA b),e0.bs,e0.md,λb _ _=>noA b,λb z=>absurd z (noA b),e0.lO,e0.mo⟩,rfl,e0.bare,Un.kept hk,⟨_,x.toInCall.ns,λi y v h1 h2 h3=>?_⟩,λy c h=>⟨_,x.cell y c h⟩,e0.lC.fresh (bB _),λy c h=>?_,λp hp=>absurd (show p∈([]:QQY)from hp) (by simp),e0.lC.kept hk,?_⟩
 .exact name_of_addr x.apart (eW h1) (eW h2)
 .have hy:scope.names.lookup y=some .cell\/scope.names.lookup y=some .free:=hy;rcases hy with hy|hy
  .exact zB hy
  .exact absurd rfl (S.mE _ (eW hy))
 .exact fT (x.above y c (eW h))
 .have hi:i<vs.length:=by
   unfold sI at h2;by_cases hi:i<vs.length
   .exact hi
   .rw[eF (by simpa using hi)]at h2;rw[iT]at h2;split at h2<;>cases h2
  have ha:vs[i]?=some v:=by
   unfold sI at h2;rw[dO (by simpa using hi),bM]at h2;cases e:vs[i]? with
   | none=>rw[e]at h2;cases h2
   | some a=>rw[e]at h2;cases h2;rfl
  obtain⟨u,hu,rv⟩:=r.get ha;have hp:ps[i]?=some y:=by rw[<-S.pre,iD (by lia)];exact h1
  have ndP:ps.Nodup:=by rw[<-S.pre];exact S.nd.sublist (jT _ _)
  refine⟨u,rv,?_⟩;rcases S.par y (cJ hp)with k|k
  .exact .inl ⟨k,xn ndP hp hu k⟩
  .obtain⟨c,e⟩:=zB (n:=s.heap.objs.size+1) k;refine .inr ⟨.inl k,c,e,?_⟩;have q:=x.cell y c e;rw[wJ ndP hp hu (by show scope.names.lookup y≠_;rw[k];decide)]at q;exact q
 .exact e0.lC.fresh (fT (x.above y c (eW h)))
 .unfold sI;show _=N.length;rw[bz,bi,gE];lia
def J5{CX:DW}{P:Pg}{w:Wo}{K:m9}{mg:QQZ}{base:Heap}{k:Nat}{f:Addr}{name qual:Str}{params:Arguments}{body:T0 Stmt}{scope:Scope}{dV kV MX pm Mv ct oc:Vl}{an od:Option Addr} {Ol:Array (Option Vl)} {N ps:QQQ} {sp:Sp} (lk:K.lookup f=some ⟨oc,od,.func (W.fnOf name qual params body scope dV kV MX pm an Mv ct),Ol⟩) (NP:W.codeIn K Mv qual=true) (S:pX N ps scope) (len:∀vs H Q E,sp vs H Q E->vs.length=ps.length) (MH:∀(A:Ar) (outer:T0 Env) (s:Sd) (H:Hp) (vs:T0 V) (Q:VK) (E:XK),oO k (A.deeper (envOfC qual scope s.heap.objs.size f Mv))->sp vs H Q E->
   ∃t,xy (xY CX P w K mg base N qual scope f Mv A outer s H E) body t/\t {nx:=λ_ H'=>Q .lB H',rt:=Q} (sI N vs) H):
  vC P w K mg base CX (k+1) f (W.fnOf name qual params body scope dV kV MX pm an Mv ct) ps sp:=by
 refine⟨len,λA outer s H args us vs Q E hr e0 hb r Oe=>?_⟩;have hl:=len _ _ _ _ Oe;have KX:K.In s.heap:=e0.mod.ml.keeps λb o e=>(e0.bs b o e).1;have lim:s.heap.NoLimit:=e0.mod.nolimit.keeps λb o e=>(e0.bs b o e).1;have hkind:∀y∈ps.zip us,scope.names.lookup y.1=some .local\/(scope.names.lookup y.1=some .cell/\((cellsFrom (s.heap.objs.size+1) scope.names []).lookup y.1).isSome=true):=λ⟨n,v⟩ hy=>by
  rcases S.par n (iY hy).1 with q|q
  .exact .inl q
  .exact .inr ⟨q,km _ _ _ (.inl q)⟩
 refine codeAny_call_function hr.depth (KX _ _ lk) rfl S.co S.gen rfl (W.codeRec_of KX NP) (hb _ _ _ _ ?_);refine wpAny_newFunctionEnv_cells S.kind hkind λenv he s1 x=>?_;subst he;refine⟨lim.keeps x.toInCall.keep,codeAny_func ?_⟩;obtain⟨t,ht,hq⟩:=MH A outer s H vs Q E (hr.deeper _) Oe;have I:Inv (xY CX P w K mg base N qual scope f Mv A outer s H E) [] (sI N vs) H s1:=CF S hr.hd e0 hl r x;refine cz (ht [] s1 (sI N vs) H _ I hq) (λfl s' hs=>?_) λe s' hs=>hs;have fin:∀{σ':St} {H':Hp} {v:V} {u:Vl},Inv (xY CX P w K mg base N qual scope f Mv A outer s H E) [] σ' H' s'->nK v u->Q v H'->CE outer P w H s Q u s':=
  λ{σ' H' v u} J rv q=>⟨v,H',J.os,J.bare,J.base,J.lC,rv,q⟩
 cases fl with
 | ret u=>obtain⟨v,σ',H',J,rv,q⟩:=hs;exact fin J rv q
 | next=>obtain⟨σ',H',J,q⟩:=hs;exact fin (v:=V.lB) (u:=Value.none) J rfl q
 | brk=>obtain⟨_,_,_,q⟩:=hs;exact False.elim q
 | cont=>obtain⟨_,_,_,q⟩:=hs;exact False.elim q
variable {id T:String}{r:T0 V→Hp→VK→Prop}
section
variable {x:Str}{e:Expr}{t:TA}
def LQ(r:T0 V->Hp->VK->Prop)(t:TA):TE:=λY H Q=>t Y H λvs H1=>r vs H1 Q
def C4(hc:sO X (.builtin id) r)(hg:Gl X x)(hm:X.mg x=none)(hv:bootBuiltins x=some (.builtin id))(ha:PA X (e::es) t)(hn:x≠"__name__":=by decide)(ME:va x:=by decide)
  (he:xG X e es:=by rfl) (MA:yL X pos es:=by rfl):PE X (.Call (.Name x p) (e::es) [] pos) (LQ r t):=by
 intro Mf s Y H Q I h;refine dn (qo I hg hm hv ?_ hn ME);exact fi (pB (ha pos Mf s Y H _ I h) λus s1 zz=>x5 zz λvs H1 I1 r1 q1=>hc Mf s1 Y H1 vs us Q I1 r1 q1) he MA
def Cm(hc:sO X (.type T) r)(hg:Gl X x)(hm:X.mg x=none)(hv:bootBuiltins x=some (.type T))(ha:PA X (e::es) t)(hn:x≠"__name__":=by decide)(ME:va x:=by decide)
  (he:xG X e es:=by rfl) (MA:yL X pos es:=by rfl):PE X (.Call (.Name x p) (e::es) [] pos) (LQ r t):=by
 intro Mf s Y H Q I h;refine dn (qo I hg hm hv ?_ hn ME);exact cQ (pB (ha pos Mf s Y H _ I h) λus s1 zz=>x5 zz λvs H1 I1 r1 q1=>hc Mf s1 Y H1 vs us Q I1 r1 q1) he MA
end
end L2
namespace HT
open PySem PyProof.Rows
section
open PySem.SeqAt
open PySem.AutoSeq1 (wpAny_loadPart')
open PySem.MeetsSeq PySem.MeetsSeq2 PySem.MeetsSeq3
end
variable {prog:Pg}{w:Wo}{A:Ar}{E:QQX}{s:Sd}
def Gp{t b:Addr}{vs ws:T0 Vl}{Q:QQX}(ht:IsTup s.heap t vs.toArray)(hb:IsTup s.heap b ws.toArray)(hv:vs≠[]) (h1:ws=[]->Q (.ref t) s) (h2:ws≠[]->Q (.ref s.heap.objs.size) {s with heap:=s.heap.push {cls:=.type "tuple",data:=.seq (vs++ws).toArray}})
  (hsz:vs.length+ws.length<=sizeLine):wpAny (model prog w) A (binaryOp .Add (.ref t) (.ref b)) Q E s:=by
 obtain⟨⟨cls,dd,data,sl⟩,ho,hc,n,hd⟩:=id ht;obtain⟨⟨cls2,dd2,data2,sl2⟩,ho2,hc2,n2,hd2⟩:=id hb;simp only at hc hd hc2 hd2;subst hc hd hc2 hd2;have e:vs.toArray++ws.toArray=(vs++ws).toArray:=by simp
 by_cases hw:ws=[]
 .exact jK ⟨_,ho,rfl⟩ ⟨_,ho2,rfl⟩ kn seq_tuple_add ja iU (iE _ _)
   (tuple_addW1 t b vs.toArray ws.toArray n n2 dd dd2 sl sl2 (by simpa using hv) (by simp[hw])) ⟨ho,ho2,h1 hw⟩
 .refine jK ⟨_,ho,rfl⟩ ⟨_,ho2,rfl⟩ kn seq_tuple_add ja iU (iE _ _)
   (tuple_addW2 t b vs.toArray ws.toArray n n2 dd dd2 sl sl2 (by simpa using hv) (by simpa using hw) (by rw[bA,bA];exact hsz)) ⟨ho,ho2,?_⟩
  rw[e];exact h2 hw
noncomputable def oV(n d:Nat):Option Int->Nat
 | none=>d
 | some v=>if v<0 then(v+(n:Int)).toNat else min v.toNat n
def Dp(n d:Nat):oV n d none=d:=rfl
def GJ(n d k:Nat):oV n d (some (k:Int))=min k n:=by show(if (k:Int)<0 then((k:Int)+(n:Int)).toNat else min (k:Int).toNat n)=min k n;rw[bq (by lia),dS]
def IP(n d:Nat)(hd:d<=n)(o:Option Int):oV n d o<=n:=by
 cases o with
 | none=>exact hd
 | some v=>
  show(if v<0 then(v+(n:Int)).toNat else min v.toNat n)<=n;by_cases hv:v<0
  .rw[bw hv];lia
  .rw[bq hv];exact kq _ _
def Bq(v:Int)(n d:Nat):(if v<0 then max (v+(n:Int)) 0 else min v (n:Int))=((oV n d (some v):Nat):Int):=by
 show(if v<0 then max (v+(n:Int)) 0 else min v (n:Int))=(((if v<0 then(v+(n:Int)).toNat else min v.toNat n):Nat):Int);by_cases hv:v<0
 .simp only[bw hv];lia
 .simp only[bq hv];lia
def AA(lo hi:Option Int)(n:Nat):Builtin.Slice.sliceAdjust lo hi 1 (n:Int)=(((oV n 0 lo:Nat):Int),((oV n n hi:Nat):Int)):=by
 have h1:¬((1:Int)<0):=by lia
 unfold Builtin.Slice.sliceAdjust;simp only[h1,gY];refine Prod.ext ?_ ?_
 .cases lo with
  | none=>rfl
  | some v=>exact Bq v n 0
 .cases hi with
  | none=>rfl
  | some v=>exact Bq v n n
def zY(i j:Nat):Builtin.Slice.slicePlaces (i:Int) (j:Int) 1=j - i:=by
 unfold Builtin.Slice.slicePlaces;have h1:(1:Int)>0:=by lia
 simp only[h1,gi,Int.ediv_one];split<;>lia
def vj{v:Vl}{o:Option Int}{Q:Option Int->Sd->Prop}(p:IsPart v o)(h:Q o s):wpAny (model prog w) A (Builtin.Slice.slicePartIndex v) Q E s:=by
 cases p with
 | none=>exact slicePart_none h
 | int i t=>exact slicePart_int h
def qV{sl:Addr}{vl vu:Vl}{lo hi:Option Int}{n:Nat}{Q:Int×Int×Nat->Sd->Prop}(hs:s.heap.IsSliceOf sl vl vu .none)(pl:IsPart vl lo)(pu:IsPart vu hi) (h:Q (((oV n 0 lo:Nat):Int),1,oV n n hi - oV n 0 lo) s):wpAny (model prog w) A (Builtin.Slice.sliceApplied (.ref sl) (pure (n:Int))) Q E s:=by
 obtain⟨os,OU,hcs,Nw⟩:=id hs;unfold Builtin.Slice.sliceApplied Builtin.Slice.sliceFields;refine bh (bh (c9 OU Nw (x:=vl) rfl (bh (c9 OU Nw (x:=vu) rfl (bh (c9 OU Nw (x:=.none) rfl (bj ?_)))))));refine bh (slicePart_none ?_);show wpAny _ _ (if ((1:Int)==0)=true then _ else _) _ _ s;rw[bq (by decide)];refine bh (vj pl (bh (vj pu (bh (bj ?_)))));show wpAny _ _ (match Builtin.Slice.sliceAdjust lo hi 1 (n:Int)with|(lo,hi)=>pure (lo,(1:Int),Builtin.Slice.slicePlaces lo hi 1)) _ _ s;rw[AA lo hi n];show wpAny _ _ (pure (((oV n 0 lo:Nat):Int),(1:Int),Builtin.Slice.slicePlaces ((oV n 0 lo:Nat):Int) ((oV n n hi:Nat):Int) 1)) _ _ s;rw[zY];exact bj h
def DA(xs:Array Vl)(i k:Nat):((List.range k).filterMap λ(m:Nat)=>xs[((i:Int)+(m:Int)*1).toNat]?).toArray=((xs.toList.drop i).take k).toArray:=by
 have e:(λ(m:Nat)=>xs[((i:Int)+(m:Int)*1).toNat]?)=λm=>xs[i+m]?:=by
  funext m;have:((i:Int)+(m:Int)*1).toNat=i+m:=by lia
  rw[this]
 rw[e];have:=pick_run xs i k;rw[List.filterMap_map]at this;have e2:((λx=>xs[x]?)∘λx=>i+x)=λm=>xs[i+m]?:=rfl;rw[e2]at this;rw[this]
def tO{t sl:Addr}{Mg:Array Vl}{vl vu:Vl}{lo hi:Option Int}{Q:QQX}(ht:IsTup s.heap t Mg)(hs:s.heap.IsSliceOf sl vl vu .none)(pl:IsPart vl lo)(pu:IsPart vu hi) (hw:¬(oV Mg.size 0 lo=0/\oV Mg.size Mg.size hi=Mg.size)) (h:Q (.ref s.heap.objs.size) {s with heap:=s.heap.push {cls:=.type "tuple",data:=.seq ((Mg.toList.drop (oV Mg.size 0 lo)).take (oV Mg.size Mg.size hi - oV Mg.size 0 lo)).toArray}})
  (hsz:Mg.size<=sizeLine):wpAny (model prog w) A (getItem (.ref t) (.ref sl)) Q E s:=by
 have NE:sizeOk (.seq ((Mg.toList.drop (oV Mg.size 0 lo)).take (oV Mg.size Mg.size hi - oV Mg.size 0 lo)).toArray):=by show((Mg.toList.drop (oV Mg.size 0 lo)).take (oV Mg.size Mg.size hi - oV Mg.size 0 lo)).toArray.size<=sizeLine;rw[bA,cV,gA,b7];lia
 have hj:oV Mg.size Mg.size hi<=Mg.size:=IP _ _ (bB _) hi;obtain⟨os,OU,hcs,Nw⟩:=id hs;have hTs:s.TypeIs (.ref sl) "slice":=⟨os,OU,hcs⟩;unfold getItem
 try with_reducible refine cB ?_
 first|refine bh (bj ?_)|skip
 refine bh (im ht.typeIs (by decide) ?_);refine bh (cG (name:=Str.ofString "__getitem__") ht.typeIs cT
  (cy cT ht.typeIs jz ?_ (jL _ _)))
 show wpAny _ _ (Builtin.Tuple.tupleItemsOf (.ref t)>>=_) _ _ s;refine bh (tupleItemsOf_ ht ?_);refine bh (fA hTs ?_);rw[bw (by decide)];refine bh (qV hs pl pu ?_);have hno:¬((((oV Mg.size 0 lo:Nat):Int)==0&&(1:Int)==1&&(oV Mg.size Mg.size hi - oV Mg.size 0 lo)==Mg.size)=true):=by intro q;rw[cO,cO]at q;have q1:((oV Mg.size 0 lo:Nat):Int)=0:=eq_of_beq q.1.1;have q2:oV Mg.size Mg.size hi - oV Mg.size 0 lo=Mg.size:=eq_of_beq q.2;exact hw ⟨by lia,by lia⟩
 show wpAny _ _ (if (((oV Mg.size 0 lo:Nat):Int)==0&&(1:Int)==1&&(oV Mg.size Mg.size hi - oV Mg.size 0 lo)==Mg.size)=true then _ else _) _ _ s;rw[bq hno,DA]
 first
  | exact bh (m:=Builtin.Tuple.tupleExact _) (cR (bj ⟨_,rfl,bj h⟩) NE)
  | exact bh (m:=Builtin.Tuple.tupleExact _) (cR (bh (bj (bj ⟨_,rfl,bj h⟩))) NE)
  | exact bh (bh (m:=Builtin.Tuple.tupleExact _) (cR (bj (bj ⟨_,rfl,bj h⟩)) NE))
  | exact bh (bh (m:=Builtin.Tuple.tupleExact _) (cR (bj ⟨_,rfl,bj h⟩) NE))
end HT
namespace L2
abbrev TO:=St->Hp->(Option Int->Hp->Prop)->Prop
def PO(X:Cx)(e:Option Expr)(t:TO):Prop:=
 ∀(Mf:QQY) (s:Sd) (Y:St) (H:Hp) (Q:Option Int->Hp->Prop),Inv X Mf Y H s->t Y H Q->
  wpAny (model X.prog X.w) X.A (evalPart e X.env) (λu s'=>∃o H',Inv X Mf Y H' s'/\IsPart u o/\Q o H') X.xe s
def FV:TO:=λ_ H Q=>Q none H
def JR(t:TE):TO:=λY H Q=>t Y H λx H1=>∃i,x=.int i/\Q (some i) H1
variable {X:Cx}{e:Expr}{te:TE}{lo hi:Option Expr}{tl th:TO}{pos p2:Pos}
def Ft:PO X none FV:=by intro Mf s Y H Q I h;rw[evalPart_none];exact bj ⟨none,H,I,.none,h⟩
def Gb(h:PE X e te):PO X (some e) (JR te):=by intro Mf s Y H Q I hw;rw[evalPart_some];refine pB (h Mf s Y H _ I hw) λu s1 zz=>x5 zz λx H1 I1 r1 q1=>?_;obtain⟨i,rfl,q⟩:=q1;obtain⟨t,rfl⟩:=r1;exact⟨some i,H1,I1,.int i t,q⟩
def Jj(X:Cx)(r:V->Option Int->Option Int->Hp->VK->Prop):Prop:=
 ∀(Mf:QQY) (s:Sd) (Y:St) (H:Hp) (x:V) (v vl vu:Vl) (lo hi:Option Int) (sl:Addr) (Q:VK),Inv X Mf Y H s->nK x v->s.heap.IsSliceOf sl vl vu .none->IsPart vl lo->IsPart vu hi->r x lo hi H Q->
  ∃T id,typeLookup (.type T) "__getitem__"=pure (some (.builtin id))/\s.TypeIs v T/\wpAny (model X.prog X.w) X.A (getItem v (.ref sl)) (EP X Mf Y Q) X.xe s
def L4(r:V->Option Int->Option Int->Hp->VK->Prop)(te:TE)(tl th:TO):TE:=λY H Q=>te Y H λx H1=>tl Y H1 λl H2=>th Y H2 λu H3=>r x l u H3 Q
def D4{r:V->Option Int->Option Int->Hp->VK->Prop}(hr:Jj X r)(he:PE X e te)(hl:PO X lo tl)(hu:PO X hi th):PE X (.Subscript e (.Slice lo hi none p2) pos) (L4 r te tl th):=by intro Mf s Y H Q I h;refine Subscript_ (pB (he Mf s Y H _ I h) λv s1 zz=>x5 zz λx H1 I1 r1 q1=>?_);refine wpAny_Slice (pB (hl Mf s1 Y H1 _ I1 q1) λvl s2 zz=>x5 zz λl H2 I2 pl q2=>pB (hu Mf s2 Y H2 _ I2 q2) λvu s3 zz=>x5 zz λu H3 I3 pu q3=>?_);rw[evalPart_none];refine bj ?_;have I4:Inv X Mf Y H3 {s3 with heap:=s3.heap.push {cls:=.type "slice",data:=.fields #[vl,vu,.none]}}:=I3.kept (t':=s3.toks) λb ob q=>bp _ q;obtain⟨T,id,hT,ht,hg⟩:=hr Mf {s3 with heap:=s3.heap.push {cls:=.type "slice",data:=.fields #[vl,vu,.none]}} Y H3 x v vl vu l u s3.heap.objs.size Q I4 r1 (lg ..) pl pu q3;show wpAny (model X.prog X.w) X.A (subscriptTail e (.Slice lo hi none p2) v (.ref s3.heap.objs.size)) (EP X Mf Y Q) X.xe {s3 with heap:=s3.heap.push {cls:=.type "slice",data:=.fields #[vl,vu,.none]}};exact tail_any (ops:=[.ref s3.heap.objs.size,v]) ht hT hg (by with_unfolding_all rfl)
noncomputable def vV(xs:T0 V)(lo hi:Option Int):T0 V:=(xs.drop (HT.oV xs.length 0 lo)).take (HT.oV xs.length xs.length hi - HT.oV xs.length 0 lo)
def uA(xs:T0 V)(lo hi:Option Int):(vV xs lo hi).length<=xs.length:=by unfold vV;rw[cV,gA];lia
def K9(K:m9):V->Option Int->Option Int->Hp->VK->Prop:=λx lo hi H Q=>∃a xs,x=.ref a/\p9 K H a xs/\
 ¬(HT.oV xs.length 0 lo=0/\HT.oV xs.length xs.length hi=xs.length)/\∀p,H p=none->Q (.ref p) (upd H p (.tup (vV xs lo hi)))
def H9:Jj X (K9 X.K):=by
 intro Mf s Y H x v vl vu lo hi sl Q I rx hs pl pu h;obtain⟨a,xs,rfl,hx,hw,q⟩:=h;cases rx;obtain⟨its,r,ht,hz⟩:=I.tuple hx;have Mm:its.toArray.size=xs.length:=by rw[bA];exact r.length.symm
 refine⟨"tuple",_,cT.lookup,ht.typeIs,?_⟩;refine HT.tO ht hs pl pu (by rw[Mm];exact hw) ?_ (by rw[Mm];exact hz);rw[Mm];refine⟨.ref s.heap.objs.size,_,I.laid (t':=s.toks) (o:=.tup (vV xs lo hi)) (λb ob q=>bp _ q) (bB _) ?_,rfl,q _ (I.lC.fresh (bB _))⟩;exact⟨bQ (uA xs lo hi) hz,_,(r.drop (HT.oV xs.length 0 lo)).take (HT.oV xs.length xs.length hi - HT.oV xs.length 0 lo),xO.new _ _⟩
def JY(K:m9):R2:=λx y H Q=>∃a b xs ys,x=.ref a/\y=.ref b/\p9 K H a xs/\p9 K H b ys/\xs≠[]/\xs.length+ys.length<=sizeLine/\
 (ys=[]->Q (.ref a) H)/\(ys≠[]->∀p,H p=none->Q (.ref p) (upd H p (.tup (xs++ys))))
def nv.lQ{xs:T0 V}{us:T0 Vl}(r:nv xs us):us=[]↔xs=[]:=by
 cases r with
 | nil=>simp
 | cons _ _=>simp
def GM:sf X (binaryOp .Add) (JY X.K):=by intro Mf s Y H x y v u Q I rx ry h;obtain⟨a,b,xs,ys,rfl,rfl,ha,hb,hx,hz,q1,q2⟩:=h;cases rx;cases ry;obtain⟨its,r1,p1,_⟩:=I.tuple ha;obtain⟨NR,r2,p2,_⟩:=I.tuple hb;refine HT.Gp p1 p2 (λz=>hx (r1.lQ.mp z)) (λz=>⟨.ref a,H,I,rfl,q1 (r2.lQ.mp z)⟩) (λz=>?_) (by rw[<-r1.length,<-r2.length];exact hz);refine⟨.ref s.heap.objs.size,_,I.laid (t':=s.toks) (o:=.tup (xs++ys)) (λb ob q=>bp _ q) (bB _) ?_,rfl,q2 (λw=>z (r2.lQ.mpr w)) _ (I.lC.fresh (bB _))⟩;exact⟨by rw[bz];exact hz,_,r1.append r2,xO.new _ _⟩
noncomputable def GU(n:Nat)(i:Int):Option Nat:=if 0<=i then(if i<n then some i.toNat else none)else if -(n:Int)<=i then some (i+n).toNat else none
noncomputable def tE{α:Type}(xs:List α)(i:Int):Option α:=(GU xs.length i).bind λj=>xs[j]?
def Ff{n:Nat}{i:Int}{j:Nat}(h:GU n i=some j):seqIndex? i n=some j/\j<n/\-(n:Int)<=i/\i<n:=by
 unfold GU at h;by_cases h0:0<=i
 .rw[bw h0]at h;by_cases h1:i<n
  .rw[bw h1]at h;have e:i.toNat=j:=bJ h;exact⟨by rw[seqIndex_of h0 h1,e],by lia,by lia,h1⟩
  .rw[bq h1]at h;cases h
 .rw[bq h0]at h;by_cases h1:-(n:Int)<=i
  .rw[bw h1]at h;have e:(i+n).toNat=j:=bJ h;exact⟨by rw[seqIndex_neg (by lia) h1,e],by lia,h1,by lia⟩
  .rw[bq h1]at h;cases h
def ya{α:Type}{xs:List α}{i:Int}{v:α}(h:tE xs i=some v):∃j,seqIndex? i xs.length=some j/\xs[j]?=some v/\j<xs.length/\-(xs.length:Int)<=i/\i<xs.length:=by
 unfold tE at h;cases e:GU xs.length i with
 | none=>rw[e]at h;cases h
 | some j=>rw[e]at h;obtain⟨h1,h2,h3,h4⟩:=Ff e;exact⟨j,h1,h,h2,h3,h4⟩
def ri{α:Type}{xs:List α}{j:Nat}{v:α}(h:xs[j]?=some v):tE xs (j:Int)=some v:=by
 have hj:j<xs.length:=(bL.mp h).1;have e:GU xs.length (j:Int)=some j:=by unfold GU;rw[bw (by lia),bw (by lia)];simp
 unfold tE;rw[e];exact h
def tJ(b:Expr):Prop:=∀o i,subscripted b false o i=operate [o,i] (getItem o i)
def Jg(X:Cx)(r:R2):Prop:=
 ∀(value Mo:Expr) (Mf:QQY) (s:Sd) (Y:St) (H:Hp) (x y:V) (v u:Vl) (Q:VK),Inv X Mf Y H s->nK x v->nK y u->r x y H Q->
  subscripted Mo false v u=operate [v,u] (getItem v u)->wpAny (model X.prog X.w) X.A (subscriptTail value Mo v u) (EP X Mf Y Q) X.xe s
def LC(X:Cx)(id:String)(r:V->T0 V->Hp->VK->Prop):Prop:=
 ∀(Mf:QQY) (s:Sd) (Y:St) (H:Hp) (x:V) (xs:T0 V) (v:Vl) (us:T0 Vl) (Q:VK),Inv X Mf Y H s->nK x v->nv xs us->r x xs H Q->
  wpAny (model X.prog X.w) X.A (call (.builtin id) (v::us)) (EP X Mf Y Q) X.xe s
variable {o:Expr}{es:T0 Expr}{to:TE}{t:TA}{name:Str}{Mj Ms:Pos}{T id:String}{r:V→T0 V→Hp→VK→Prop}{a:Expr}{ta tb:TE}
section
variable {b:Expr}
def Bg{r:R2}(hr:Jg X r)(ha:PE X a ta)(hb:PE X b tb)(hs:tJ b):PE X (.Subscript a b pos) (Ji r ta tb):=by intro Mf s Y H Q I h;exact Subscript_ (ID ha hb I h λv u s2 x y H2 I2 rx ry q=>hr a b Mf s2 Y H2 x y v u Q I2 rx ry q (hs _ _))
def KA(K:m9):R2:=λx y H Q=>∃p xs i v,x=.ref p/\y=.int i/\rA K H p xs/\tE xs i=some v/\Q v H
def KO(K:m9):R2:=λx y H Q=>∃p xs i v,x=.ref p/\y=.int i/\p9 K H p xs/\tE xs i=some v/\Q v H
def KM:R2:=λx y H Q=>∃z i c,x=.str z/\y=.int i/\z.length<=sizeLine/\tE z.cps.toList i=some c/\Q (.str ⟨#[c]⟩) H
def Br:Jg X (KA X.K):=by
 intro value Mo Mf s Y H x y v u Q I rx ry h hs;obtain⟨p,xs,i,z,rfl,rfl,hq,he,q⟩:=h;cases rx;obtain⟨t,rfl⟩:=ry;obtain⟨its,r,pl,hz⟩:=I.list hq;obtain⟨j,h1,h2,h3,h4,h5⟩:=ya he;obtain⟨w,ew,NS⟩:=r.get h2;have hl:=r.length;have hn:=vW;have fin:EP X Mf Y Q w s:=⟨z,H,I,NS,q⟩;by_cases h0:0<=i
 .have hj:i.toNat=j:=by rw[seqIndex_of h0 h5]at h1;exact bJ h1
  exact item_listR pl.isList h0 (by lia) (by rw[hj];simpa using ew) fin hs
 .have hj:(i+(its.toArray.size:Int)).toNat=j:=by rw[seqIndex_neg (by lia) h4]at h1;rw[bA,<-hl];exact bJ h1
  exact jb (x:=w) pl.isList.typeIs jU.lookup
   (wpAny_getItem_list_neg (Q:=λr s'=>r=w/\EP X Mf Y Q r s') pl.isList (by lia) (by rw[bA]<;>lia) (by lia) (by rw[hj];simpa using ew) ⟨rfl,fin⟩) hs
def IQ:Jg X (KO X.K):=by
 intro value Mo Mf s Y H x y v u Q I rx ry h hs;obtain⟨p,xs,i,z,rfl,rfl,hq,he,q⟩:=h;cases rx;obtain⟨t,rfl⟩:=ry;obtain⟨its,r,pl,hz⟩:=I.tuple hq;obtain⟨j,h1,h2,h3,h4,h5⟩:=ya he;obtain⟨w,ew,NS⟩:=r.get h2;have hl:=r.length;have hn:=vW;have fin:EP X Mf Y Q w s:=⟨z,H,I,NS,q⟩;exact jb (x:=w) pl.typeIs slot_tuple_getitem.lookup
  (getItem_tuple (j:=j) (Q:=λr s'=>r=w/\EP X Mf Y Q r s') pl (by lia) (by lia) (by rw[bA,<-hl];exact h1) (by simpa using ew) ⟨rfl,fin⟩) hs
def Ik:Jg X KM:=by
 intro value Mo Mf s Y H x y v u Q I rx ry h hs;obtain⟨z,i,c,rfl,rfl,hz,he,q⟩:=h;obtain⟨t,rfl⟩:=rx;obtain⟨t',rfl⟩:=ry;obtain⟨j,h1,h2,h3,h4,h5⟩:=ya he;have hl:z.cps.toList.length=z.length:=by simp[Str.length]
 rw[hl]at h1 h4 h5;have hn:=vW;exact tail_any (gj s z t) slot_str_getitem.lookup (getItem_str (c:=c) (by
  have e1:decide (i< -(2 ^ 63:Int))=false:=cE (by lia);have e2:decide (i>=2 ^ 63)=false:=cE (by lia);rw[e1,e2,kU]) (by rw[h1];simpa using h2) ⟨.str ⟨#[c]⟩,H,I.tok _,⟨_,rfl⟩,q⟩) hs
def yy(lo hi:Option Int)(n:Nat):(sliceBounds lo hi none n).1=((HT.oV n 0 lo:Nat):Int)/\(sliceBounds lo hi none n).2.1=((HT.oV n n hi:Nat):Int)/\(sliceBounds lo hi none n).2.2=1:=by
 refine⟨?_,?_,rfl⟩
 .cases lo with
  | none=>simp[sliceBounds,HT.oV]
  | some i=>
   simp only[sliceBounds,HT.oV,kr,show(1:Int)>0 by decide,gi];by_cases h:i<0
   .simp only[h,gi]<;>lia
   .simp only[h,gY]<;>lia
 .cases hi with
  | none=>simp[sliceBounds,HT.oV]
  | some i=>
   simp only[sliceBounds,HT.oV,kr,show(1:Int)>0 by decide,gi];by_cases h:i<0
   .simp only[h,gi]<;>lia
   .simp only[h,gY]<;>lia
def wz(its:T0 Vl)(lo hi:Option Int):slicePick its.toArray lo hi none=((its.drop (HT.oV its.length 0 lo)).take (HT.oV its.length its.length hi - HT.oV its.length 0 lo)).toArray:=by obtain⟨h1,h2,h3⟩:=yy lo hi its.toArray.size;unfold slicePick;rw[h1,h2,h3];simp only[sliceRange_one,pick_run,bA]<;>rfl
def Lh(K:m9):V->Option Int->Option Int->Hp->VK->Prop:=λx lo hi H Q=>∃a xs,x=.ref a/\rA K H a xs/\∀p,H p=none->Q (.ref p) (upd H p (.lst (vV xs lo hi)))
def Bk:Jj X (Lh X.K):=by intro Mf s Y H x v vl vu lo hi sl Q I rx hs pl pu h;obtain⟨a,xs,rfl,hx,q⟩:=h;cases rx;obtain⟨its,r,ht,hz⟩:=I.list hx;have Mm:=r.length;refine⟨"list",_,jU.lookup,ht.isList.typeIs,?_⟩;refine wpAny_getItem_list_slice ht.isList hs pl pu .none (by simp) ?_ (by rw[bA]<;>lia);rw[wz,<-Mm];refine⟨.ref s.heap.objs.size,_,I.laid (t':=s.toks) (o:=.lst (vV xs lo hi)) (λb ob q=>bp _ q) (bB _) ?_,rfl,q _ (I.lC.fresh (bB _))⟩;exact⟨bQ (uA xs lo hi) hz,_,0,(r.drop (HT.oV xs.length 0 lo)).take (HT.oV xs.length xs.length hi - HT.oV xs.length 0 lo),bE _ rfl⟩
noncomputable def sC:V->Bool
 | .lB=>true
 | .bl _=>true
 | .int _=>true
 | .str _=>true
 | _=>false
noncomputable def EY:V->V->Bool
 | .lB,.lB=>true
 | .bl a,.bl b=>a==b
 | .bl a,.int b=>(if a then 1 else 0)==b
 | .int a,.bl b=>a==(if b then 1 else 0)
 | .int a,.int b=>a==b
 | .str a,.str b=>a==b
 | _,_=>false
def Hx{A:Ar}{s:Sd}{y x:V}{u v:Vl}(ry:nK y u)(rx:nK x v)(fy:sC y=true)(fx:sC x=true):SeqAt.EqAt A s u v (EY y x):=by
 cases y with
 | lB=>
  cases ry;cases x with
  | lB=>cases rx;exact SeqAt.EqAt.same _
  | bl b=>cases rx;exact SeqAt.EqAt.none_bool b
  | int b=>obtain⟨t,rfl⟩:=rx;exact SeqAt.EqAt.none_int b t
  | str b=>obtain⟨t,rfl⟩:=rx;exact SeqAt.EqAt.none_str b t
  | _=>exact absurd (show false=true from fx) bN
 | bl a=>
  cases ry;cases x with
  | lB=>cases rx;exact SeqAt.EqAt.bool_none a
  | bl b=>cases rx;exact SeqAt.EqAt.bool_bool a b
  | int b=>obtain⟨t,rfl⟩:=rx;exact SeqAt.EqAt.bool_int a b t
  | str b=>obtain⟨t,rfl⟩:=rx;exact SeqAt.EqAt.bool_str a b t
  | _=>exact absurd (show false=true from fx) bN
 | int a=>
  obtain⟨t',rfl⟩:=ry;cases x with
  | lB=>cases rx;exact SeqAt.EqAt.int_none a t'
  | bl b=>cases rx;exact SeqAt.EqAt.int_bool a t' b
  | int b=>obtain⟨t,rfl⟩:=rx;exact SeqAt.EqAt.int_int a t' b t
  | str b=>obtain⟨t,rfl⟩:=rx;exact jF a t' b t
  | _=>exact absurd (show false=true from fx) bN
 | str a=>
  obtain⟨t',rfl⟩:=ry;cases x with
  | lB=>cases rx;exact SeqAt.EqAt.str_none a t'
  | bl b=>cases rx;exact SeqAt.EqAt.str_bool a t' b
  | int b=>obtain⟨t,rfl⟩:=rx;exact jG a t' b t
  | str b=>obtain⟨t,rfl⟩:=rx;exact SeqAt.EqAt.str_str a t' b t
  | _=>exact absurd (show false=true from fx) bN
 | _=>exact absurd (show false=true from fy) bN
noncomputable def An(x:V)(u:Vl):Bool:=match u with
 | .none=>EY .lB x
 | .bool b=>EY (.bl b) x
 | .int i _=>EY (.int i) x
 | .str z _=>EY (.str z) x
 | _=>false
def EE{x y:V}{u:Vl}(r:nK y u)(f:sC y=true):An x u=EY y x:=by
 cases y with
 | lB=>cases r;rfl
 | bl b=>cases r;rfl
 | int i=>obtain⟨t,rfl⟩:=r;rfl
 | str z=>obtain⟨t,rfl⟩:=r;rfl
 | _=>exact absurd (show false=true from f) bN
theorem tR{x:V}:∀{xs:T0 V} {us:T0 Vl},nv xs us->xs.all sC=true->us.any (An x)=xs.any λy=>EY y x
 | _,_,.nil,_=>rfl
 | y::xs,u::us,.cons r t,f=>by rw[fO,cO]at f;rw[kW,kW,EE r f.1,tR t f.2]
theorem rT{A:Ar}{s:Sd}{x:V}{v:Vl}(rx:nK x v)(fx:sC x=true):∀{xs:T0 V} {us:T0 Vl},nv xs us->xs.all sC=true->∀u∈us,SeqAt.EqAt A s u v (An x u)
 | _,_,.nil,_=>λu hu=>by cases hu
 | y::xs,u::us,.cons r t,f=>λu' hu=>by
  rw[fO,cO]at f;rcases br.mp hu with rfl|hu
  .rw[EE r f.1];exact Hx r rx f.1 fx
  .exact rT rx fx t f.2 u' hu
noncomputable def inV(x:V)(xs:T0 V):Bool:=xs.any λy=>EY y x
def KL(K:m9)(OM:Bool):R2:=λx y H Q=>∃p xs,y=.ref p/\(rA K H p xs\/p9 K H p xs)/\sC x=true/\xs.all sC=true/\Q (.bl (if OM then !inV x xs else inV x xs)) H
def Cd:sf X (compareOp .In) (KL X.K false):=by
 intro Mf s Y H x y v u Q I rx ry h;obtain⟨p,xs,rfl,hq,fx,fs,q⟩:=h;cases ry;rcases hq with hq|hq
 .obtain⟨its,r,pl,hz⟩:=I.list hq;refine kE (An x) pl.isList (λw hw=>rT rx fx r fs w (by simpa using hw)) ⟨.bl _,H,I,rfl,?_⟩;rw[show its.toArray.any (An x)=its.any (An x)by simp,tR r fs];exact q
 .obtain⟨its,r,pl,hz⟩:=I.tuple hq;refine SeqAt.in_tupleAt (An x) pl (λw hw=>rT rx fx r fs w (by simpa using hw)) ⟨.bl _,H,I,rfl,?_⟩;rw[show its.toArray.any (An x)=its.any (An x)by simp,tR r fs];exact q
def yz:sf X (compareOp .NotIn) (KL X.K true):=by
 intro Mf s Y H x y v u Q I rx ry h;obtain⟨p,xs,rfl,hq,fx,fs,q⟩:=h;cases ry;rcases hq with hq|hq
 .obtain⟨its,r,pl,hz⟩:=I.list hq;refine SeqAt.notIn_listAt (An x) pl.isList (λw hw=>rT rx fx r fs w (by simpa using hw)) ⟨.bl _,H,I,rfl,?_⟩;rw[show its.toArray.any (An x)=its.any (An x)by simp,tR r fs];exact q
 .obtain⟨its,r,pl,hz⟩:=I.tuple hq;refine SeqAt.notIn_tupleAt (An x) pl (λw hw=>rT rx fx r fs w (by simpa using hw)) ⟨.bl _,H,I,rfl,?_⟩;rw[show its.toArray.any (An x)=its.any (An x)by simp,tR r fs];exact q
def xT:sf X (compareOp .NotIn) (λx y H Q=>∃i j,x=.str i/\y=.str j/\Q (.bl (!(!(Builtin.Str.occurrences j i 0 j.length 1).isEmpty))) H):=by intro Mf s Y H x y v u Q I rx ry h;obtain⟨i,j,rfl,rfl,q⟩:=h;obtain⟨t,rfl⟩:=rx;obtain⟨t',rfl⟩:=ry;exact notIn_str ⟨.bl _,H,I,rfl,q⟩
def rc:sO X (.builtin "len") (λxs H Q=>∃p ys,xs=[.ref p]/\(rA X.K H p ys\/p9 X.K H p ys)/\Q (.int ys.length) H):=by
 intro Mf s Y H xs us Q I r h;obtain⟨p,ys,rfl,hq,q⟩:=h;obtain⟨u,rfl,rx⟩:=wb r;cases rx;have hn:=vW;rcases hq with hq|hq
 .obtain⟨its,r',pl,hz⟩:=I.list hq;have Mm:=r'.length;exact Calls.call_len_list pl.isList (by simp only[bA]<;>lia) ⟨.int ys.length,H,I.tok _,⟨s.toks+1,by rw[bA,Mm]⟩,q⟩
 .obtain⟨its,r',pl,hz⟩:=I.tuple hq;have Mm:=r'.length;exact len_tuple pl (by simp only[bA]<;>lia) ⟨.int ys.length,H,I.tok _,⟨s.toks+1,by rw[bA,Mm]⟩,q⟩
def yt:sO X (.builtin "len") (λxs H Q=>∃z,xs=[.str z]/\z.length<=sizeLine/\Q (.int z.length) H):=by intro Mf s Y H xs us Q I r h;obtain⟨z,rfl,hz,q⟩:=h;obtain⟨u,rfl,t,rfl⟩:=wb r;have hn:=vW;exact len_str (by lia) ⟨.int z.length,H,I.tok _,⟨_,rfl⟩,q⟩
def xE:sO X (.type "list") (λxs H Q=>∃p ys,xs=[.ref p]/\(rA X.K H p ys\/p9 X.K H p ys)/\∀l,H l=none->Q (.ref l) (upd H l (.lst ys))):=by
 intro Mf s Y H xs us Q I r h;obtain⟨p,ys,rfl,hq,q⟩:=h;obtain⟨u,rfl,rx⟩:=wb r;cases rx;have fin:∀(its:T0 Vl),nv ys its->ys.length<=sizeLine->∀(h':Heap) (c':Nat),(∀b o',s.heap.get? b=some o'->h'.get? b=some o')->
   h'.get? s.heap.objs.size=some {cls:=.type "list",dict:=none,data:=.seq its.toArray c',slots:=#[]}->EP X Mf Y Q (.ref s.heap.objs.size) {s with heap:=h'}:=λits r' hz h' c' kp e=>
  ⟨.ref s.heap.objs.size,_,I.laid (t':=s.toks) kp (bB _) (show oo X.prog X.w _ h' _ (.lst ys)from⟨hz,its,c',r',e⟩),rfl,q _ (I.lC.fresh (bB _))⟩
 rcases hq with hq|hq
 .obtain⟨its,r',pl,hz⟩:=I.list hq;have Mm:=r'.length;obtain⟨o,ho,hc,n,hd⟩:=pl.isList;exact call_list_seq p (.inl rfl) ho hc hd (λh' c' kp e=>fin its r' hz h' c' kp e) (by simp only[bA]<;>lia)
 .obtain⟨its,r',pl,hz⟩:=I.tuple hq;have Mm:=r'.length;obtain⟨o,ho,hc,n,hd⟩:=pl;exact call_list_seq p (.inr rfl) ho hc hd (λh' c' kp e=>fin its r' hz h' c' kp e) (by simp only[bA]<;>lia)
def qL:sO X (.type "tuple") (λxs H Q=>∃p ys,xs=[.ref p]/\((rA X.K H p ys/\∀l,H l=none->Q (.ref l) (upd H l (.tup ys)))\/(p9 X.K H p ys/\Q (.ref p) H))):=by
 intro Mf s Y H xs us Q I r h;obtain⟨p,ys,rfl,h⟩:=h;obtain⟨u,rfl,rx⟩:=wb r;cases rx;rcases h with⟨hq,q⟩|⟨hq,q⟩
 .obtain⟨its,r',pl,hz⟩:=I.list hq;have Mm:=r'.length;refine call_tuple_list pl.isList (λh' kp=>?_) (by simp only[bA]<;>lia);have I1:Inv X Mf Y H {s with heap:=h'}:=I.kept (t':=s.toks) kp;have I2:Inv X Mf Y (upd H h'.objs.size (.tup ys)) {s with heap:=h'.push {cls:=.type "tuple",data:=.seq its.toArray}}:=
   I1.laid (t':=s.toks) (λb o e=>bp _ e) (bB _) (show oo X.prog X.w _ _ _ (.tup ys)from⟨hz,its,r',xO.new _ _⟩)
  exact⟨.ref h'.objs.size,_,I2,rfl,q _ (I1.lC.fresh (bB _))⟩
 .obtain⟨its,r',pl,hz⟩:=I.tuple hq;exact call_tuple_same pl ⟨.ref p,H,I,rfl,q⟩
def Ll(K:m9)(T:String)(x:V)(H:Hp):Prop:=match x with
 | .str _=>T="str"
 | .int _=>T="int"
 | .ref p=>(T="list"/\∃xs,rA K H p xs)\/(T="tuple"/\∃o,K.lookup p=some o/\o.cls=.type "tuple"/\o.dict=none)\/
   (T="dict"/\((∃kvs,H p=some (.dK kvs))\/∃kvs,H p=some (.dT kvs)))\/(T="set"/\∃S n,H p=some (.set S n))
 | _=>False
def Hv{Mf:QQY}{Y:St}{H:Hp}{s:Sd}{T:String}{x:V}{v:Vl}(I:Inv X Mf Y H s)(r:nK x v)(ty:Ll X.K T x H):
  s.TypeIs v T/\∀a,v=.ref a->∃ob,s.heap.get? a=some ob/\ob.dict=none:=by
 cases x with
 | str z=>obtain⟨t,rfl⟩:=r;cases(show T="str" from ty);exact⟨gj s z t,λ_ e=>nomatch e⟩
 | int i=>obtain⟨t,rfl⟩:=r;cases(show T="int" from ty);exact⟨typeIs_int s i t,λ_ e=>nomatch e⟩
 | ref p=>
  cases r;rcases ty with⟨rfl,xs,hq⟩|⟨rfl,o,hk,hc,hd⟩|⟨rfl,hk⟩|⟨rfl,S,n,hk⟩
  .obtain⟨its,_,pl,_⟩:=I.list hq;refine⟨pl.isList.typeIs,λa e=>?_⟩;cases e;obtain⟨o,n,e,c,hd,_⟩:=pl;exact⟨o,e,hd⟩
  .refine⟨⟨o,I.lJ p o hk,hc⟩,λa e=>?_⟩;cases e;exact⟨o,I.lJ _ o hk,hd⟩
  .have z:∃o,s.heap.get? p=some o/\o.ExactDict:=by
    rcases hk with⟨kvs,hk⟩|⟨kvs,hk⟩
    .obtain⟨_,_,_,_,o,_,_,e,ex,_⟩:=I.lC p _ hk;exact⟨o,e,ex⟩
    .obtain⟨_,_,_,_,o,_,_,e,ex,_⟩:=I.lC p _ hk;exact⟨o,e,ex⟩
   obtain⟨o,e,ex⟩:=z;refine⟨⟨o,e,ex.1⟩,λa e2=>?_⟩;cases e2;exact⟨o,e,ex.2.1⟩
  .obtain⟨o,_,_,_,e,ex,_⟩:=I.lC p _ hk;refine⟨⟨o,e,ex.1⟩,λa e2=>?_⟩;cases e2;exact⟨o,e,ex.2.1⟩
 | _=>exact False.elim ty
def Me(K:m9)(T:String)(r:V->T0 V->Hp->VK->Prop)(to:TE)(t:TA):TE:=λY H Q=>to Y H λx H1=>Ll K T x H1/\t Y H1 λxs H2=>r x xs H2 Q
def Kh(pa:PlainAttrs T)(slot:Slot T name id)(hty:typeOf (.builtin id)=pure (.type "method_descriptor"))(hm:LC X id r)(ho:PE X o to)(ha:PA X (e::es) t) (MJ:attributeBase o name X.env (eval o X.env)=eval o X.env:=by rfl)
  (Nx:((backTo Ms (starEach (e::es) X.env)).all (λx=>!x.1)&&(backToKw Ms (keywordEach [] X.env)).all (λx=>x.1.isSome)
   &&decide ((e::es).length+([]:T0 Keyword).length+(if ([]:T0 Keyword).isEmpty then 0 else 1)<30))=true:=by rfl)
  (MK:(Mj.endLine==Ms.line)=true:=by rfl) (hs:xG X e es:=by rfl) (MC:yL X Ms es:=by rfl):
  PE X (.Call (.Attribute o name Mj) (e::es) [] Ms) (Me X.K T r to t):=by
 intro Mf s Y H Q I h;refine wpAny_Call_method_late MJ Nx MK rfl (pB (ho Mf s Y H _ I h) λv s1 zz=>?_);obtain⟨x,H1,I1,r1,ty,q1⟩:=zz;obtain⟨h1,h2⟩:=Hv I1 r1 ty;refine⟨T,id,pa,slot,hty,h1,h2,?_⟩;have hA:=ha Ms Mf s1 Y H1 _ I1 q1;rw[hs]at hA ⊢;refine Calls.callWith_builtin (by show(false||(backTo Ms (starEach es X.env)).any (·.1))=false;rw[MC]<;>rfl) (Calls.evalArgs_plain ?_);exact pB hA λus s2 zz=>x5 zz λvs H2 I2 r2 q2=>hm Mf s2 Y H2 x vs v us Q I2 r1 r2 q2
end
def LP(X:Cx)(id:String)(r:V->T0 V->Hp->VK->Prop):Prop:=
 ∀(Mf:QQY) (s:Sd) (Y:St) (H:Hp) (x:V) (xs:T0 V) (v:Vl) (us:T0 Vl) (Q:VK),Inv X Mf Y H s->nK x v->nv xs us->r x xs H Q->
  wpAny (model X.prog X.w) X.A (call (.builtin id) (v::us)) (EP X Mf Y Q) X.xe s
def nv.one:∀{x:V} {us:T0 Vl},nv [x] us->∃u,us=[u]/\nK x u
 | _,_,.cons r .nil=>⟨_,rfl,r⟩
variable {Mf:T0 (Addr × Obj)}{Y:St}{H:Hp}{s:Sd}{l:Addr}{xs ys zs:T0 V}
section
variable {b:Addr}
def Inv.mx{its its':T0 Vl}{n:Nat}{f:Array Vl->Array Vl}{t':Nat}(I:Inv X Mf Y H s)(hH:H l=some (.lst xs)) (e:s.heap.get? l=some {cls:=.type "list",data:=.seq its.toArray n}) (hf:f its.toArray=its'.toArray) (hv:nv ys its') (hz:ys.length<=sizeLine):
  Inv X Mf Y (upd H l (.lst ys)) {s with heap:=s.heap.update l (Obj.mapSeq f),toks:=t'}:=by
 have q:=PySem.IsL.update e f;rw[hf]at q;refine I.write (x:=l) (e:=l) (by rw[hH];exact trivial) (.inl rfl) (λb' u hb hu=>(gq s.heap (Obj.mapSeq f) (bR hb)).trans hu) ⟨_,q⟩ ?_;exact⟨hz,its',_,hv,q⟩
def Inv.lnew{its:T0 Vl}{t':Nat}(I:Inv X Mf Y H s)(hv:nv ys its)(hz:ys.length<=sizeLine):
  Inv X Mf Y (upd H s.heap.objs.size (.lst ys)) {s with heap:=s.heap.push {cls:=.type "list",data:=.seq its.toArray},toks:=t'}:=
 I.laid (λ_ _ q=>bp _ q) (bB _) ⟨hz,its,0,hv,bE _ rfl⟩
def Inv.fresh(I:Inv X Mf Y H s):H s.heap.objs.size=none:=I.lC.fresh (bB _)
def Inv.ma(I:Inv X Mf Y H s)(hH:H l=some (.lst xs)):xs.length<=sizeLine/\∃(its:T0 Vl) (n:Nat),nv xs its/\xs.length=its.length/\s.heap.get? l=some {cls:=.type "list",data:=.seq its.toArray n}:=by obtain⟨z,its,n,r,e⟩:=I.lC l _ hH;exact⟨z,its,n,r,r.length,e⟩
def DO{n:Nat}(h:n<=sizeLine):Builtin.List.listTooLong n=false:=by unfold Builtin.List.listTooLong;exact cE (by lia)
end
def E9:V->T0 V->Hp->VK->Prop:=λx vs H Q=>∃l xs y,x=.ref l/\vs=[y]/\H l=some (.lst xs)/\xs.length<sizeLine/\Q .lB (upd H l (.lst (xs++[y])))
def CB:LP X "list.append" E9:=by intro Mf s Y H x vs v us Q I rx rv h;obtain⟨l,xs,y,rfl,rfl,hH,hz,q⟩:=h;cases rx;obtain⟨u,rfl,ru⟩:=rv.one;obtain⟨z,its,n,r,hl,e⟩:=I.ma hH;refine kF F.slot_list_append ⟨_,e,rfl⟩ F.entry_list_append (F.args_list_append_2 _ _) (PySem.list_append l its.toArray n u (by rw[bA];lia)) ⟨e,?_⟩;refine⟨.lB,_,I.mx (its':=its++[u]) hH e (by simp) (r.append (.cons ru .nil)) ?_,rfl,q⟩;rw[bz,cF];lia
def E8:V->T0 V->Hp->VK->Prop:=λx vs H Q=>∃l b xs zs,x=.ref l/\vs=[.ref b]/\H l=some (.lst xs)/\H b=some (.lst zs)/\xs.length+zs.length<=sizeLine/\Q .lB (upd H l (.lst (xs++zs)))
def CC:LP X "list.extend" E8:=by
 intro Mf s Y H x vs v us Q I rx rv h;obtain⟨l,b,xs,zs,rfl,rfl,hH,hB,hz,q⟩:=h;cases rx;obtain⟨u,rfl,ru⟩:=rv.one;cases ru;obtain⟨z,its,n,r,hl,e⟩:=I.ma hH;obtain⟨z2,NR,n2,r2,Om,e2⟩:=I.ma hB;have hsz:its.toArray.size+NR.toArray.size<=sizeLine:=by rw[bA,bA];lia
 have hlong:¬(!its.toArray.isEmpty&&Builtin.List.listTooLong (its.toArray.size+NR.toArray.size))=true:=by rw[DO hsz,eP];exact bN
 refine kF F.slot_list_extend ⟨_,e,rfl⟩ F.entry_list_extend (F.args_list_extend_2 _ _)
  (AutoSeq1.list_extend_list_list_0 l its.toArray n b NR.toArray n2 hlong (by rw[bA];lia) (by lia)) ⟨e,e2,?_⟩
 refine⟨.lB,_,I.mx (its':=its++NR) hH e (by simp) (r.append r2) ?_,rfl,q⟩;rw[bz];lia
variable {prog:Pg}{w:Wo}{A:Ar}{E:QQX}
end L2
namespace Att
open PySem PySem.W PySem.Calls PyProof.Rows
def uO{P:Params}{h:Heap}:∀(ns:T0 Int) (vs:T0 Vl),WellAll P h vs (ns.map WData.int)->IntsAre vs ns:=by
 intro ns;induction ns with
 | nil=>intro vs w;rw[gL]at w;cases w;exact .nil
 | cons n ns ih=>
  intro vs w;rw[b6]at w;cases w with
  | cons a b=>cases a;exact .cons _ _ (ih _ b)
def Ck{l:OpenLaw}{n:Nat}(hn:l.most=some n){P:Params}{h:Heap}{args:T0 WData}{OV:T0 Vl} (On:l.row.toRowW.claim.pre args=true) (hwl:WellAll P h OV args):
  ∃a vs ns,OV=[Value.ref a]/\args=[WData.list (ns.map WData.int)]/\h.get? a=some {cls:=.type "list",data:=.seq vs.toArray}/\IntsAre vs ns/\ns.length<=n:=by
 have hsh:WShape.hasAll [] args [.list .int]=true:=(pre_splitW On).1;have hc:l.pre.holds [] {args:=args}=true:=(pre_splitW On).2;obtain⟨d,r,rfl,h1,h2⟩:=hasAllW_cons hsh;obtain rfl:=hasAllW_nil h2;obtain⟨xs,rfl,h3⟩:=hasW_list h1;obtain⟨ns,rfl⟩:=items_int h3;have Mm:ns.length<=n:=by
  unfold OpenLaw.pre at hc;have h4:(WTm.not (.lt (.lit (.int (n:Int))) (.len (.arg 0)))).holds [] {args:=[.list (ns.map .int)]}=true:=by have h4:=(holds_andW hc).1;rw[hn]at h4;exact h4
  have h5:=condW_of h4 (w_not (w_lt w_lit (w_len_list (w_arg rfl))));rw[bi]at h5;refine Nat.le_of_not_lt λq=>?_;have q':(n:Int)<((ns.length:Nat):Int):=by lia
  first
   | (rw[bV q']at h5;exact absurd h5 (by decide))
   | (simp at h5;lia)
 cases hwl with
 | cons w1 w2=>
  cases w2;cases w1 with
  | list ho Nl=>exact⟨_,_,ns,rfl,rfl,ho,uO ns _ Nl,Mm⟩
def CN(l:OpenLaw)(args:T0 WData):l.row.toRowW.claim.post args (.bool true) args=true:=
 postW_of (r:=l.row.toRowW) (X:=(true==true))
  (show WShape.has [] (.bool true) .bool=true by first|rfl|decide|simp[WShape.has,WShape.arms,WShape.armsAll])
  (show(WTm.eq .res (.lit (.bool true))).value [] {args:=args,res:=some (.bool true),after:=args}=some (.bool (true==true))from w_eq_bool (w_res rfl) w_lit) rfl
def attach_call{l:OpenLaw}{n:Nat}{q:Pg}{MY:QQQ}{XP:(QQZ)->Heap->Prop}{YP:Wo->Heap->Prop}{d:DefRec} (hn:l.most=some n) (ON:d.params.defaults=[]) (call:∀(w:Wo) (s₀ s₁:Sd) (mg mb:QQZ) (fa:Addr) (o:Obj) (pm cd MX:Vl) (a:Addr) (vs:T0 Vl) (ns:T0 Int),Ground q MY [] XP w s₀ mg mb s₁.heap->YP w s₁.heap->
   s₁.heap.get? fa=some o->o.data=.func (docDef d.name d.params d.body d.scope pm cd MX)->s₁.heap.CodeRec cd d.name->mg d.name=some (.ref fa)->
   s₁.heap.get? a=some {cls:=.type "list",data:=.seq vs.toArray}->IntsAre vs ns->ns.length<=n->s₁.gens=#[]->
   codeAny (model l.prog w) callerA (.call (.ref fa) ⟨[.ref a],[]⟩) (λr s'=>r=.ok (.ret (.bool true))/\OldK s₁.heap s'.heap/\s'.os=s₁.os/\AllBare s'.gens) s₁):
  WalkO q MY XP YP l.row.toRowW d [] (λf vs=>PySem.call f vs):=by
 intro w s₀ s₁ mg mb G Y fa o pm cd MX dV kV ho hd NP hD hmg hg args OV as On hlay hrd hwl hlo;obtain rfl:dV=.none:=Dflts.none hD ON;obtain rfl:kV=.none:=Dflts.noKw hD;obtain⟨a,vs,ns,rfl,rfl,OW,NT,Mm⟩:=Ck hn On hwl;refine enter_call (dR (call w s₀ s₁ mg mb fa o pm cd MX a vs ns G Y ho (fd_plain hd) NP hmg OW NT Mm hg) λr s' hq=>?_);obtain⟨rfl,h2,h3,h4⟩:=hq;exact⟨.inl ⟨.bool true,.bool true,[],rfl,λ_=>rfl,.bool true,CN l _,λ_=>⟨List.Pairwise.nil,λ_ hm=>(nomatch hm)⟩⟩,h2,h3,h4⟩
variable {prog:Pg}{w:Wo}{A:Ar}{E:QQX}{s:Sd}{K:Frag}
end Att
namespace L2
theorem wI:∀{vs:T0 Vl} {ns:T0 Int},IntsAre vs ns->nv (ns.map V.int) vs
 | _,_,.nil=>.nil
 | _,_,.cons n t h=>.cons ⟨t,rfl⟩ (wI h)
def EM(H:Hp):Prop:=∀b,H b=none\/∃o xs,H b=some (.frz o (.lst xs))
def EU{P:Pg}{w:Wo}{K:m9}{mg mb:QQZ}{CX:DW}{k:Nat}{fa a:Addr}{fd:FuncData}{x:Str}{sp:Sp}{s₁:Sd}{vs:T0 Vl}{ns:T0 Int} (KX:K.In s₁.heap) (hns:s₁.heap.Ns mainGlobals mg) (hb:s₁.heap.Ns builtinsNs mb) (hbb:∀x:Str,x≠"__name__"->mb x=bootBuiltins x) (hlim:s₁.heap.NoLimit) (hg:s₁.gens=#[]) (ha:s₁.heap.get? a=some {cls:=.type "list",data:=.seq vs.toArray}) (hi:IntsAre vs ns) (hl:ns.length<=sizeLine) (hr:oO k callerA)
  (F:∀base:Heap,K.In base->base.Ns mainGlobals mg->vC P w K mg base CX k fa fd [x] sp) (hbind:∀(s:Sd) (u:Vl),BindsTo s fd ⟨[u],[]⟩ [(x,u)])
  (Oe:∀H:Hp,EM H->rA K H a (ns.map V.int)->sp [.ref a] H (λv _=>v=.bl true) λ_ _ _=>False)
  (hCX:∀H e s',CX [] H s₁ (λ_ _ _=>False) e s'->False):
  codeAny (model P w) callerA (.call (.ref fa) ⟨[.ref a],[]⟩) (λr s'=>r=.ok (.ret (.bool true))/\OldK s₁.heap s'.heap/\s'.os=s₁.os/\AllBare s'.gens) s₁:=by
 have rv:=wI hi;have lenV:=hi.length;have core:∀H:Hp,EM H->rA K H a (ns.map V.int)->tz P w H s₁.heap->(∀b,H b≠none->b=a)->(H a≠none->K.lookup a=none)->
   codeAny (model P w) callerA (.call (.ref fa) ⟨[.ref a],[]⟩) (λr s'=>r=.ok (.ret (.bool true))/\OldK s₁.heap s'.heap/\s'.os=s₁.os/\AllBare s'.gens) s₁:=by
  intro H hO hS lC hA hK;have NF:∀{b:Addr} {o:Obj},s₁.heap.get? b=some o->H b=none->(yu s₁.heap H).get? b=some o:=λe n=>C0 e n;have noA:∀{b:Addr} {o:Obj} {es:Array DictEntry} {ep:Nat},s₁.heap.get? b=some o->o.data=.dict es ep->H b=none:=λ{b o es ep} e d=>by
   cases q:H b with
   | none=>rfl
   | some u=>have e':b=a:=hA b (by rw[q];simp);subst e';rw[ha]at e;cases e;have d':Data.seq vs.toArray _=Data.dict es ep:=d;cases d'
  have nsK:∀{b:Addr} {m:QQZ},s₁.heap.Ns b m->(yu s₁.heap H).Ns b m:=λ{b m} ⟨o,es,ep,e,d,r⟩=>⟨o,es,ep,NF e (noA e d),d,r⟩;have hKb:K.In (yu s₁.heap H):=λb o e=>NF (KX b o e) (by
   cases q:H b with
   | none=>rfl
   | some u=>
    have e':b=a:=hA b (by rw[q];simp);subst e';rw[hK (by rw[q];simp)]at e;cases e)
  have hM:Mod K mg (yu s₁.heap H):=⟨hKb,nsK hns,⟨mb,nsK hb,hbb⟩,let⟨mc,h1,h2⟩:=hlim;⟨mc,nsK h1,h2⟩⟩;have e0:AF P w K mg (yu s₁.heap H) callerA [] s₁ H:=⟨rfl,hM,λb o e=>Ge e,jI (CP _ _),trivial,λb hb=>absurd (show b∈([]:QXQ)from hb) (by simp),lC,.of_eq hg⟩;refine dR ((F _ hKb (nsK hns)).run callerA [] s₁ H ⟨[.ref a],[]⟩ [.ref a] [.ref a] _ _ hr e0 (hbind s₁ (.ref a)) (.cons rfl .nil) (Oe H hO hS)) λr s' h=>?_;cases r with
  | error e=>exact(hCX H e s' h).elim
  | ok fl=>
   cases fl with
   | next=>exact False.elim h
   | brk=>exact False.elim h
   | cont=>exact False.elim h
   | ret u=>
    obtain⟨v,H',os,bare,un,hok',r',q⟩:=h;have q':v=.bl true:=q;subst q';obtain rfl:u=Value.bool true:=r';refine⟨rfl,OldK.of_keep λb o e=>?_,os,bare⟩;cases q:H b with
    | none=>exact un.keep b o e q (by intro z;exact absurd (show b∈([]:QXQ)from z) (by simp)) (by simp)
    | some u=>
     rcases hO b with z|⟨ob,xs,z⟩
     .rw[q]at z;cases z
     .have z2:=un.lU b ob _ z;obtain⟨e1,_⟩:=lC b _ z;obtain⟨e2,_⟩:=hok' b _ z2;rw[e]at e1;cases e1;exact e2
 cases hk:K.lookup a with
 | some o=>have e:=KX a o hk;rw[ha]at e;cases e;refine core (λ_=>none) (λ_=>.inl rfl) (.inr ⟨_,vs.toArray,_,hk,rfl,rfl,rfl,by rw[bA,lenV];exact hl,by simpa using rv⟩) (λb u z=>by have z':(none:Option HO)=some u:=z;cases z') (λb z=>absurd rfl z) λz=>absurd rfl z
 | none=>
  refine core (λb=>if b=a then some (.frz {cls:=.type "list",data:=.seq vs.toArray} (.lst (ns.map V.int)))else none) (λb=>?_) (.inl (.inr ⟨{cls:=.type "list",data:=.seq vs.toArray},bw rfl⟩)) (λb u z=>?_) (λb z=>?_) λ_=>hk
  .by_cases hb:b=a
   .exact .inr ⟨_,_,bw hb⟩
   .exact .inl (bq hb)
  .by_cases hb:b=a
   .have z':=(bw hb).symm.trans z;cases z';subst hb;exact⟨ha,by rw[bi];exact hl,vs,_,rv,ha⟩
   .have z':=(bq hb).symm.trans z;cases z'
  .by_cases hb:b=a
   .exact hb
   .exact absurd (bq hb) z
def Fj{l:W.OpenLaw}{n k:Nat}{q:Pg}{MY:QQQ}{XP:(QQZ)->Heap->Prop}{YP:Wo->Heap->Prop}{d:DefRec}{K:Params->m9}{CX:Wo->DW}{sp:Wo->Sp}{x:Str} (hn:l.most=some n) (OL:n<=sizeLine) (ON:d.params.defaults=[]) (hr:oO k callerA) (hY:∀(w:Wo) (h:Heap),YP w h->(K w.params).In h) (F:∀(w:Wo) (mg:QQZ) (fa:Addr) (h:Heap),(K w.params).In h->h.Ns mainGlobals mg->mg d.name=some (.ref fa)->
   ∃fd:FuncData,(∀(s:Sd) (u:Vl),BindsTo s fd ⟨[u],[]⟩ [(x,u)])/\
    ∀base:Heap,(K w.params).In base->base.Ns mainGlobals mg->vC l.prog w (K w.params) mg base (CX w) k fa fd [x] (sp w))
  (Oe:∀(w:Wo) (H:Hp) (a:Addr) (ns:T0 Int),ns.length<=n->EM H->rA (K w.params) H a (ns.map V.int)->sp w [.ref a] H (λv _=>v=.bl true) λ_ _ _=>False)
  (hCX:∀(w:Wo) (H:Hp) (s:Sd) (e:Vl) (s':Sd),CX w [] H s (λ_ _ _=>False) e s'->False):
  W.WalkO q MY XP YP l.row.toRowW d [] (λf vs=>PySem.call f vs):=by
 refine Att.attach_call hn ON λw s₀ s₁ mg mb fa o pm cd MX a vs ns G Y ho hd NP hmg OW NT Mm hg=>?_;have KX:=hY w _ Y;obtain⟨fd,hb,hF⟩:=F w mg fa _ KX G.T.g hmg;exact EU KX G.T.g G.T.b G.T.builtins G.T.nolimit hg OW NT (bQ Mm OL) hr hF hb (λH hO hS=>Oe w H a ns Mm hO hS) λH e s'=>hCX w H s₁ e s'
noncomputable def Gq(s:Stmt)(j:Nat):Stmt:=match s with
 | .ClassDef _ _ _ body _ _ _ _ _ _ _=>body.getD j (.Pass ⟨0,0,0,0⟩)
 | _=>.Pass ⟨0,0,0,0⟩
noncomputable def pE(s:Stmt):Arguments:=match s with
 | .FunctionDef _ a _ _ _ _ _ _ _ _=>a
 | _=>{posonlyargs:=[],args:=[],vararg:=none,kwonlyargs:=[],kw_defaults:=[],kwarg:=none,defaults:=[]}
noncomputable def oK(s:Stmt):T0 Stmt:=match s with
 | .FunctionDef _ _ b _ _ _ _ _ _ _=>b
 | _=>[]
noncomputable def ng(s:Stmt):Scope:=match s with
 | .FunctionDef _ _ _ _ _ _ sc _ _ _=>sc
 | _=>{kind:=.function,names:=[],isGenerator:=false,isCoroutine:=false}
abbrev E4:DW:=λ_ _ _ _ _ _=>False
abbrev E0:XK:=λ_ _ _=>False
def A0{X:Cx}:vY E4 X E0:=λ_ _ _ _ _ _ _ h=>h.elim
structure IT(K:m9)(x qual:Str)(st:Stmt)(f:Addr)(fd:FuncData):Prop where
 ex:∃(oc:Vl) (od:Option Addr) (kV MX pm:Vl) (an:Option Addr) (Mv ct:Vl) (Ol:Array (Option Vl)),
  fd=W.fnOf x qual (pE st) (oK st) (ng st) .none kV MX pm an Mv ct/\K.lookup f=some ⟨oc,od,.func fd,Ol⟩/\W.codeIn K Mv qual=true
 kp:W.keepIn K (.ref f)=true
variable {P:Pg}{K:m9}{mg:QQZ}{base:Heap}
section
variable {w:Wo}
def IT.ok{x qual:Str}{st:Stmt}{f:Addr}{fd:FuncData}{N ps:QQQ}{k:Nat}{sp:Sp}(F:IT K x qual st f fd)(S:pX N ps (ng st))(len:∀vs H Q E,sp vs H Q E->vs.length=ps.length) (MH:∀(Mv:Vl) (A:Ar) (outer:T0 Env) (s:Sd) (H:Hp) (vs:T0 V) (Q:VK) (E:XK),oO k (A.deeper (envOfC qual (ng st) s.heap.objs.size f Mv))->sp vs H Q E->
   ∃t,xy (xY E4 P w K mg base N qual (ng st) f Mv A outer s H E).mf (oK st) t/\t {nx:=λ_ H'=>Q .lB H',rt:=Q} (sI N vs) H):vC P w K mg base E4 (k+1) f fd ps sp:=by
 obtain⟨oc,od,kV,MX,pm,an,Mv,ct,Ol,rfl,lk,NP⟩:=F.ex;refine J5 lk NP S len λA outer s H vs Q E hr Oe=>?_;obtain⟨t,h,q⟩:=MH Mv A outer s H vs Q E hr Oe;exact⟨t,h.mf,q⟩
def IT.binds{x qual:Str}{st:Stmt}{f:Addr}{fd:FuncData}{ps:QQQ}(F:IT K x qual st f fd) (h:∀(kV MX pm:Vl) (an:Option Addr) (Mv ct:Vl) (us:T0 Vl),us.length=ps.length->bindArgs (W.fnOf x qual (pE st) (oK st) (ng st) .none kV MX pm an Mv ct) ⟨us,[]⟩=pure (ps.zip us)):qW K fd ps []:=by
 obtain⟨oc,od,kV,MX,pm,an,Mv,ct,Ol,rfl,lk,NP⟩:=F.ex;exact .all (h kV MX pm an Mv ct)
def DU{x qual:Str}{st:Stmt}{f:Addr}{oc:Vl}{od an:Option Addr}{Ol:Array (Option Vl)}{kV MX pm Mv ct:Vl}(l:K.lookup f=some ⟨oc,od,.func (W.fnOf x qual (pE st) (oK st) (ng st) .none kV MX pm an Mv ct),Ol⟩) (c:W.codeIn K Mv qual=true) (k:W.keepIn K (.ref f)=true):IT K x qual st f (W.fnOf x qual (pE st) (oK st) (ng st) .none kV MX pm an Mv ct):=⟨⟨oc,od,kV,MX,pm,an,Mv,ct,Ol,rfl,l,c⟩,k⟩
end
variable {X:Cx}
def pv(i:Nat){x:Str}{pos:Pos}(hN:X.N[i]?=some x:=by rfl)(hv:Km X.env.scope x:=by first|exact Or.inl rfl|exact Or.inr (Or.inl rfl)|exact Or.inr (Or.inr rfl))(hd:va x:=by decide)
  (NP:(x==("__classdict__":Str))=false:=by decide):PE X (.Name x pos) (Ig i):=Hl hN hv hd NP
def FB{A B:Prop}(h:B):if false=true then A else B:=by rw[bq bN];exact h
def Iz{A B:Prop}(h:A):if true=true then A else B:=by rw[bw rfl];exact h
def qy{c A B:Prop}[Decidable c](h1:c->A)(h2:¬c->B):if c then A else B:=by
 by_cases h:c
 .rw[bw h];exact h1 h
 .rw[bq h];exact h2 h
def FH(H H':Hp):Prop:=∀b o,H b=some o->H' b=some o
def FH.trans{H H1 H2:Hp}(a:FH H H1)(b:FH H1 H2):FH H H2:=λc o h=>b c o (a c o h)
section
variable {κ:Type}[DecidableEq κ]
noncomputable def rC(kvs:T0 (κ×V))(k:κ):Option V:=(kvs.find? λkv=>decide (kv.1=k)).map (·.2)
noncomputable def Hz(kvs:T0 (κ×V))(k:κ)(v:V):T0 (κ×V):=
 if (kvs.any λkv=>decide (kv.1=k))=true then kvs.map (λkv=>if kv.1=k then(kv.1,v)else kv)else kvs++[(k,v)]
def yQ{p:κ×V}{r:T0 (κ×V)}{k:κ}(e:p.1=k):rC (p::r) k=some p.2:=by simp[rC,eD,e]
def zK{p:κ×V}{r:T0 (κ×V)}{k:κ}(e:¬p.1=k):rC (p::r) k=rC r k:=by simp[rC,eD,e]
def KV.val{kvs:T0 (κ×V)}{vs:T0 (κ×Vl)}(r:KV kvs vs)(k:κ):tP (rC kvs k) (valueAt vs k):=by
 unfold KV at r;induction r with
 | nil=>exact True.intro
 | @cons p q ps qs h t ih=>
  obtain⟨h1,h2⟩:=h;by_cases e:p.1=k
  .have e':q.1=k:=h1.symm.trans e;have b:valueAt (q::qs) k=some q.2:=by simp[valueAt,eD,e']
   rw[yQ e,b];exact h2
  .have e':¬q.1=k:=λz=>e (h1.trans z);have b:valueAt (q::qs) k=valueAt qs k:=by simp[valueAt,eD,e']
   rw[zK e,b];exact ih
def KV.keys{kvs:T0 (κ×V)}{vs:T0 (κ×Vl)}(r:KV kvs vs):kvs.map (·.1)=vs.map (·.1):=by
 unfold KV at r;induction r with
 | nil=>rfl
 | cons h t ih=>rw[b6,b6,ih,h.1]
end
def Ds{P:Pg}{w:Wo}{k:nZ}{u:Vl}(r:nK (kV k) u):(nU P w).is k u=true:=by
 cases k with
 | inl i=>obtain⟨t,e⟩:=(show ∃t,u=Value.int i t from r);subst e;exact y7 P w i t
 | inr x=>obtain⟨t,e⟩:=(show ∃t,u=Value.str x t from r);subst e;exact ux P w x t
theorem wG{P:Pg}{w:Wo}:∀{ks:List nZ} {us:T0 Vl},nv (ks.map kV) us->ItemsAre (nU P w) ks us
 | [],_,r=>by rw[gL]at r;cases r;exact .nil
 | k::ks,_,r=>by
  rw[b6]at r;cases r with
  | cons h t=>exact .cons (Ds h) (wG t)
abbrev KT(H:Hp):T0 (List nZ×V)->T0 (List nZ×Addr×Vl)->Prop:=Paired λp q=>p.1=q.1/\H q.2.1=some (.tup (p.1.map kV))/\nK p.2 q.2.2
def KT.val{H:Hp}{kvs:T0 (List nZ×V)}{xs:T0 (List nZ×Addr×Vl)}(r:KT H kvs xs)(k:List nZ):tP (rC kvs k) ((atKey xs k).map (·.2)):=by
 induction r with
 | nil=>exact True.intro
 | @cons p q ps qs h t ih=>
  obtain⟨h1,_,h2⟩:=h;by_cases e:p.1=k
  .have e':q.1=k:=h1.symm.trans e;have b:atKey (q::qs) k=some q.2:=by simp[atKey,eD,e']
   rw[yQ e,b];exact h2
  .have e':¬q.1=k:=λz=>e (h1.trans z);have b:atKey (q::qs) k=atKey qs k:=by simp[atKey,eD,e']
   rw[zK e,b];exact ih
variable {H:Hp}{h:Heap}{a:Addr}
section
variable {w:Wo}
def GY{u:HO}(ok:tz P w H h)(e:Rd H a u):oo P w H h a u:=e.ok ok
def GT{kvs:T0 (nZ×V)}(ok:tz P w H h)(e:Rd H a (.dK kvs)):kvs.length<=sizeLine/\(a==sysModules)=false/\∃vs,KV kvs vs/\h.DictOf (nU P w) a vs:=
 show oo P w H h a (.dK kvs)from GY ok e
def Ed{ks:List nZ}(ok:tz P w H h)(e:H a=some (.tup (ks.map kV))):(tupleKind (nU P w)).is h ks a:=by obtain⟨_,its,r,o,h1,h2,⟨n,h3⟩,_⟩:=(show oo P w H h a (.tup (ks.map kV))from ok a _ e);exact⟨o,its.toArray,n,h1,h2,h3,by simpa using wG r⟩
def G9{kvs:T0 (List nZ×V)}(ok:tz P w H h)(e:Rd H a (.dT kvs)):kvs.length<=sizeLine/\(a==sysModules)=false/\
  ∃xs,KT H kvs xs/\h.DictOfH (tupleKind (nU P w)) a xs:=by
 obtain⟨z,y,xs,r,o,es,ep,h1,h2,h3,h4,h5⟩:=(show oo P w H h a (.dT kvs)from GY ok e);refine⟨z,y,xs,r,o,es,ep,h1,h2,h3,h4,λx hx=>?_,h5⟩;have all:∀{l:T0 (List nZ×V)} {m:T0 (List nZ×Addr×Vl)},KT H l m->∀x∈m,(tupleKind (nU P w)).is h x.1 x.2.1:=by
  intro l m q;induction q with
  | nil=>intro x hx;exact nomatch hx
  | @cons p q ps qs hq t ih=>
   intro x hx;rcases br.mp hx with e|hx
   .subst e;exact Ed ok (by rw[<-hq.1];exact hq.2.1)
   .exact ih x hx
 exact all r x hx
end
def Ao(H:Hp)(a:Addr)(y:V)(r:Option V):Prop:=
 (∃kvs k,Rd H a (.dK kvs)/\y=kV k/\r=rC kvs k)\/∃kvs k b,Rd H a (.dT kvs)/\y=.ref b/\H b=some (.tup (k.map kV))/\r=rC kvs k
def JH(H:Hp)(a:Addr)(y v:V)(H':Hp):Prop:=
 (∃kvs k,H a=some (.dK kvs)/\y=kV k/\kvs.length<sizeLine/\H'=upd H a (.dK (Hz kvs k v)))\/
 ∃kvs k b,H a=some (.dT kvs)/\y=.ref b/\H b=some (.tup (k.map kV))/\kvs.length<sizeLine/\H'=upd H a (.dT (Hz kvs k v))
def Ao.k{H:Hp}{a:Addr}{kvs:T0 (nZ×V)}{k:nZ}(e:H a=some (.dK kvs)):Ao H a (kV k) (rC kvs k):=.inl ⟨kvs,k,.inl e,rfl,rfl⟩
def JH.k{H:Hp}{a:Addr}{kvs:T0 (nZ×V)}{k:nZ}{v:V}(e:H a=some (.dK kvs))(hl:kvs.length<sizeLine):JH H a (kV k) v (upd H a (.dK (Hz kvs k v))):=.inl ⟨kvs,k,e,rfl,hl,rfl⟩
variable {Mf:T0 (Addr × Obj)}{Y:St}{y v:V}{u r:Vl}
section
variable {s:Sd}{o:Option V}{A:Ar}{E:QQX}
def Inv.big(I:Inv X Mf Y H s):sysModules<s.heap.objs.size:=by have h:mainGlobals<s.heap.objs.size:=(I.mod.glob.keeps I.bk).lt;exact iF (by decide) h
def BY{Q:QQX}(hu:A.units+1<cLine)(I:Inv X Mf Y H s)(g:Ao H a y (some v))(ry:nK y u)(h:∀w' s',Inv X Mf Y H s'->nK v w'->Q w' s'):
  wpAny (model X.prog X.w) A (getItem (.ref a) u) Q E s:=by
 rcases g with⟨kvs,k,e,ey,l⟩|⟨kvs,k,b,e,ey,eb,l⟩
 .subst ey;obtain⟨z,hd,vs,rel,dd⟩:=GT I.lC e;obtain⟨w',hw,NS⟩:=tP.some_of (v:=v) (o:=valueAt vs k) (by rw[l];exact rel.val k);exact wpAny_getItem_of (Ds ry) dd.mapOf hw (h w' _ (I.tok _) NS)
 .subst ey;cases(show u=Value.ref b from ry);obtain⟨z,hd,xs,rel,dd⟩:=G9 I.lC e;obtain⟨w',hw,NS⟩:=tP.some_of (v:=v) (o:=(atKey xs k).map (·.2)) (by rw[l];exact rel.val k);obtain⟨p,hp,hp2⟩:=eh.mp hw;refine wpAny_getItem_heap (tupleKind_room_in1 hu) (Ed I.lC eb) dd hp ?_;rw[hp2];exact h w' _ (I.tok _) NS
def IS{P:Pg}{w:Wo}{H':Hp}{h':Heap}{kvs:T0 (nZ×V)}{vs:T0 (nZ×Vl)}(z:kvs.length<=sizeLine)(hd:(a==sysModules)=false)(rel:KV kvs vs)(dd:h'.DictOf (nU P w) a vs):
  oo P w H' h' a (.dK kvs):=⟨z,hd,vs,rel,dd⟩
end
variable {kvs:T0 (nZ × V)}{k:nZ}
section
variable {s:Sd}{A:Ar}{E:QQX}
end
def zF{X:Cx}{Mf:QQY}{Y:St}{H:Hp}{s:Sd}{a:Addr}{y:V}{o:Option V}(I:Inv X Mf Y H s)(g:Ao H a y o):s.TypeIs (.ref a) "dict":=by
 rcases g with⟨kvs,k,e,_,_⟩|⟨kvs,k,b,e,_,_,_⟩
 .obtain⟨_,_,vs,_,dd⟩:=GT I.lC e;exact dd.typeIs
 .obtain⟨_,_,xs,_,dd⟩:=G9 I.lC e;exact dd.typeIs
variable {i e value:Expr}{pos MB tpos:Pos}{td ty tv:TE}
section
variable {o:Expr}
end
structure M1(X:Cx)(o:Expr)(m:Str)(Mj:Pos)(e:Expr)(Ms:Pos):Prop where
 base:attributeBase o m X.env (eval o X.env)=eval o X.env
 mF:((backTo Ms (starEach [e] X.env)).all (λx=>!x.1)&&(backToKw Ms (keywordEach [] X.env)).all (λx=>x.1.isSome)
  &&decide (([e]:List Expr).length+([]:List Keyword).length+(if ([]:List Keyword).isEmpty then 0 else 1)<30))=true
 line:(Mj.endLine==Ms.line)=true
 trees:backTo Ms (starEach [e] X.env)=[(false,eval e X.env)]
structure M2(X:Cx)(o:Expr)(m:Str)(Mj:Pos)(e f:Expr)(Ms:Pos):Prop where
 base:attributeBase o m X.env (eval o X.env)=eval o X.env
 mF:((backTo Ms (starEach [e,f] X.env)).all (λx=>!x.1)&&(backToKw Ms (keywordEach [] X.env)).all (λx=>x.1.isSome)
  &&decide (([e,f]:List Expr).length+([]:List Keyword).length+(if ([]:List Keyword).isEmpty then 0 else 1)<30))=true
 line:(Mj.endLine==Ms.line)=true
 trees:backTo Ms (starEach [e,f] X.env)=[(false,eval e X.env),(false,eval f X.env)]
variable {d:V}
section
variable {s:Sd}{o:Option V}{A:Ar}{E:QQX}
end
variable {f:Expr}{Mj Ms:Pos}{tx:TE}
section
variable {o:Expr}
end
section
variable {s:Sd}{A:Ar}{E:QQX}
end
section
variable {s:Sd}{A:Ar}{E:QQX}
end
section
variable {κ:Type}[DecidableEq κ]
end
noncomputable def uR(env:Env):T0 (Str×NameKind)->T0 (Str×Addr)->T0 (Str×Addr)
 | [],acc=>acc
 | (n,k)::r,acc=>uR env r (if k==.free then(n,(env.cells.lookup n).getD 0)::acc else acc)
theorem zt{env:Env}{f:(Str×NameKind)->T0 (Str×Addr)->Sem (ForInStep (T0 (Str×Addr)))} (hf:∀x cs,(x.2=.free->∃c,env.cells.lookup x.1=some c)->f x cs=pure (.yield (if x.2==.free then(x.1,(env.cells.lookup x.1).getD 0)::cs else cs))):
  ∀(l:T0 (Str×NameKind)) (acc:T0 (Str×Addr)),(∀x∈l,x.2=.free->∃c,env.cells.lookup x.1=some c)->forIn l acc f=pure (uR env l acc)
 | [],acc,_=>by rw[jf];rfl
 | (n,k)::r,acc,h=>by rw[iZ,hf (n,k) acc (h _ bG),pure_bind];exact zt hf r _ λx hx=>h x (bK _ hx)
def sE{scope:Scope}{env:Env}(h:∀x∈scope.names,x.2=.free->∃c,env.cells.lookup x.1=some c):closureFor scope env=pure (uR env scope.names []):=by
 unfold closureFor;have e:=zt (env:=env) (f:=λ(x:Str×NameKind) (cs:T0 (Str×Addr))=>(do
   if x.2==.free then
    let a<-cellOf env x.1
    pure (ForInStep.yield ((x.1,a)::cs))
   else pure (ForInStep.yield cs))) (λx cs hx=>by
  cases hk:x.2==NameKind.free with
  | false=>simp
  | true=>
   obtain⟨c,hc⟩:=hx (by simpa using hk);simp[cellOf,hc]) scope.names [] h
 first
  | exact(c8 (·>>=pure) e).trans (by simp)
  | (simp only[bind_pure];exact e)
  | (rw[<-e];rfl)
theorem Ex{env:Env}{x:Str}{c:Addr}:∀{l:T0 (Str×NameKind)} {acc:T0 (Str×Addr)},(∀x∈l,x.2=.free->∃c,env.cells.lookup x.1=some c)->(∀x c,acc.lookup x=some c->env.cells.lookup x=some c)->(uR env l acc).lookup x=some c->env.cells.lookup x=some c
 | [],acc,_,ha,h=>ha x c h
 | (n,k)::r,acc,hl,ha,h=>by
  refine Ex (l:=r) (acc:=if k==.free then(n,(env.cells.lookup n).getD 0)::acc else acc) (λy hy=>hl y (bK _ hy)) (λy d hd=>?_) h;cases hk:k==NameKind.free with
  | false=>rw[hk]at hd;exact ha y d (by simpa using hd)
  | true=>
   rw[hk,bw rfl]at hd;obtain⟨e,he⟩:=hl (n,k) bG (by simpa using hk);rw[cj]at hd;cases hy:y==n with
   | true=>
    rw[hy]at hd;have yn:y=n:=by simpa using hy
    subst yn;have he:env.cells.lookup y=some e:=he;rw[he]at hd ⊢;exact hd
   | false=>rw[hy]at hd;exact ha y d hd
theorem DZ{env:Env}{x:Str}:∀{l:T0 (Str×NameKind)} {acc:T0 (Str×Addr)},(∃c,acc.lookup x=some c)->∃c,(uR env l acc).lookup x=some c
 | [],_,h=>h
 | (n,k)::r,acc,h=>by
  refine DZ (l:=r) ?_;cases hk:k==NameKind.free with
  | false=>simpa using h
  | true=>
   rw[bw rfl,cj];cases hy:x==n with
   | true=>exact⟨_,rfl⟩
   | false=>exact h
theorem AG{env:Env}{x:Str}:∀{l:T0 (Str×NameKind)} {acc:T0 (Str×Addr)},l.lookup x=some .free->∃c,(uR env l acc).lookup x=some c
 | [],_,h=>by simp at h
 | (n,k)::r,acc,h=>by
  rw[cj]at h;cases hy:x==n with
  | true=>rw[hy]at h;have hk:k=.free:=bJ h;subst hk;refine DZ (l:=r) ⟨(env.cells.lookup n).getD 0,?_⟩;show List.lookup x (if NameKind.free==NameKind.free then(n,(env.cells.lookup n).getD 0)::acc else acc)=some ((env.cells.lookup n).getD 0);rw[bw (by rfl),cj,hy]
  | false=>rw[hy]at h;exact AG (l:=r) h
theorem pF{env:Env}{x:Str}:∀{l:T0 (Str×NameKind)},(l.map λ(n,k)=>if (k==NameKind.free&&env.scope.kind==.function&&env.kindOf n==some .cell)then(n,NameKind.cell)else(n,k)).lookup x
   = (l.lookup x).map λk=>if (k==NameKind.free&&env.scope.kind==.function&&env.kindOf x==some .cell)then NameKind.cell else k
 | []=>rfl
 | (n,k)::r=>by
  rw[b6];show List.lookup x ((if (k==NameKind.free&&env.scope.kind==.function&&env.kindOf n==some .cell)=true then(n,NameKind.cell)else(n,k))::_)=_;cases hy:x==n with
  | true=>
   have yn:x=n:=by simpa using hy
   subst yn;by_cases hc:(k==NameKind.free&&env.scope.kind==.function&&env.kindOf x==some .cell)=true
   .rw[bw hc,cj,cj,hy];simp only[fR];rw[bw hc]
   .rw[bq hc,cj,cj,hy];simp only[fR];rw[bq hc]
  | false=>
   by_cases hc:(k==NameKind.free&&env.scope.kind==.function&&env.kindOf n==some .cell)=true
   .rw[bw hc,cj,cj,hy];exact pF
   .rw[bq hc,cj,cj,hy];exact pF
noncomputable def Gk(ix:T0 (Option Nat))(Y:St):St:=ix.map λo=>o.bind λi=>(Y[i]?).join
abbrev Cx.comp(X:Cx)(scope:Scope)(N':QQQ)(C:Addr)(s0:Sd)(H0:Hp)(ex:QXQ):Cx:=
 {X with N:=N',s₀:=s0,H₀:=H0,env:=compEnvC scope (uR X.env scope.names []) C X.env,outer:=X.stack,ex:=ex,fn:=λ_=>false,pn:=[],xe:=λ_ _=>False}
structure om(X:Cx)(scope:Scope)(ix:List (Option Nat))(N':QQQ):Prop where
 kind:scope.kind=.function
 mh:∀y∈scope.names,y.2≠.cell
 nam:∀y∈scope.names,y.2=.local->scope.names.lookup y.1=some .local
 fre:∀y∈scope.names,y.2=.free->X.env.scope.names.lookup y.1=some .cell\/X.env.scope.names.lookup y.1=some .free
 len:ix.length=N'.length
 at_:∀(j i:Nat) (x:Str),ix[j]?=some (some i)->N'[j]?=some x->X.N[i]?=some x/\scope.names.lookup x=some .free
variable {scope:Scope}{ix:T0 (Option Nat)}{N':QQQ}{fp:QXQ}
section
variable {s:Sd}
def om.cells(S:om X scope ix N')(ok:X.Ok):∀x∈scope.names,x.2=.free->∃c,X.env.cells.lookup x.1=some c:=λx hx hk=>ok.has x.1 (S.fre x hx hk)
def om.sub(S:om X scope ix N')(ok:X.Ok){x:Str}{c:Addr}(h:(uR X.env scope.names []).lookup x=some c):X.env.cells.lookup x=some c:=Ex (S.cells ok) (λ_ _ z=>by simp at z) h
theorem qm{x:Str}{k:NameKind}:∀{l:T0 (Str×NameKind)},l.lookup x=some k->(x,k)∈l
 | [],h=>by simp at h
 | (n,j)::r,h=>by
  rw[cj]at h;cases hy:x==n with
  | true=>
   rw[hy]at h;have yn:x=n:=by simpa using hy
   subst yn;rw[bJ h];exact bG
  | false=>rw[hy]at h;exact bK _ (qm h)
def Inv.comp{C:Addr}{h1:Heap}{tk:Nat}(I:Inv X Mf Y H s)(S:om X scope ix N')(hf:∀b∈fp,ui X Mf H b)(Mr:∀b∈fp,b<s.heap.objs.size)(hC:s.heap.objs.size<=C) (k:∀b o,s.heap.get? b=some o->h1.get? b=some o) (hn:h1.Ns C (λ_=>none)):Inv (X.comp scope N' C s H fp) (X.pn++Mf) (Gk ix Y) H {s with heap:=h1,toks:=tk}:=by
 have sub:∀{x:Str} {c:Addr},(uR X.env scope.names []).lookup x=some c->X.env.cells.lookup x=some c:=λh=>S.sub I.ok h;refine⟨⟨I.ok.mod,S.kind,I.ok.glob,I.ok.blt,hC,λx y c e1 e2=>I.ok.inj x y c (sub e1) (sub e2),λx hx=>?_,λ_ _ z=>(bN z).elim,I.ok.hd,I.ok.frames,.inl rfl,λb hb=>⟨bH (bO (Mr b hb) hC),λx c e=>(hf b hb).2.2.2.2.1 x c (sub e)⟩,I.bs,bQ I.ok.md I.sz,λb o e hb=>?_,λb hb hfs=>?_,I.stack,I.l4⟩,rfl,I.bare,Un.kept k,⟨_,hn,λi x v e1 e2 e3=>?_⟩,λx c e=>?_,I.lC.fresh hC,λx c e=>I.lK x c (sub e),λp hp=>?_,I.lC.kept k,?_⟩
 .have hx:(relabel scope X.env).names.lookup x=some .cell\/(relabel scope X.env).names.lookup x=some .free:=hx;have e:(relabel scope X.env).names.lookup x=(scope.names.lookup x).map λk=>if (k==NameKind.free&&X.env.scope.kind==.function&&X.env.kindOf x==some .cell)then NameKind.cell else k:=pF
  rw[e]at hx;cases q:scope.names.lookup x with
  | none=>rw[q]at hx;rcases hx with hx|hx<;>simp at hx
  | some kd=>
   cases kd with
   | free=>exact AG q
   | cell=>exact absurd rfl (S.mh _ (qm q))
   | _=>rw[q]at hx;rcases hx with hx|hx<;>simp at hx
 .rcases(hf b hb).2.2.2.1 with z|z
  .exact I.ok.l6 b o e z
  .exact absurd (bO (bD e) (bQ I.ok.md z)) (cM _)
 .rcases br.mp (I.lL b hfs)with z|z
  .exact(hf b hb).2.1 z
  .exact(hf b hb).2.2.1 z
 .have NU:(ix[i]?).map (λo=>o.bind λi=>(Y[i]?).join)=some (some v):=by have z:(Gk ix Y)[i]?=some (some v):=e2;unfold Gk at z;rw[bM]at z;exact z
  cases q:ix[i]? with
  | none=>rw[q]at NU;cases NU
  | some o=>
   rw[q]at NU;cases o with
   | none=>cases NU
   | some j=>
    have Oo:(Y[j]?).join=some v:=bJ NU;have e4:Y[j]?=some (some v):=by
     cases r:Y[j]? with
     | none=>rw[r]at Oo;cases Oo
     | some w=>rw[r]at Oo;exact c8 some Oo
    obtain⟨n1,n2⟩:=S.at_ i j x q e1;obtain⟨m,hm,hl⟩:=I.loc;have hk:=S.fre _ (qm n2) rfl;have hv:Km X.env.scope x:=by
     rcases hk with z|z
     .exact .inr (.inl z)
     .exact .inr (.inr z)
    obtain⟨u,ru,lk⟩:=hl j x v n1 e4 hv;refine⟨u,ru,?_⟩;have OX:X.env.kindOf x=some .cell\/X.env.kindOf x=some .free:=hk;rcases lk with⟨z,_⟩|⟨_,c,hc,hcell⟩
    .rcases OX with y|y<;>(rw[y]at z;cases z)
    .obtain⟨c',hc'⟩:=AG (env:=X.env) (acc:=[]) n2;have:=sub hc';rw[hc]at this;cases this;refine .inr ⟨?_,c,hc',hcell.keeps k⟩;show(relabel scope X.env).names.lookup x=some .cell\/(relabel scope X.env).names.lookup x=some .free;have e:(relabel scope X.env).names.lookup x=(scope.names.lookup x).map λk=>if (k==NameKind.free&&X.env.scope.kind==.function&&X.env.kindOf x==some .cell)then NameKind.cell else k:=pF
     rw[e,n2];simp only[fR];split
     .exact .inl rfl
     .exact .inr rfl
 .obtain⟨v,q⟩:=I.cell x c (sub e);exact⟨v,q.keeps k⟩
 .obtain⟨e,n,ne,nf,d⟩:=I.pin p (by simpa using hp);refine⟨k _ _ e,n,bH (bO (bD e) hC),λz=>?_,d⟩;rcases br.mp (I.lL p.1 z)with y|y
  .exact ne y
  .exact nf y
 .show(Gk ix Y).length=N'.length;unfold Gk;rw[bi];exact S.len
end
section
variable {prog:Pg}{w:Wo}{A:Ar}{R:Result→Sd→Prop}{s:Sd}
def rH{Nc MD iter:Expr}{ML:T0 Expr}{scope:Scope}{pos:Pos}{it acc:Vl}{env:Env}(I:Nat->Sd->Prop){EX:QQX}(hEX:∀e s',EX e s'->notedBy (model prog w) A env (λx s'=>R (.error x) s') e s') (NQ:∀n s,I n s->wpAny (model prog w) A (pyNext it) (λr s₁=>match r with
   | none=>R (.ok .next) s₁
   | some v=>wpAny (model prog w) A (letOwnedTupleGo MD it v) (λ_ s₁=>wpAny (model prog w) A (assign MD env v) (λ_ s₂=>
     wpAny (model prog w) A (forIn ML true λc r=>if r=true then do let ok<-isTrue c env (eval c env);pure (ForInStep.yield ok)else pure (ForInStep.yield r)) (λok s₃=>
      if ok=true then wpAny (model prog w) A (eval Nc env) (λx s₄=>
       wpAny (model prog w) A (call (.builtin "list.append") [acc,x]) (λ_ s₅=>∃m,m<n/\I m s₅) (λ_ _=>False) s₄) EX s₃
      else ∃m,m<n/\I m s₃) (λ_ _=>False) s₂) (λ_ _=>False) s₁) (λ_ _=>False) s₁) (λ_ _=>False) s)
  (n:Nat) (h:I n s):
  codeAny (model prog w) A (.compLoop (.ListComp Nc [⟨MD,iter,ML,0⟩] scope pos) 0 it acc env) R s:=by
 refine codeAny_loop rfl I (λn s hI=>?_) n h;show wpAny _ A ((compTurn (.ListComp Nc [⟨MD,iter,ML,0⟩] scope pos) 0 it acc env).onRaise (λx=>do noteFrame x env;theTreesLotGoes x)) _ _ s;refine wpAny_noted ?_;rw[compTurn_list];refine bh (wpAny_standAt (bh (cz (NQ n s hI) (λr s₁ h₁=>?_) λ_ _ h'=>h'.elim)));cases r with
 | none=>exact bj h₁
 | some v=>
  refine bh (cz h₁ (λ_ s₁' h₁'=>?_) λ_ _ h'=>h'.elim);refine bh (cz h₁' (λ_ s₂ h₂=>bh (cz h₂ (λok s₃ h₃=>?_) λ_ _ h'=>h'.elim)) λ_ _ h'=>h'.elim);cases ok with
  | false=>exact bj ⟨rfl,h₃⟩
  | true=>exact bh (bh (cz h₃ (λx s₄ h₄=>bh (cz h₄ (λ_ s₅ h₅=>bj (bj ⟨rfl,h₅⟩)) λ_ _ h'=>h'.elim)) hEX))
end
def PF(X:Cx)(ML:T0 Expr)(t:TT):Prop:=
 ∀(Mf:QQY) (s:Sd) (Y:St) (H:Hp) (Q:Bool->Hp->Prop),Inv X Mf Y H s->t Y H Q->
  wpAny (model X.prog X.w) X.A (forIn ML true λc r=>if r=true then do let ok<-isTrue c X.env (eval c X.env);pure (ForInStep.yield ok)else pure (ForInStep.yield r)) (TP X Mf Y Q) X.xe s
def Kj:TT:=λ_ H Q=>Q true H
def HJ{X:Cx}:PF X [] Kj:=λ_ _ _ H _ I h=>wpAny_tests_nil ⟨H,I,h⟩
def HZ{X:Cx}{c:Expr}{t:TT}(h:PT X c t):PF X [c] t:=λMf s Y H Q I q=>wpAny_tests_one (h Mf s Y H Q I q)
def G0(ix:T0 (Option Nat))(g:TG)(tt:TT)(te:TE)(Y:St)(J:It)(Q:VK)(H:Hp):Prop:=
 ∃W:Nat->Nat->T0 V->St->Hp->Prop,(∃m,W 0 m [] (Gk ix Y) H)/\∀i m ys σ' H,W i m ys σ' H->
  (J.stop i H/\ys.length<=sizeLine/\∀D,H D=none->Q (.ref D) (upd H D (.lst ys)))\/
  (J.go i H/\ys.length<sizeLine/\∀x H',J.mv i H x H'->g x σ' H' λσ2 H2=>tt σ2 H2 λb H3=>if b=true then te σ2 H3 λy H4=>∃m',m'<m/\W (i+1) m' (ys++[y]) σ2 H4 else ∃m',m'<m/\W (i+1) m' ys σ2 H3)
def Du(ix:T0 (Option Nat))(wi:TI)(g:TG)(tt:TT)(te:TE):TE:=λY H Q=>wi Y H λJ H1=>G0 ix g tt te Y J Q H1
variable {tg iter Nc:Expr}{ML:T0 Expr}{g:TG}{tt:TT}{te:TE}{J:It}{it:Addr}{tn:Nat→Heap→Prop}{Q:VK}
section
variable {s:Sd}
def vE{XP:Addr->Sd->Hp->QXQ->QQY->St->Vl->Sd->Prop}{RR:Vl->Addr->Result->Sd->Prop}{E:QQX}(hc:X.calm=true)(S:om X scope ix N')(I:Inv X Mf Y H s)(T:yb X.prog X.w X.K tg J fp it tn)(st:tn 0 s.heap)(hf:∀b∈fp,ui X Mf H b) (hg:∀C s0 H0 ex,PG (X.comp scope N' C s0 H0 ex) tg g) (ht:∀C s0 H0 ex,PF (X.comp scope N' C s0 H0 ex) ML tt) (he:∀C s0 H0 ex Mf s Y H Q,Inv (X.comp scope N' C s0 H0 ex) Mf Y H s->te Y H Q->wpAny (model X.prog X.w) X.A (eval Nc (X.comp scope N' C s0 H0 ex).env) (EP (X.comp scope N' C s0 H0 ex) Mf Y Q) (XP C s0 H0 ex Mf Y) s) (hx:∀C D e s',s.heap.objs.size<=C->(∃Nj σ',(∀b∈fp,∃o,(b,o)∈Nj)/\XP C s H fp Nj σ' e s')->notedBy (model X.prog X.w) X.A (compEnvC scope (uR X.env scope.names []) C X.env) (λx s'=>RR D C (.error x) s') e s') (hw:G0 ix g tt te Y J Q H) (fin:∀D C s' H' m,s.heap.objs.size<=C->H' C=none->s'.heap.Ns C m->Inv X Mf Y H' s'->Q (.ref D) H'->RR (.ref D) C (.ok .next) s'):
  wpAny (model X.prog X.w) X.A (newList []) (λacc s₃=>wpAny (model X.prog X.w) X.A (newFunctionEnv scope X.env.globals (uR X.env scope.names []) [] X.env.qual none .none (some X.env)) (λcenv s₄=>
   codeAny (model X.prog X.w) X.A (.compStart (.ListComp Nc [⟨tg,iter,ML,0⟩] scope pos) 0 (.ref it) acc {cenv with scope:=relabel scope X.env}) (RR acc cenv.locals) s₄) E s₃) E s:=by
 obtain⟨W,⟨m0,w0⟩,NQ⟩:=hw;have Mr:∀b∈fp,b<s.heap.objs.size:=λb hb=>by obtain⟨o,e,_⟩:=T.obj _ _ st b hb;exact bD e
 refine cR (wpAny_newFunctionEnv S.mh (by intro y hy;simp at hy) (λh₁ NV Oq=>?_) S.kind);dsimp only at NV Oq ⊢;generalize hH2:s.heap.push {cls:=.type "list",dict:=none,data:=.seq ([]:T0 Vl).toArray}=H2 at NV Oq ⊢;have hC:H2.objs.size=s.heap.objs.size+1:=by rw[<-hH2,b8]
 have hDC:s.heap.objs.size≠H2.objs.size:=by rw[hC];exact bH (d9 _)
 have Os:s.heap.objs.size<=H2.objs.size:=by rw[hC];exact dQ _
 have below:∀b,b<s.heap.objs.size->b≠H2.objs.size/\b≠s.heap.objs.size:=λb hb=>⟨by rw[hC];exact bH (cZ hb),bH hb⟩;have Ot:∀b o,s.heap.get? b=some o->h₁.get? b=some o:=λb o e=>Oq.extBut b o (below b (bD e)).1 (bp _ (hH2 ▸ bp _ e));have NW:h₁.get? s.heap.objs.size=some {cls:=.type "list",data:=.seq ([]:T0 Vl).toArray 0}:=Oq.extBut _ _ hDC (bp _ (hH2 ▸ bE _ rfl));have NV:h₁.Ns H2.objs.size (λ_=>none):=NV;have Nu:∀{H':Hp} {pl:QQY},(∀b∈fp,H' b=none)->(∀p∈pl,p.1∉fp)->∀b∈fp,ui (X.comp scope N' H2.objs.size s H fp) (X.pn++Mf++pl) H' b:=λ{H' pl} hn MA b hb=>by
  refine⟨hn b hb,bH (bO (Mr b hb) Os),λz=>?_,.inl hb,λx c e=>(hf b hb).2.2.2.2.1 x c (S.sub I.ok e),λp hp=>?_⟩
  .rcases br.mp (I.lL b z)with y|y
   .exact(hf b hb).2.1 y
   .exact(hf b hb).2.2.1 y
  .rcases bS.mp (show p∈X.pn++Mf++pl by simpa using hp)with z|z
   .exact(hf b hb).2.2.2.2.2 p z
   .intro q;exact MA p z (q ▸ hb)
 have loop:∀s₃:Sd,s₃={s with heap:=h₁,toks:=s.toks+([]:T0 (Str×Vl)).length}->
   codeAny (model X.prog X.w) X.A (.compLoop (.ListComp Nc [⟨tg,iter,ML,0⟩] scope pos) 0 (.ref it) (.ref s.heap.objs.size) (compEnvC scope (uR X.env scope.names []) H2.objs.size X.env))
    (RR (.ref s.heap.objs.size) H2.objs.size) s₃:=by
  rintro s₃ rfl
  refine rH (hEX:=λe s' z=>hx _ _ e s' Os z) (λn s'=>∃(i:Nat) (ys:T0 V) (us:T0 Vl) (k:Nat) (σ':St) (H':Hp),Inv (X.comp scope N' H2.objs.size s H fp) (X.pn++Mf) σ' H' s'/\tn i s'.heap/\(∀b∈fp,H' b=none)/\H' s.heap.objs.size=none/\
   s'.heap.get? s.heap.objs.size=some {cls:=.type "list",data:=.seq us.toArray k}/\nv ys us/\ys.length<=sizeLine/\W i n ys σ' H') ?_ m0
   ⟨0,[],[],0,Gk ix Y,H,I.comp S hf Mr Os Ot NV,T.keep _ _ _ st λb _ o e=>Ot b o e,λb hb=>(hf b hb).1,I.lC.fresh (bB _),NW,.nil,cu _,w0⟩
  rintro n s' ⟨i,ys,us,k,σ',H',I',Mi,fr',hD',NL,rv',hz',w'⟩
  have cellD:∀x c,(X.comp scope N' H2.objs.size s H fp).env.cells.lookup x=some c->c≠s.heap.objs.size:=λx c e=>by obtain⟨v,q⟩:=I.cell x c (S.sub I.ok e);exact bH q.lt
  have pinD:∀p∈X.pn++Mf,p.1≠s.heap.objs.size:=λp hp=>bH (bD (I.pin p hp).1);have dfs:s.heap.objs.size∉(X.comp scope N' H2.objs.size s H fp).fs:=λz=>by
   rcases br.mp (I.lL _ z)with y|y
   .exact absurd I.lt (by rw[<-y];exact cM _)
   .exact I.mz (bB _) y
  have dfp:s.heap.objs.size∉fp:=λz=>absurd (Mr _ z) (cM _);have IpD:Inv (X.comp scope N' H2.objs.size s H fp) (X.pn++Mf++[(s.heap.objs.size,{cls:=.type "list",data:=.seq us.toArray k})]) σ' H' s':=I'.lR λp hp=>by
   rcases bS.mp hp with z|z
   .exact I'.pin p (bU _ z)
   .have e:p=(s.heap.objs.size,{cls:=.type "list",data:=.seq us.toArray k}):=by simpa using z
    subst e;exact⟨NL,hD',hDC,dfs,λv z=>by cases z⟩
  have pfp:∀p∈[((s.heap.objs.size,{cls:=.type "list",data:=.seq us.toArray k}):Addr×Obj)],p.1∉fp:=λp hp=>by
   have e:p=(s.heap.objs.size,{cls:=.type "list",data:=.seq us.toArray k}):=by simpa using hp
   subst e;exact dfp
  rcases NQ i n ys σ' H' w' with⟨stop,hz,q⟩|⟨go,hz,step⟩
  .refine cz (T.done (X.comp scope N' H2.objs.size s H fp) rfl rfl rfl hc i _ s' σ' H' (λ_ _=>False) IpD (Nu fr' pfp) Mi stop) (λr s1 ⟨hr,I1⟩=>?_) λ_ _ z=>z;subst hr;show RR _ _ _ _;have ho1:s1.heap.get? s.heap.objs.size=some {cls:=.type "list",data:=.seq us.toArray k}:=(I1.pin (s.heap.objs.size,{cls:=.type "list",data:=.seq us.toArray k}) (by simp)).1;obtain⟨m,hnC,_⟩:=id I1.loc;refine fin _ _ s1 (upd H' s.heap.objs.size (.lst ys)) m Os (by rw[nh (bR hDC)];exact I1.free) hnC ?_ (q _ hD');have nD:∀b o,s.heap.get? b=some o->b≠s.heap.objs.size:=λb o e=>(below b (bD e)).2;have hD0:H s.heap.objs.size=none:=I.lC.fresh (bB _);refine I.mn (s':=s1) (ch:=fp) I1.os ⟨λb o e n1 n2 n3=>?_,λb o e n1 n2 n3=>?_,λb o e n1 n2=>?_,λb o e n1=>?_,λb xs e=>?_,λb o u e=>?_,λb ps e=>?_⟩ (λb u e=>?_) I1.bare λb hb=>⟨(hf b hb).2.2.2.1,(hf b hb).2.1,(hf b hb).2.2.2.2.1,(hf b hb).2.2.2.2.2⟩
   .exact I1.base.keep b o e n1 n2 n3
   .exact I1.base.slot b o e n1 n2 n3
   .rw[nh (nD b o e)];exact I1.base.free b o e n1 n2
   .exact I1.base.there b o e n1
   .rw[nh (ny e hD0)];exact I1.base.lW b xs e
   .rw[nh (ny e hD0)];exact I1.base.lU b o u e
   .obtain⟨more,z⟩:=I1.base.lY b ps e;exact⟨more,by rw[nh (ny e hD0)];exact z⟩
   .by_cases hb:b=s.heap.objs.size
    .subst hb;rw[m7]at e;cases e;exact⟨hz,us,k,rv',ho1⟩
    .rw[nh hb]at e;exact(I1.lC b u e).lT (λc v _ z=>z) (λc z=>by rw[nh (ny z hD')];exact z) (λc xs z=>by rw[nh (ny z hD')];exact z)
  .refine cz (T.item (X.comp scope N' H2.objs.size s H fp) rfl rfl rfl hc i _ s' σ' H' (λ_ _=>False) IpD (Nu fr' pfp) Mi go) (λr s1 ⟨v,hr,h4⟩=>?_) λ_ _ z=>z;subst hr;show wpAny _ _ (letOwnedTupleGo tg (.ref it) v) _ _ s1;refine cz h4 (λ_ s2 zz=>?_) λ_ _ z=>z;obtain⟨x,H5,I5,r5,y5,OK,fr5⟩:=zz;have I5':=I5.pinned (Nu fr5 pfp) (T.obj _ _ OK);refine cz (hg H2.objs.size s H fp _ s2 σ' H5 x v _ I5' r5 (step x H5 y5)) (λ_ s3 ⟨σ6,H6,I6,q6⟩=>?_) λ_ _ z=>z;refine cz (ht H2.objs.size s H fp _ s3 σ6 H6 _ I6 q6) (λok s4 ⟨H7,I7,q7⟩=>?_) λ_ _ z=>z;have OO:∀{σ7:St} {H7:Hp} {s7:Sd},Inv (X.comp scope N' H2.objs.size s H fp) (X.pn++Mf++[(s.heap.objs.size,{cls:=.type "list",data:=.seq us.toArray k})]++vB fp s2.heap) σ7 H7 s7->
     tn (i+1) s7.heap/\(∀b∈fp,H7 b=none)/\H7 s.heap.objs.size=none/\s7.heap.get? s.heap.objs.size=some {cls:=.type "list",data:=.seq us.toArray k}:=λ{σ7 H7 s7} K7=>by
    have pd:=K7.pin (s.heap.objs.size,{cls:=.type "list",data:=.seq us.toArray k}) (by simp);refine⟨T.keep _ _ _ OK λb hb o e=>(K7.pin (b,o) (bU _ (bU _ (ql hb e)))).1,λb hb=>?_,pd.2.1,pd.1⟩;obtain⟨o,e,d⟩:=T.obj _ _ OK b hb;exact(K7.pin (b,o) (bU _ (bU _ (ql hb e)))).2.1
   cases ok with
   | false=>rw[bq bN]at q7 ⊢;obtain⟨m',hm,w7⟩:=q7;obtain⟨t7,f7,d7,o7⟩:=OO I7;exact⟨m',hm,i+1,ys,us,k,σ6,H7,I7.lE.lE,t7,f7,d7,o7,rv',hz',w7⟩
   | true=>
    rw[bw rfl]at q7 ⊢;refine cz (he H2.objs.size s H fp _ s4 σ6 H7 _ I7 q7) (λyv s5 ⟨y,H8,I8,r8,m',hm,w8⟩=>?_) λ_ _ z=>⟨_,_,λb hb=>(by
     obtain⟨o,e,_⟩:=T.obj _ _ OK b hb;exact⟨o,bU _ (ql hb e)⟩),z⟩
    obtain⟨t8,f8,d8,o8⟩:=OO I8;have hsz:us.toArray.size<=sizeLine:=by rw[bA,<-rv'.length];exact hz'
    refine append_at (hsz:=hsz) o8 λh' sb od=>?_;refine⟨m',hm,i+1,ys++[y],us++[yv],k+1,σ6,H8,?_,T.keep _ _ _ t8 λb hb o e=>(sb.2 b λq=>dfp (q ▸ hb)).trans e,f8,d8,?_,rv'.append (.cons r8 .nil),?_,w8⟩
    .exact I8.lE.lE.turned (it:=s.heap.objs.size) (t':=s5.toks) (λb o hb e=>(sb.2 b hb).trans e) d8 hDC (.inr (bB _)) cellD (by simpa using pinD)
    .rw[od,List.push_toArray]
    .rw[bz,cF];exact hz
 exact codeAny_compStart_list (loop _ rfl) (T.self _ 0 _ _ _ (T.keep _ _ _ st λb _ o e=>Ot b o e) (loop _ rfl))
def Inv.letGo{C:Addr}{s':Sd}{H':Hp}{σ':St}{h':Heap}(I:Inv X Mf Y H s)(I':Inv X Mf σ' H' s')(hC:s.heap.objs.size<=C)(hn:H' C=none)(hs:Heap.SameBut C s'.heap h'):Inv X Mf σ' H' {s' with heap:=h'}:=
 I'.turned (t':=s'.toks) (it:=C) (λb o hb e=>(hs.2 b hb).trans e) hn (λz=>absurd (bO I.lt hC) (by rw[z];exact cM _)) (.inr (bQ I.sz hC))
  (λx c e z=>by
   obtain⟨v,r⟩:=I.cell x c e;exact absurd (bO r.lt hC) (by rw[z];exact cM _))
  (λp hp z=>absurd (bO (bD (I.pin p hp).1) hC) (by rw[z];exact cM _))
def Fg{wi:TI}(hc:X.calm=true)(S:om X scope ix N')(hi:PI X tg iter wi)(hg:∀C s0 H0 ex,PG (X.comp scope N' C s0 H0 ex) tg g)(ht:∀C s0 H0 ex,PF (X.comp scope N' C s0 H0 ex) ML tt)(he:∀C s0 H0 ex,PE (X.comp scope N' C s0 H0 ex) Nc te) (hs:∀x,foldedSetIterable iter X.env x=pure x:=by intro _;rfl):PE X (.ListComp Nc [⟨tg,iter,ML,0⟩] scope pos) (Du ix wi g tt te):=by
 intro Mf s Y H Q I h;rw[eval_ListComp];refine iG (use:=none) rfl hs (sE (S.cells I.ok)) S.kind S.nam (cz (hi Mf s Y H _ I h) (λxv s₁ h₁=>cz h₁ (λitv s₂ h₂=>?_) λ_ _ e=>e) λ_ _ e=>e);obtain⟨it,fp,tn,J,H2,e,I2,T,Mq,f2,hw⟩:=h₂;subst e;refine vE (RR:=λacc C=>compPost (model X.prog X.w) X.A X.xe none (EP X Mf Y Q) acc C) hc S I2 T Mq f2 hg ht (XP:=λ_ _ _ _ _ _ _ _=>False) he (λ_ _ _ _ _ z=>by obtain⟨_,_,_,z⟩:=z;exact z.elim) hw λD C s' H' m hCs hCn hn I3 q=>?_;exact⟨m,hn,λh' MM=>⟨.ref D,_,I2.letGo I3 hCs hCn MM,rfl,q⟩⟩
def As{wi:TI}{i:Nat}{x:Str}{px NX:Pos}(hN:X.N.Nodup)(hix:X.N[i]?=some x)(hx:EH X.env.scope x)(hc:X.calm=true)(S:om X scope ix N')(hi:PI X tg iter wi)(hg:∀C s0 H0 ex,PG (X.comp scope N' C s0 H0 ex) tg g)(ht:∀C s0 H0 ex,PF (X.comp scope N' C s0 H0 ex) ML tt) (he:∀C s0 H0 ex,PE (X.comp scope N' C s0 H0 ex) Nc te) (NY:swapsWith (.ListComp Nc [⟨tg,iter,ML,0⟩] scope pos) (some (.Name x px)) NX.line X.env=pure true) (hf:De X x:=by first|exact .inl rfl|exact .inr rfl|assumption) (hs:∀x,foldedSetIterable iter X.env x=pure x:=by intro _;rfl):
  PS X (.Assign [.Name x px] (.ListComp Nc [⟨tg,iter,ML,0⟩] scope pos) NX) (Kk (Du ix wi g tt te) (EC i)):=by
 intro Mf s Y H D I h;rw[exec_Assign_Name_used _ _ _ _ NY];refine bh (wpAny_standAt (bh ?_));show wpAny _ X.A (do let _<-comprehension (.ListComp Nc [⟨tg,iter,ML,0⟩] scope pos) scope X.env _ (newList []) false (eval iter X.env) (some (assign (.Name x px) X.env))) _ _ s;refine bh (cz (iG (use:=some (assign (.Name x px) X.env)) (Q:=λ_ s'=>SP X Mf D .next s') rfl hs (sE (S.cells I.ok)) S.kind S.nam
  (cz (hi Mf s Y H _ I h) (λxv s₁ h₁=>cz h₁ (λitv s₂ h₂=>?_) λ_ _ e=>e) λ_ _ e=>e)) (λ_ s' hq=>bj (bj hq)) λ_ _ e=>e)
 obtain⟨it,fp,tn,J,H2,e,I2,T,Mq,f2,hw⟩:=h₂;subst e;refine vE (RR:=λacc C=>compPost (model X.prog X.w) X.A X.xe (some (assign (.Name x px) X.env)) (λ_ s'=>SP X Mf D .next s') acc C) hc S I2 T Mq f2 hg ht (XP:=λ_ _ _ _ _ _ _ _=>False) he (λ_ _ _ _ _ z=>by obtain⟨_,_,_,z⟩:=z;exact z.elim) hw λDa C s' H' m hCs hCn hn I3 q=>?_;show wpAny _ X.A (assign (.Name x px) X.env (.ref Da)) _ _ _;refine jS (wR I3 hN hix hx (v:=.ref Da) rfl (λs4 I4 ⟨a,sb,ha⟩=>?_) hf);have ca:C≠a:=λz=>by
  rcases ha with y|y
  .exact absurd (bO I2.lt hCs) (by rw[z,y];exact cM _)
  .obtain⟨v,r⟩:=I2.cell x a y;exact absurd (bO r.lt hCs) (by rw[z];exact cM _)
 exact⟨m,hn.sameBut sb ca,λh' MM=>⟨_,H',I2.letGo I4 hCs hCn MM,q⟩⟩
end
def uG:typeLookup (.type "list") "__getattr__"=pure none:=by rw[fS,eE];kernel_rfl
def x9:typeLookup (.type "list") "keys"=pure none:=by rw[fS,eE];kernel_rfl
section
variable {prog:Pg}{w:Wo}{A:Ar}{E:QQX}
def C1(a:Addr)(u:Tok)(its:Array Vl)(n:Nat)(sl:Array (Option Vl)):
  Meets (Builtin.«object.__getattribute__» ⟨[.ref a,.str "keys" u],[]⟩) λA R s=>s.heap.get? a=some ⟨.type "list",none,.seq its n,sl⟩/\A.handled=none/\∀h' tk e,Heap.NewAttrErr s.heap h' e (.ref a) "keys"->R (.error (.ref e)) {s with heap:=h',toks:=tk}:=
 Meets.of_wp λprog w A R s hs=>by
  obtain⟨hp,g,d,tk,os⟩:=s;obtain⟨h1,h2,h3⟩:=hs;have hT:(⟨hp,g,d,tk,os⟩:Sd).TypeIs (.ref a) "list":=⟨_,h1,rfl⟩;have f1:=x9;unfold Builtin.«object.__getattribute__»
  repeat (any_goals(first|assumption|wp_step))
  exact wpAny_raiseAttrError h2 h3 (attrMsg_fits (by decide+kernel) (by decide))
def xS{s:Sd}{a:Addr}{its:Array Vl}{n:Nat}{sl:Array (Option Vl)}{Q:Option Vl->Sd->Prop}(ha:s.heap.get? a=some ⟨.type "list",none,.seq its n,sl⟩)(hA:A.handled=none) (h:∀h' tk,(∀b o,s.heap.get? b=some o->h'.get? b=some o)->Q none {s with heap:=h',toks:=tk}):wpAny (model prog w) A (getAttr? (.ref a) "keys") Q E s:=by
 obtain⟨hp,g,d,tk,os⟩:=s;have hT:(⟨hp,g,d,tk,os⟩:Sd).TypeIs (.ref a) "list":=⟨_,ha,rfl⟩;have f1:=sub_AttributeError;have f3:=fV.lookup;have f4:=fV.bind (.ref a);have f5:=uG;unfold getAttr? getAttrBy? getAttrBy
 repeat (any_goals(first|assumption|((with_reducible show wpAny _ _ (call (Value.builtin "list.__getattribute__") _ _) _ _ _);refine kF fV hT F.entry_list_ga (F.args_list_getattribute_2 _ _) (C1 a _ its n sl) ⟨ha,hA,λh' tk' e hx=>?_⟩)|wp_step))
 obtain⟨t',u',he⟩:=hx.there;show wpAny _ _ (getattributeRaised _ _ _ _ _ _ _) _ _ _;unfold getattributeRaised
 repeat (any_goals(first|assumption|wp_step))
 all_goals first|exact h _ _ hx.keeps|skip
end
def uu:entryFor table "dict.update.loop"=some Builtin.«dict.update.loop»:=iH (by kernel_rfl)
def qE:plainId "dict.update.loop"=true:=by decide+kernel
section
variable {prog:Pg}{w:Wo}{A:Ar}{E:QQX}{R:Result→Sd→Prop}{κ:Type}[DecidableEq κ]{knd:PySem.KeyKind prog w κ}
 {I:Addr} {fp wr:QXQ} {G:Array GenState->Array GenState->Prop} {P:Nat->Vl->Prop} {St:Nat->Sd->Prop}
def FT{s:Sd}{t:Addr}{x y:Vl}{Q:T0 Vl->Sd->Prop}(h:s.heap.IsTuple t #[x,y])(q:Q [x,y] s):wpAny (model prog w) A (Builtin.Dict.pairItems (.ref t)) Q E s:=by
 obtain⟨⟨oc,od,oda,Ol⟩,h1,h2,n,h3⟩:=h;simp only at h2 h3;subst h2 h3;have hT:s.TypeIs (.ref t) "tuple":=⟨_,h1,rfl⟩;obtain⟨hp,g,d,tk,os⟩:=s;unfold Builtin.Dict.pairItems
 repeat (any_goals(first|assumption|wp_step))
def Cj{all:T0 (κ×Vl)}(W:WalksS prog w A.in1 I fp wr G all.length P St)(d:Addr)(ON:d∉fp)(kv:Nat->Vl)(tp:Nat->Addr)(hP:∀i v,P i v->v=.ref (tp i))(hw:∀j,j<all.length->tp j∉wr/\tp j≠d) (hk:∀j p,all[j]?=some p->knd.is p.1 (kv j)=true) (hz:all.length<=sizeLine):
  ∀(k i:Nat) (z:Int) (s:Sd),all.length - i=k->i<=all.length->St i s->(∀j p,all[j]?=some p->s.heap.IsTuple (tp j) #[kv j,p.2])->s.heap.DictOf knd d (merged [] (all.take i))->
   (∀s',Moved (d::wr) G s s'->s'.heap.DictOf knd d (merged [] all)->R (.ok (.ret .none)) s')->codeAny (model prog w) A (.builtin "dict.update.loop" ⟨[.ref d,.ref I,.int z 0,.none],[]⟩) R s:=by
 have hdw:d∉wr:=λh=>ON (W.sub _ h);have Ny:∀b∈wr,b∈d::wr:=λb hb=>bK _ hb;intro k;induction k with
 | zero=>
  intro i z s hk0 hi MT hT hD hR;have hin:i=all.length:=by lia
  subst hin;refine cN uu ?_;rw[cK qE _];show wpAny _ A.in1 (pyNext (.ref I)>>=_) _ _ s;refine bh (W.done s _ _ MT λs' hm=>?_);show wpAny _ A.in1 (Builtin.Dict.addKeywords d []>>=_) _ _ s';refine bh (bj (bj (hR s' (hm.mono Ny) ?_)));rw[dq]at hD;obtain⟨o,es,ep,ho,Mn⟩:=hD;exact⟨o,es,ep,hm.heap d _ hdw ho,Mn⟩
 | succ k ih=>
  intro i z s hk0 hi MT hT hD hR;have Mr:i<all.length:=by lia
  have MU:all[i]?=some all[i]:=bF Mr;refine cN uu ?_;rw[cK qE _];show wpAny _ A.in1 (pyNext (.ref I)>>=_) _ _ s;refine bh (W.item i s _ _ Mr MT λv s' hPv NZ hm=>?_);obtain rfl:=hP i v hPv;have hT':∀j p,all[j]?=some p->s'.heap.IsTuple (tp j) #[kv j,p.2]:=λj p e=>by obtain⟨o,h1,h2⟩:=hT j p e;exact⟨o,hm.heap _ _ (hw j (bL.mp e).1).1 h1,h2⟩
  have hD':s'.heap.DictOf knd d (merged [] (all.take i)):=by obtain⟨o,es,ep,ho,Mn⟩:=hD;exact⟨o,es,ep,hm.heap d _ hdw ho,Mn⟩
  show wpAny _ A.in1 (holding [Value.ref (tp i)] _>>=_) _ _ s';refine bh (cB (bh (wpAny_tryCatch (FT (hT' i _ MU) ?_))));show wpAny _ A.in1 (holding [kv i,all[i].2] (dictSet d (kv i) all[i].2)) _ _ s';refine cB ?_;unfold dictSet;refine cB (bh (knd.pyHash (hk i _ MU) ?_));have hl:(merged [] (all.take i)).length<=sizeLine:=by have:=merged_length_le [] (all.take i);rw[cV]at this;simp only[bZ]at this;lia
  refine wpAny_dictSetHashed_pairs (hsz:=hl) (hk i _ MU) hD' λh' dd hs=>?_;rw[<-merged_take_succ [] all i _ MU]at dd;refine bj ⟨dX qE _,ih (i+1) _ _ (by lia) Mr (W.frame _ s' _ _ NZ (dQ _) λb hb o e=>?_) (λj p e=>?_) dd λOj N0 hD''=>?_⟩
  .rw[hs.2 b (λz:b=d=>ON (z ▸ hb))];exact e
  .obtain⟨o,h1,h2⟩:=hT' j p e;refine⟨o,?_,h2⟩;show h'.get? (tp j)=some o;rw[hs.2 _ (hw j (bL.mp e).1).2];exact h1
  .refine hR Oj (kb W.gtrans ((hm.mono Ny).then_heap (dQ _) λb o hb e=>?_) N0) hD'';rw[hs.2 b (λz:b=d=>hb (by rw[z];exact bG))];exact e
end
section
variable {prog:Pg}{w:Wo}{A:Ar}{E:QQX}{κ:Type}[DecidableEq κ]{knd:PySem.KeyKind prog w κ}{s:Sd}
def uI{l:Addr}{its:Array Vl}{n:Nat}{sl:Array (Option Vl)}{all:T0 (κ×Vl)}{Q:QQX}(kv:Nat->Vl)(tp:Nat->Addr)(hh:A.handled=none)(hl:s.heap.get? l=some ⟨.type "list",none,.seq its n,sl⟩) (hits:∀(j:Nat) (v:Vl),its[j]?=some v->v=.ref (tp j)) (Mm:its.size=all.length) (hT:∀j p,all[j]?=some p->s.heap.IsTuple (tp j) #[kv j,p.2]) (hk:∀j p,all[j]?=some p->knd.is p.1 (kv j)=true) (hz:all.length<=sizeLine) (h:∀h' tk,h'.DictOf knd s.heap.objs.size (merged [] all)->(∀b o,s.heap.get? b=some o->h'.get? b=some o)->Q (.ref s.heap.objs.size) {s with heap:=h',toks:=tk}):
  wpAny (model prog w) A (call (.type "dict") [.ref l]) Q E s:=by
 refine callType_codes (Q₁:=λobj s₁=>obj=Value.ref s.heap.objs.size/\s₁={s with heap:=s.heap.push {cls:=.type "dict",data:=.dict #[]}}) PySem.F.kt_called_dict (PySem.F.kt_typeCall_dict_1 _) F.entry_dict_init (kt_code_dict_new _ ⟨rfl,rfl⟩) ?_
 rintro obj s₁ ⟨rfl,rfl⟩
 have OY:(s.heap.push {cls:=.type "dict",data:=.dict #[]}).DictOf knd s.heap.objs.size []:=Heap.DictOf.new s.heap;have hl':(s.heap.push {cls:=.type "dict",data:=.dict #[]}).get? l=some ⟨.type "list",none,.seq its n,sl⟩:=bp _ hl;have hTl:Shared.TypeIs {s with heap:=s.heap.push {cls:=.type "dict",data:=.dict #[]}} (.ref l) "list":=⟨_,hl',rfl⟩;have lsz:l<s.heap.objs.size:=bD hl;refine⟨OY.typeIs,F.args_dict_init_2 _ _,?_⟩;unfold Builtin.«dict.__init__»;refine bh ?_;unfold Builtin.Dict.selfAndRest;refine bh (wpAny_notOrdered_dict OY.typeIs ?_);show wpAny _ _ (pure (s.heap.objs.size,[Value.ref l])) _ _ _;refine bj ?_;show wpAny _ _ (Builtin.Dict.updateFrom "dict.__init__" s.heap.objs.size (.ref l) [] .none) _ _ _;unfold Builtin.Dict.updateFrom;refine bh (fA hTl ?_);rw[bw (by decide)];refine bh (xS hl' (by simpa using hh) λh' tk keep=>?_);have Om:h'.IsList l its:=⟨_,keep _ _ hl',rfl,n,rfl⟩;show wpAny _ _ (rule _>>=_) _ _ _;refine bh (dI (bh (fu Om ?_)));have nd:h'.objs.size>s.heap.objs.size:=by have z:h'.get? s.heap.objs.size=some _:=keep _ _ (bE _ rfl);exact bD z
 have hDn:h'.DictOf knd s.heap.objs.size []:=by obtain⟨o,es,ep,ho,Mn⟩:=OY;exact⟨o,es,ep,keep _ _ ho,Mn⟩
 have hTs:∀j p,all[j]?=some p->h'.IsTuple (tp j) #[kv j,p.2]:=λj p e=>by obtain⟨o,h1,h2⟩:=hT j p e;exact⟨o,keep _ _ (bp _ h1),h2⟩
 have N6:l≠h'.objs.size:=bH (iF lsz nd);have W:=(jn (prog:=prog) (w:=w) (A:=A.in1.in1) (by simpa using hh) h'.objs.size l N6 its).toS;rw[Mm]at W;refine bj ⟨dX qE _,Cj (A:=A.in1) W s.heap.objs.size ?_ kv tp (λi v e=>hits i v e) (λj hj=>?_) hk hz all.length 0 0 _ (by lia) (cu _) ⟨⟨_,bE _ rfl,rfl,rfl⟩,Om.push _⟩ (λj p e=>(hTs j p e).push _) ?_ λs' hm hD=>?_⟩
 .simp only[br,bC,bX,cA];exact⟨bH nd,cU lsz⟩
 .have MN:all[j]?=some all[j]:=bF hj;obtain⟨o,h1,_⟩:=hT j _ MN;have tsz:=bD h1;simp only[br,bC,bX];exact⟨bH (iF tsz nd),bH tsz⟩
 .obtain⟨o,es,ep,ho,Mn⟩:=hDn;exact⟨o,es,ep,bp _ ho,Mn⟩
 .obtain⟨h2,g2,d2,t2,o2⟩:=s';have eg:g2=s.gens:=hm.gens;have ed:d2=s.drawn:=hm.drawn;have eo:o2=s.os:=hm.os;subst eg ed eo;refine⟨rfl,h h2 t2 hD λb o e=>?_⟩;have hb:=bD e;refine hm.heap b o ?_ (bp _ (keep _ _ (bp _ e)));simp only[br,bC,bX,cA];exact⟨bH hb,bH (iF hb nd)⟩
end
noncomputable def nE{κ:Type}[DecidableEq κ](l:List κ):List κ:=l.foldl (λacc k=>if k∈acc then acc else acc++[k]) []
def qh{κ:Type}[DecidableEq κ](l:List κ)(k:κ):nE (l++[k])=if k∈nE l then nE l else nE l++[k]:=by unfold nE;rw[List.foldl_append];rfl
def uW{κ:Type}[DecidableEq κ]:∀l:List κ,(nE l).length<=l.length:=by
 have go:∀(l acc:List κ),(l.foldl (λacc k=>if k∈acc then acc else acc++[k]) acc).length<=acc.length+l.length:=by
  intro l;induction l with
  | nil=>intro acc;simp
  | cons k r ih=>
   intro acc;rw[dF];refine bQ (ih _) ?_;split
   .simp only[bT];lia
   .simp only[bT,bz,bZ];lia
 intro l;have:=go l []
 simpa [nE]using this
def EF{κ:Type}[DecidableEq κ](x:κ):∀l:List κ,x∈nE l↔x∈l:=by
 have go:∀(l acc:List κ),x∈l.foldl (λacc k=>if k∈acc then acc else acc++[k]) acc↔x∈acc\/x∈l:=by
  intro l;induction l with
  | nil=>intro acc;simp
  | cons k r ih=>
   intro acc;rw[dF,ih];by_cases h:k∈acc
   .rw[bw h,br];constructor
    .rintro (z|z)
     .exact .inl z
     .exact .inr (.inr z)
    .rintro (z|z|z)
     .exact .inl z
     .subst z;exact .inl h
     .exact .inr z
   .rw[bq h,bS,bP,br,or_assoc]
 intro l;have:=go l []
 simpa [nE]using this
def Ag{κ:Type}[DecidableEq κ]:∀l:List κ,l.Nodup->nE l=l:=by
 have go:∀(l acc:List κ),(acc++l).Nodup->l.foldl (λacc k=>if k∈acc then acc else acc++[k]) acc=acc++l:=by
  intro l;induction l with
  | nil=>intro acc _;simp
  | cons k r ih=>
   intro acc h;have hk:k∉acc:=λz=>by rw[cC]at h;exact h.2.2 k z k bG rfl
   rw[dF,bq hk,ih]
   .rw[cc];rfl
   .rw[cc];exact h
 intro l h;have:=go l [] (by simpa using h)
 simpa [nE]using this
section
variable {prog:Pg}{w:Wo}{A:Ar}{E:QQX}{R:Result→Sd→Prop}{κ:Type}[DecidableEq κ][BEq κ][LawfulBEq κ]{knd:PySem.KeyKind prog w κ}
 {I:Addr} {fp wr:QXQ} {G:Array GenState->Array GenState->Prop} {P:Nat->Vl->Prop} {St:Nat->Sd->Prop}
def zi{all:List κ}(W:WalksS prog w A.in1 I fp wr G all.length P St)(S:Addr)(hSf:S∉fp)(OZ:∀i v k,P i v->all[i]?=some k->knd.is k v=true/\v.scannable=true)(hb:all.length+1<scanBound):
  ∀(n i:Nat) (s:Sd),all.length - i=n->i<=all.length->St i s->s.heap.SetOf knd S (λx=>decide (x∈nE (all.take i))) (nE (all.take i)).length->
   (∀s',Moved (S::wr) G s s'->s'.heap.SetOf knd S (λx=>decide (x∈nE all)) (nE all).length->R (.ok (.ret .none)) s')->codeAny (model prog w) A (.builtin "set.update.loop" ⟨[.ref S,.ref I],[]⟩) R s:=by
 have hSw:S∉wr:=λh=>hSf (W.sub _ h);have up:∀b∈wr,b∈S::wr:=λb hb=>bK _ hb;have kept:∀{s s':Sd} {T:κ->Bool} {m:Nat},Moved wr G s s'->s.heap.SetOf knd S T m->s'.heap.SetOf knd S T m:=λhm ⟨o,es,ep,t,ho,Mn⟩=>⟨o,es,ep,t,hm.heap S _ hSw ho,Mn⟩;intro n;induction n with
 | zero=>
  intro i s h0 hi MT hS hR;obtain rfl:i=all.length:=by lia
  refine cN dt ?_;rw[cK cD _];rw[dq]at hS;exact bh (W.done s _ _ MT λs' hm=>bj (hR s' (hm.mono up) (kept hm hS)))
 | succ n ih=>
  intro i s h0 hi MT hS hR;have Mr:i<all.length:=by lia
  have MU:all[i]?=some all[i]:=bF Mr;refine cN dt ?_;rw[cK cD _];refine bh (W.item i s _ _ Mr MT λv s' hP NZ hm=>?_);obtain⟨k1,k2⟩:=OZ i v _ hP MU;have Nh:=kept hm hS;show wpAny _ A.in1 (holding [v] (setAdd S v)>>=_) _ _ s';refine bh (cB ?_);unfold setAdd;refine cB (bh (knd.pyHash k1 ?_));have O0:(nE (all.take i)).length+1<scanBound:=by have h1:=uW (all.take i);rw[cV]at h1;lia
  refine wpAny_setAddHashed_of (knd:=knd) (s:={s' with toks:=s'.toks+1}) k1 k2 Nh O0 λh' O1 O2=>?_;have et:all.take (i+1)=all.take i++[all[i]]:=by rw[eJ,MU];rfl
  have hSi:h'.SetOf knd S (λx=>decide (x∈nE (all.take (i+1)))) (nE (all.take (i+1))).length:=by
   refine fW O2 (λx=>?_) ?_
   .rw[et];by_cases Mh:all[i]∈nE (all.take i)
    .rw[qh,bw Mh];by_cases hx:x=all[i]
     .subst hx;simp[Mh]
     .simp[hx]
    .rw[qh,bq Mh];by_cases hx:x=all[i]
     .subst hx;simp
     .simp[hx]
   .rw[et,qh];by_cases Mh:all[i]∈nE (all.take i)
    .rw[bw Mh];simp[Mh]
    .rw[bq Mh];simp[Mh]
  refine bj ⟨dX cD _,ih (i+1) _ (by lia) Mr (W.frame _ s' _ _ NZ (dQ _) λb hb o e=>?_) hSi λOj N0 O4=>?_⟩
  .rw[O1.2 b (λz:b=S=>hSf (z ▸ hb))];exact e
  .refine hR Oj (kb W.gtrans ((hm.mono up).then_heap (dQ _) λb o hb e=>?_) N0) O4;rw[O1.2 b (λz:b=S=>hb (by rw[z];exact bG))];exact e
end
def tL:isSubtype (.type "list") (.type "set")=pure false:=by rw[eQ];kernel_rfl
def rm:isSubtype (.type "list") (.type "frozenset")=pure false:=by rw[eQ];kernel_rfl
section
variable {prog:Pg}{w:Wo}{A:Ar}{E:QQX}{κ:Type}[DecidableEq κ][BEq κ][LawfulBEq κ]{knd:PySem.KeyKind prog w κ}{s:Sd}
set_option maxHeartbeats 4000000 in
def wt{l:Addr}{Mg:Array Vl}{all:List κ}{Q:QQX}(hh:A.handled=none)(hl:s.heap.IsList l Mg)(hn:Mg.size=all.length)(hi:∀(i:Nat) (v:Vl) (k:κ),Mg[i]?=some v->all[i]?=some k->knd.is k v=true/\v.scannable=true)(hb:all.length+1<scanBound) (h:∀(h':Heap) (tk:Nat),h'.SetOf knd s.heap.objs.size (λx=>decide (x∈nE all)) (nE all).length->(∀b o,s.heap.get? b=some o->h'.get? b=some o)->Q (.ref s.heap.objs.size) {s with heap:=h',toks:=tk}):
  wpAny (model prog w) A (call (.type "set") [.ref l]) Q E s:=by
 obtain⟨c,tl,hmro⟩:=b9.mro;have OP:=b9.made;have Ny:=b9.sub;refine gK (gN ?_);show wpAny _ _ (callAny (.type "set") _) _ _ _;refine bj ⟨hU _ (by decide+kernel),cN io ?_⟩;rw[hV (gF "set" [.ref l] []) rfl];have h1:=b9.notType;have h2:=b9.canCreate;have hct:=iI (.ref l)
 repeat (any_goals(first|assumption|wp_step))
 have fresh:∀led:Bool,(s.heap.push {cls:=.type "set",dict:=none,data:=.set #[] 0 (.fresh 0 0 led)}).get? s.heap.objs.size=some {cls:=.type "set",dict:=none,data:=.set #[] 0 (.fresh 0 0 led)}:=λled=>bE _ rfl;refine dR (code_set_new_1 (.ref l) (E:=E) (Q₁:=λobj s₁=>∃led:Bool,obj=Value.ref s.heap.objs.size/\s₁={s with heap:=s.heap.push {cls:=.type "set",dict:=none,data:=.set #[] 0 (.fresh 0 0 led)}}) λled=>⟨led,rfl,rfl⟩) λr s₁ hr=>?_;cases r with
 | error e=>exact hr
 | ok fl=>
  cases fl with
  | ret obj=>
   obtain⟨led,rfl,rfl⟩:=hr;have hS:=fresh led;have hT:Shared.TypeIs {s with heap:=s.heap.push {cls:=.type "set",dict:=none,data:=.set #[] 0 (.fresh 0 0 led)}} (.ref s.heap.objs.size) "set":=⟨_,hS,rfl⟩;have hli:=b9.init.lookup;have hbi:=b9.init.bind (.ref s.heap.objs.size)
   repeat (any_goals(first|assumption|wp_step))
   refine dR (fH (R:=wants (λr s₂=>r=.none/\∃h' tk,s₂={s with heap:=h',toks:=tk}/\h'.SetOf knd s.heap.objs.size (λx=>decide (x∈nE all)) (nE all).length/\(∀b o,s.heap.get? b=some o->h'.get? b=some o)) E) b9.init.plain iJ (iK hT ?_)) λr₂ s₂ N7=>?_
   .obtain⟨ol,Ou,Ov,nl,Ow⟩:=hl;obtain⟨ocls,NG,OQ,Nd⟩:=ol;simp only at Ov Ow;subst Ov;subst Ow;have Nm:(s.heap.push {cls:=.type "set",dict:=none,data:=.set #[] 0 (.fresh 0 0 led)}).get? l=some {cls:=.type "list",dict:=NG,data:=.seq Mg nl,slots:=Nd}:=bp _ Ou;have hsls:=tL;have hslf:=rm;have OR:(Value.type "list"==Value.type "dict")=false:=by decide
    have Of:(s.heap.push {cls:=.type "set",dict:=none,data:=.set #[] 0 (.fresh 0 0 led)}).IsList l Mg:=⟨_,Nm,rfl,nl,rfl⟩;unfold Builtin.«set.__init__» noKeywords Builtin.Frozenset.updateFrom;generalize hPI:pyIter=PI
    wp_walk
    subst hPI;refine fu Of ?_;refine bh (gZ ?_);have lS:l<s.heap.objs.size:=bD Ou;have hh3:A.in1.in1.in1.handled=none:=by simp[hh]
    have lI:l≠(s.heap.push {cls:=.type "set",dict:=none,data:=.set #[] 0 (.fresh 0 0 led)}).objs.size:=by rw[b8];exact bH (cZ lS)
    have W:=(jn (prog:=prog) (w:=w) hh3 _ l lI Mg).toS;rw[hn]at W;refine zi W s.heap.objs.size ?hf (λi v k e1 e2=>hi i v k e1 e2) hb all.length 0 _ (by lia) (cu _) ⟨⟨_,bE _ rfl,rfl,rfl⟩,(Of.push _)⟩ ?h0 ?hR;case hf=>rw[b8];simp only[br,bC,bX,cA];exact⟨bH (d9 _),cU lS⟩
    case h0=>exact fW ((hW (knd:=knd) led).setOf (bp _ hS) (by unfold scanBound;lia)) (λ_=>rfl) rfl
    case hR=>intro s' hm Nh;obtain⟨h',g',d',tk',OT⟩:=s';have eg:g'=s.gens:=hm.gens;have ed:d'=s.drawn:=hm.drawn;have eo:OT=s.os:=hm.os;subst eg;subst ed;subst eo;refine bj ?_;show wpAny _ _ (ret Value.none) _ _ _;refine bj ⟨rfl,h',tk',rfl,Nh,λb o e=>?_⟩;have hb:=bD e;refine hm.heap b o ?_ (bp _ (bp _ e));rw[b8];simp only[br,bC,bX,cA];exact⟨bH hb,bH (cZ hb)⟩
   .cases r₂ with
    | error e=>exact N7
    | ok fl₂=>
     cases fl₂ with
     | ret r=>
      obtain⟨rfl,h',tk,rfl,Nh,OX⟩:=N7
      repeat (any_goals(first|assumption|wp_step))
      exact h _ _ Nh OX
     | _=>exact N7.elim
  | _=>exact hr.elim
end
def sF:isSubtype (.type "tuple") (.type "set")=pure false:=by rw[eQ];kernel_rfl
def qS:isSubtype (.type "tuple") (.type "frozenset")=pure false:=by rw[eQ];kernel_rfl
section
variable {prog:Pg}{w:Wo}{A:Ar}{E:QQX}{κ:Type}[DecidableEq κ][BEq κ][LawfulBEq κ]{knd:PySem.KeyKind prog w κ}{s:Sd}
set_option maxHeartbeats 4000000 in
def vX{l:Addr}{Mg:Array Vl}{all:List κ}{Q:QQX}(hh:A.handled=none)(hl:s.heap.IsTuple l Mg)(hn:Mg.size=all.length)(hi:∀(i:Nat) (v:Vl) (k:κ),Mg[i]?=some v->all[i]?=some k->knd.is k v=true/\v.scannable=true)(hb:all.length+1<scanBound) (h:∀(h':Heap) (tk:Nat),h'.SetOf knd s.heap.objs.size (λx=>decide (x∈nE all)) (nE all).length->(∀b o,s.heap.get? b=some o->h'.get? b=some o)->Q (.ref s.heap.objs.size) {s with heap:=h',toks:=tk}):
  wpAny (model prog w) A (call (.type "set") [.ref l]) Q E s:=by
 obtain⟨c,tl,hmro⟩:=b9.mro;have OP:=b9.made;have Ny:=b9.sub;refine gK (gN ?_);show wpAny _ _ (callAny (.type "set") _) _ _ _;refine bj ⟨hU _ (by decide+kernel),cN io ?_⟩;rw[hV (gF "set" [.ref l] []) rfl];have h1:=b9.notType;have h2:=b9.canCreate;have hct:=iI (.ref l)
 repeat (any_goals(first|assumption|wp_step))
 have fresh:∀led:Bool,(s.heap.push {cls:=.type "set",dict:=none,data:=.set #[] 0 (.fresh 0 0 led)}).get? s.heap.objs.size=some {cls:=.type "set",dict:=none,data:=.set #[] 0 (.fresh 0 0 led)}:=λled=>bE _ rfl;refine dR (code_set_new_1 (.ref l) (E:=E) (Q₁:=λobj s₁=>∃led:Bool,obj=Value.ref s.heap.objs.size/\s₁={s with heap:=s.heap.push {cls:=.type "set",dict:=none,data:=.set #[] 0 (.fresh 0 0 led)}}) λled=>⟨led,rfl,rfl⟩) λr s₁ hr=>?_;cases r with
 | error e=>exact hr
 | ok fl=>
  cases fl with
  | ret obj=>
   obtain⟨led,rfl,rfl⟩:=hr;have hS:=fresh led;have hT:Shared.TypeIs {s with heap:=s.heap.push {cls:=.type "set",dict:=none,data:=.set #[] 0 (.fresh 0 0 led)}} (.ref s.heap.objs.size) "set":=⟨_,hS,rfl⟩;have hli:=b9.init.lookup;have hbi:=b9.init.bind (.ref s.heap.objs.size)
   repeat (any_goals(first|assumption|wp_step))
   refine dR (fH (R:=wants (λr s₂=>r=.none/\∃h' tk,s₂={s with heap:=h',toks:=tk}/\h'.SetOf knd s.heap.objs.size (λx=>decide (x∈nE all)) (nE all).length/\(∀b o,s.heap.get? b=some o->h'.get? b=some o)) E) b9.init.plain iJ (iK hT ?_)) λr₂ s₂ N7=>?_
   .obtain⟨ol,Ou,Ov,nl,Ow⟩:=hl;obtain⟨ocls,NG,OQ,Nd⟩:=ol;simp only at Ov Ow;subst Ov;subst Ow;have Nm:(s.heap.push {cls:=.type "set",dict:=none,data:=.set #[] 0 (.fresh 0 0 led)}).get? l=some {cls:=.type "tuple",dict:=NG,data:=.seq Mg nl,slots:=Nd}:=bp _ Ou;have hsls:=sF;have hslf:=qS;have OR:(Value.type "tuple"==Value.type "dict")=false:=by decide
    have Of:(s.heap.push {cls:=.type "set",dict:=none,data:=.set #[] 0 (.fresh 0 0 led)}).IsTuple l Mg:=⟨_,Nm,rfl,nl,rfl⟩;unfold Builtin.«set.__init__» noKeywords Builtin.Frozenset.updateFrom;generalize hPI:pyIter=PI
    wp_walk
    subst hPI;refine fj Of ?_;refine bh (gZ ?_);have lS:l<s.heap.objs.size:=bD Ou;have hh3:A.in1.in1.in1.handled=none:=by simp[hh]
    have lI:l≠(s.heap.push {cls:=.type "set",dict:=none,data:=.set #[] 0 (.fresh 0 0 led)}).objs.size:=by rw[b8];exact bH (cZ lS)
    have W:=(lc (prog:=prog) (w:=w) hh3 _ l lI Mg).toS;rw[hn]at W;refine zi W s.heap.objs.size ?hf (λi v k e1 e2=>hi i v k e1 e2) hb all.length 0 _ (by lia) (cu _) ⟨⟨_,bE _ rfl,rfl,rfl⟩,(Of.push _)⟩ ?h0 ?hR;case hf=>rw[b8];simp only[br,bC,bX,cA];exact⟨bH (d9 _),cU lS⟩
    case h0=>exact fW ((hW (knd:=knd) led).setOf (bp _ hS) (by unfold scanBound;lia)) (λ_=>rfl) rfl
    case hR=>intro s' hm Nh;obtain⟨h',g',d',tk',OT⟩:=s';have eg:g'=s.gens:=hm.gens;have ed:d'=s.drawn:=hm.drawn;have eo:OT=s.os:=hm.os;subst eg;subst ed;subst eo;refine bj ?_;show wpAny _ _ (ret Value.none) _ _ _;refine bj ⟨rfl,h',tk',rfl,Nh,λb o e=>?_⟩;have hb:=bD e;refine hm.heap b o ?_ (bp _ (bp _ e));rw[b8];simp only[br,bC,bX,cA];exact⟨bH hb,bH (cZ hb)⟩
   .cases r₂ with
    | error e=>exact N7
    | ok fl₂=>
     cases fl₂ with
     | ret r=>
      obtain⟨rfl,h',tk,rfl,Nh,OX⟩:=N7
      repeat (any_goals(first|assumption|wp_step))
      exact h _ _ Nh OX
     | _=>exact N7.elim
  | _=>exact hr.elim
end
end L2
namespace HT
open PySem PyProof.Rows
variable {prog:Pg}{w:Wo}{A:Ar}{E:QQX}{s:Sd}
def tV{t sl:Addr}{Mg:Array Vl}{vl vu:Vl}{lo hi:Option Int}{Q:QQX}(ht:IsTup s.heap t Mg)(hs:s.heap.IsSliceOf sl vl vu .none)(pl:IsPart vl lo)(pu:IsPart vu hi) (hw:oV Mg.size 0 lo=0/\oV Mg.size Mg.size hi=Mg.size) (h:Q (.ref t) s):wpAny (model prog w) A (getItem (.ref t) (.ref sl)) Q E s:=by
 obtain⟨os,OU,hcs,Nw⟩:=id hs;have hTs:s.TypeIs (.ref sl) "slice":=⟨os,OU,hcs⟩;unfold getItem
 try with_reducible refine cB ?_
 first|refine bh (bj ?_)|skip
 refine bh (im ht.typeIs (by decide) ?_);refine bh (cG (name:=Str.ofString "__getitem__") ht.typeIs cT (cy cT ht.typeIs jz ?_ (jL _ _)));show wpAny _ _ (Builtin.Tuple.tupleItemsOf (.ref t)>>=_) _ _ s;refine bh (tupleItemsOf_ ht ?_);refine bh (fA hTs ?_);rw[bw (by decide)];refine bh (qV hs pl pu ?_);have yes:(((oV Mg.size 0 lo:Nat):Int)==0&&(1:Int)==1&&(oV Mg.size Mg.size hi - oV Mg.size 0 lo)==Mg.size)=true:=by rw[hw.1,hw.2];simp
 show wpAny _ _ (if (((oV Mg.size 0 lo:Nat):Int)==0&&(1:Int)==1&&(oV Mg.size Mg.size hi - oV Mg.size 0 lo)==Mg.size)=true then _ else _) _ _ s;rw[bw yes];have hT:=ht.typeIs;obtain⟨hp,g,d,tk,o⟩:=s
 repeat (any_goals(first|assumption|wp_step))
 exact⟨_,rfl,bj h⟩
end HT
namespace L2
variable {X:Cx}{p p2 pos MO:Pos}{e:Expr}{te:TE}
section
def K5(K:m9):V->Option Int->Option Int->Hp->VK->Prop:=λx lo hi H Q=>∃a xs,x=.ref a/\p9 K H a xs/\(HT.oV xs.length 0 lo=0/\HT.oV xs.length xs.length hi=xs.length)/\Q (.ref a) H
def IE:Jj X (K5 X.K):=by
 intro Mf s Y H x v vl vu lo hi sl Q I rx hs pl pu h;obtain⟨a,xs,rfl,hx,hw,q⟩:=h;cases rx;obtain⟨its,r,ht,hz⟩:=I.tuple hx;have Mm:its.toArray.size=xs.length:=by rw[bA];exact r.length.symm
 exact⟨"tuple",_,cT.lookup,ht.typeIs,HT.tV ht hs pl pu (by rw[Mm];exact hw) ⟨.ref a,H,I,rfl,q⟩⟩
local instance (priority:=5000) keyBEq:BEq nZ:=instBEqOfDecidableEq
local instance (priority:=5000) keyLaw:LawfulBEq nZ:=inferInstanceAs (LawfulBEq (Sum Int Str))
def GF(K:m9)(te:TE):TE:=λY H Q=>te Y H λx H1=>∃a,∃ss:QQQ,x=.ref a/\(rA K H1 a (ss.map V.str)\/p9 K H1 a (ss.map V.str))/\ss.length+1<scanBound/\Q (.int (nE ss).length) H1
def zv{P:Pg}{w:Wo}{ss:QQQ}{us:T0 Vl}(r:nv (ss.map V.str) us):us.length=ss.length/\∀(i:Nat) (v:Vl) (k:nZ),us[i]?=some v->(ss.map λx=>(Sum.inr x:nZ))[i]?=some k->(nU P w).is k v=true/\v.scannable=true:=by
 refine⟨by rw[<-r.length,bi],λi v k e1 e2=>?_⟩;rw[bM]at e2;cases q:ss[i]? with
 | none=>rw[q]at e2;cases e2
 | some x=>rw[q]at e2;cases e2;obtain⟨u,e3,t,rfl⟩:=r.get (i:=i) (x:=V.str x) (by rw[bM,q];rfl);rw[e3]at e1;cases e1;exact⟨ux P w x t,rfl⟩
def Ey{ss:QQQ}:(nE (ss.map λx=>(Sum.inr x:nZ))).length=(nE ss).length:=by
 have go:∀(l acc:QQQ),(l.map λx=>(Sum.inr x:nZ)).foldl (λacc k=>if k∈acc then acc else acc++[k]) (acc.map Sum.inr)=(l.foldl (λacc k=>if k∈acc then acc else acc++[k]) acc).map Sum.inr:=by
  intro l;induction l with
  | nil=>intro acc;rfl
  | cons k r ih=>
   intro acc;rw[b6,dF,dF];have hm:(Sum.inr k:nZ)∈acc.map Sum.inr↔k∈acc:=by
    rw[bI];constructor
    .rintro ⟨y,h1,h2⟩;cases h2;exact h1
    .exact λh=>⟨k,h,rfl⟩
   by_cases h:k∈acc
   .rw[bw h,bw (hm.mpr h)];exact ih acc
   .rw[bq h,bq λz=>h (hm.mp z)];have:=ih (acc++[k]);rw[b5]at this;exact this
 have:=go ss [];unfold nE;rw[gL]at this;rw[this,bi]
def Ce(hc:X.calm=true)(he:PE X e te)(O5:Gl X "len")(Mh:X.mg "len"=none)(NN:Gl X "set")(Mz:X.mg "set"=none)(b1:bootBuiltins "len"=some (.builtin "len"))(b2:bootBuiltins "set"=some (.type "set")) (hs:starEach [e] X.env=[(false,eval e X.env)]:=by rfl):PE X (.Call (.Name "len" p) [.Call (.Name "set" p2) [e] [] MO] [] pos) (GF X.K te):=by
 intro Mf s Y H Q I h;refine dn (qo I O5 Mh b1 ?_);refine fi ?_ rfl rfl;show wpAny _ _ (spliced ((false,eval (.Call (.Name "set" p2) [e] [] MO) X.env)::backTo pos (starEach [] X.env))) _ _ s;refine fh ?_;refine dn (qo I NN Mz b2 ?_);refine cQ ?_ hs rfl;rw[hs];show wpAny _ _ (spliced ((false,eval e X.env)::backTo MO (starEach [] X.env))) _ _ s;refine fh (pB (he Mf s Y H _ I h) λu s1 ⟨x,H1,I1,r1,a,ss,ex,hq,hb,q⟩=>ft ?_);subst ex;obtain rfl:u=Value.ref a:=r1;have Nr:(ss.map λx=>(Sum.inr x:nZ)).length+1<scanBound:=by rw[bi];exact hb
 have fin:∀(h':Heap) (tk:Nat),h'.SetOf (nU X.prog X.w) s1.heap.objs.size (λx=>decide (x∈nE (ss.map λx=>(Sum.inr x:nZ)))) (nE (ss.map λx=>(Sum.inr x:nZ))).length->(∀b o,s1.heap.get? b=some o->h'.get? b=some o)->
   wpAny (model X.prog X.w) X.A (spliced (backTo pos (starEach [] X.env))) (λvs s₁=>wpAny (model X.prog X.w) X.A (call (.builtin "len") (.ref s1.heap.objs.size::vs)) (EP X Mf Y Q) X.xe s₁) X.xe {s1 with heap:=h',toks:=tk}:=λh' tk hS keep=>by
  refine ft ?_;obtain⟨o,es,ep,t,ho,hex,hd,_,_,hz,hf,hn⟩:=hS;have Mr:(es.size:Int)<2 ^ 63:=by have:scanBound=4096:=rfl;lia
  refine call_len_set ho hex hd hf Mr ?_;refine⟨.int es.size,H1,I1.kept keep,⟨_,rfl⟩,?_⟩;rw[hn,Ey];exact q
 rcases hq with hq|hq
 .obtain⟨its,r,pl,hz⟩:=I1.list hq;obtain⟨k1,k2⟩:=zv (P:=X.prog) (w:=X.w) r;exact L2.wt (knd:=nU X.prog X.w) (all:=ss.map λx=>(Sum.inr x:nZ)) (I1.ok.hd hc) pl.isList (by rw[bA,k1,bi]) (λi v k e1 e2=>k2 i v k (by simpa using e1) e2) Nr fin
 .obtain⟨its,r,pl,hz⟩:=I1.tuple hq;obtain⟨k1,k2⟩:=zv (P:=X.prog) (w:=X.w) r;exact L2.vX (knd:=nU X.prog X.w) (all:=ss.map λx=>(Sum.inr x:nZ)) (I1.ok.hd hc) pl (by rw[bA,k1,bi]) (λi v k e1 e2=>k2 i v k (by simpa using e1) e2) Nr fin
end
variable {Mf:T0 (Addr × Obj)}{Y:St}{H:Hp}{s:Sd}
theorem xi(I:Inv X Mf Y H s):∀(ts:QXQ) (kvs:T0 (nZ×V)),ts.length=kvs.length->(∀(j:Nat) (t:Addr) (p:nZ×V),ts[j]?=some t->kvs[j]?=some p->p9 X.K H t [kV p.1,p.2])->
  ∃(us:T0 Vl) (all:T0 (nZ×Vl)),us.length=kvs.length/\KV kvs all/\∀(j:Nat) (t:Addr) (p:nZ×Vl),ts[j]?=some t->all[j]?=some p->∃u,us[j]?=some u/\s.heap.IsTuple t #[u,p.2]/\(nU X.prog X.w).is p.1 u=true
 | [],[],_,_=>⟨[],[],rfl,.nil,λj t p e=>by simp at e⟩
 | [],_::_,h,_=>by simp at h
 | _::_,[],h,_=>by simp at h
 | t::ts,(k,v)::kvs,h,hq=>by
  obtain⟨us,all,h1,h2,h3⟩:=xi I ts kvs (by simpa using h) (λj t p e1 e2=>hq (j+1) t p (by simpa using e1) (by simpa using e2));obtain⟨its,r,pl,_⟩:=I.tuple (hq 0 t (k,v) (by simp) (by simp));cases r with
  | cons r1 r2=>
   cases r2 with
   | cons r3 r4=>
    cases r4;rename_i u w;refine⟨u::us,(k,w)::all,by simpa using h1,.cons ⟨rfl,r3⟩ h2,λj t' p e1 e2=>?_⟩;cases j with
    | zero=>
     have e1':t=t':=by simpa using e1
     have NU:(k,w)=p:=by simpa using e2
     subst e1' NU;exact⟨u,by simp,pl,Ds r1⟩
    | succ j=>simpa using h3 j t' p (by simpa using e1) (by simpa using e2)
theorem Dq:∀{kvs:T0 (nZ×V)} {all:T0 (nZ×Vl)},KV kvs all->all.map (·.1)=kvs.map (·.1)
 | _,_,.nil=>rfl
 | _,_,.cons r rs=>by rw[b6,b6,Dq rs,r.1]
def Ak(hc:X.calm=true):sO X (.type "dict") (λxs H Q=>∃l,∃ts:QXQ,∃kvs:T0 (nZ×V),xs=[V.ref l]/\rA X.K H l (ts.map V.ref)/\ts.length=kvs.length/\
  (∀(j:Nat) (t:Addr) (p:nZ×V),ts[j]?=some t->kvs[j]?=some p->p9 X.K H t [kV p.1,p.2])/\(kvs.map (·.1)).Nodup/\∀d,H d=none->Q (.ref d) (upd H d (.dK kvs))):=by
 intro Mf s Y H xs us Q I r h;obtain⟨l,ts,kvs,rfl,hl,Mm,hq,OR,q⟩:=h;obtain⟨u,rfl,ru⟩:=wb r;cases ru;obtain⟨its,rv,⟨⟨c1,d1,t1,sl1⟩,n,g1,e1,e2,e3⟩,hz⟩:=I.list hl;simp only at e1 e2 e3;subst e1 e2 e3;obtain⟨ks,all,h1,h2,h3⟩:=xi I ts kvs Mm hq;have la:all.length=kvs.length:=(kT h2).symm;have li:its.length=kvs.length:=by rw[<-rv.length,bi,Mm]
 have zl:all.length<=sizeLine:=by rw[la,<-Mm];simpa using hz
 have at_:∀(j:Nat) (p:nZ×Vl),all[j]?=some p->∃t,ts[j]?=some t:=λj p e=>by have:=(bL.mp e).1;exact⟨ts[j],bF (by lia)⟩
 refine uI (knd:=nU X.prog X.w) (all:=all) (λj=>(ks[j]?).getD .none) (λj=>(ts[j]?).getD 0) (I.ok.hd hc) g1 (λj v e=>?_) (by rw[bA,li,la]) (λj p e=>?_) (λj p e=>?_) zl λh' tk hD keep=>?_
 .have e':its[j]?=some v:=by simpa using e
  have hj:=(bL.mp e').1;have NO:j<ts.length:=by lia
  obtain⟨w,e4,e5⟩:=rv.get (i:=j) (x:=V.ref ts[j]) (by rw[bM,bF NO];rfl);rw[e']at e4;cases e4;show v=Value.ref ((ts[j]?).getD 0);rw[bF NO];exact e5
 .obtain⟨t,et⟩:=at_ j p e;obtain⟨u,e4,e5,_⟩:=h3 j t p et e;show s.heap.IsTuple ((ts[j]?).getD 0) #[(ks[j]?).getD .none,p.2];rw[et,e4];exact e5
 .obtain⟨t,et⟩:=at_ j p e;obtain⟨u,e4,_,e6⟩:=h3 j t p et e;show(nU X.prog X.w).is p.1 ((ks[j]?).getD .none)=true;rw[e4];exact e6
 .rw[merged_nil_of_nodup all (by rw[Dq h2];exact OR)]at hD;have fr:=I.lC.fresh (bB s.heap.objs.size);exact⟨.ref s.heap.objs.size,_,I.laid (t':=tk) (o:=.dK kvs) keep (bB _) (IS (by rw[<-la];exact zl) (eU.mpr (bR (bH I.big))) h2 hD),rfl,q _ fr⟩
def KP:R2:=λx y H Q=>∃a v,x=.ref a/\Ao H a y (some v)/\Q v H
def BJ(hu:X.A.units+1<cLine):Jg X KP:=by
 intro value Mo Mf s Y H x y o i Q I rx ry h hs;obtain⟨a,v,rfl,g,q⟩:=h;obtain rfl:o=Value.ref a:=rx;have hT:=zF I g;have h2:wpAny (model X.prog X.w) X.A (getItem (.ref a) i) (EP X Mf Y Q) X.xe s:=BY hu I g ry λw' s3 I3 NS=>⟨v,H,I3,NS,q⟩;unfold subscriptTail;refine bh ?_;rw[jg hT.not_modules];refine bh (gO hT iy.lookup ?_);have fin:wpAny (model X.prog X.w) X.A (subscripted Mo false (.ref a) i) (λr s₃=>wpAny (model X.prog X.w) X.A (letTemporaryGo value (.ref a) r>>=λ_=>pure r) (EP X Mf Y Q) X.xe s₃) X.xe s:=by rw[hs];exact wpAny_operating (cz h2 (λr s₃ h₃=>bh (jo (bj h₃))) λ_ _ x=>x)
 first
  | exact bj (bh fin)
  | exact bh (bj (bh fin))
  | exact bh fin
variable {prog:Pg}{w:Wo}{A:Ar}{E:QQX}{a:Addr}{U:Type}{k:Str}{tk:Tok}
section
variable {R:U→Vl→Prop}{D:T0 (Str × U)}
def tq(T:KTD.TabOf R s.heap a D):s.TypeIs (.ref a) "dict":=let⟨_,o,_,_,ho,hc,_⟩:=T;⟨o,ho,hc.1⟩
def AZ{Q:Option Vl->Sd->Prop}(T:KTD.TabOf R s.heap a D)(h1:∀d v,KTD.datumAt k D=some d->R d v->Q (some v) {s with toks:=s.toks+1})(h2:KTD.datumAt k D=none->Q none {s with toks:=s.toks+1}):
  wpAny (model prog w) A (dictGet a (.str k tk)) Q E s:=by
 obtain⟨_,o,es,ep,ho,hc,hd,hr⟩:=T;have hq:Q (findBy (λk v=>v.isStr k) es k) {s with toks:=s.toks+1}:=by
  have hf:findBy (λk v=>v.isStr k) es k=(es.toList.find? λe=>e.key.isStr k).map (·.val):=by obtain⟨l⟩:=es;simp[findBy]
  rw[hf];cases hat:KTD.datumAt k D with
  | none=>rw[hr.find_none hat];exact h2 hat
  | some d=>obtain⟨v,hv,hfl⟩:=hr.find_some hat;rw[hv];exact h1 d v hat hfl
 have Nl:(es.all λe=>isExactStrKey e.key)=true:=by
  obtain⟨l⟩:=es
  simpa using hr.exact
 unfold dictGet
 try with_reducible refine cB ?_
 refine bh (kj (bh (KTD.kt_dictFind_strs (s:={s with toks:=s.toks+1}) ho hd Nl ?_)));rw[findBy_of_findIdx?]at hq;cases hi:es.findIdx? λe=>e.key.isStr k with
 | none=>rw[hi]at hq;exact bj hq
 | some i=>rw[hi]at hq;exact bh (wpAny_dictEntries (s:={s with toks:=s.toks+1}) ho hd (bj hq))
def Hm{Q:QQX}(T:KTD.TabOf R s.heap a D)(h:Q (.bool (KTD.datumAt k D).isSome) {s with toks:=s.toks+1}):wpAny (model prog w) A (compareOp .In (.str k tk) (.ref a)) Q E s:=by
 have hT:=tq T;show wpAny _ _ (do return .bool (<-contains (.ref a) (.str k tk))) Q E s;refine bh ?_;unfold contains
 try with_reducible refine cB ?_
 refine bh (gO hT hX.lookup ?_);show wpAny _ _ (if (some (Value.builtin "dict.__contains__")==some Value.none)=true then _ else _) _ E s;rw[bq (by rw[beq_builtin_none];exact bN)];refine bh (wpAny_callSpecialUnlessNone?_slot (name:=Str.ofString "__contains__") hT hX (cy hX hT entry_dict_contains ?_ (args_dict_contains _ _)));show wpAny _ _ (dictGet a (.str k tk)>>=_) _ _ s;refine bh (AZ T (λd v ha _=>?_) λhn=>?_)
 .rw[ha]at h;show wpAny _ _ (ret (.bool true)) _ _ _;exact bj ⟨_,rfl,cY (bj h)⟩
 .rw[hn]at h;show wpAny _ _ (Builtin.Dict.pendingKey? a (.str k tk)>>=_) _ _ _;exact bh (wpAny_pendingKey_other T.1 (bj ⟨_,rfl,cY (bj h)⟩))
def DH{Q:QQX}{d:U}(T:KTD.TabOf R s.heap a D)(hd:KTD.datumAt k D=some d)(h:∀v,R d v->Q v {s with toks:=s.toks+1}):wpAny (model prog w) A (getItem (.ref a) (.str k tk)) Q E s:=by
 have hT:=tq T;unfold getItem
 try with_reducible refine cB ?_
 refine bh (im hT (by decide) ?_);refine bh (cG (name:=Str.ofString "__getitem__") hT jV (cy jV hT entry_dict_getitem ?_ (args_dict_getitem _ _)));show wpAny _ _ (dictGet a (.str k tk)>>=_) _ _ s;refine bh (AZ T (λd' v ha hv=>bj ⟨v,rfl,bj (h v ?_)⟩) λhn=>?_)
 .rw[hd]at ha;cases ha;exact hv
 .rw[hd]at hn;cases hn
end
def DT(K:m9)(mg:QQZ)(x:Str)(F:T0 (Str×QQQ)):Prop:=∃a o es ep,mg x=some (.ref a)/\(a==sysModules)=false/\K.lookup a=some o/\o.ExactDict/\o.data=.dict es ep/\
 KTD.Rows (λ(ss:QQQ) v=>∃t,v=Value.ref t/\p9 K (λ_=>none) t (ss.map V.str)) es.toList F
variable {x:Str}{F:T0 (Str × QQQ)}
def BH{K:m9}{t:Addr}{xs:T0 V}{H:Hp}(h:p9 K (λ_=>none) t xs):p9 K H t xs:=by
 rcases h with(h|⟨o,h⟩)|h
 .cases h
 .cases h
 .exact .inr h
def yS{K:m9}{mg:QQZ}(T:DT K mg x F):∃a,mg x=some (.ref a)/\∀h:Heap,K.In h->KTD.TabOf (λ(ss:QQQ) v=>∃t,v=Value.ref t/\p9 K (λ_=>none) t (ss.map V.str)) h a F:=by obtain⟨a,o,es,ep,h1,h2,h3,h4,h5,h6⟩:=T;exact⟨a,h1,λh hk=>⟨h2,o,es,ep,hk a o h3,h4,h5,h6⟩⟩
noncomputable def Lv(x:Str):It:=⟨λi _=>i<x.cps.size,λi H v H'=>H'=H/\∃c,x.cps[i]?=some c/\v=.str ⟨#[c]⟩,λi _=>i=x.cps.size⟩
def zN{P:Pg}{w:Wo}{K:m9}{tg:Expr}{ty:String}{x:Str}{t:Tok}(it:Addr)(W:∀A':Ar,A'.handled=none->Walks P w A' it [it] [it] x.cps.size (SignAt x) (λi h=>h.IsStrIter it ty x t i)) (hself:∀(A:Ar) (i:Nat) (s:Sd) (Q:QQX) (E:QQX),s.heap.IsStrIter it ty x t i->Q (.ref it) s->wpAny (model P w) A (pyIter (.ref it)) Q E s) (hn:["enumerate","zip","dict_itemiterator","dict_reverseitemiterator","odict_iterator","itertools.zip_longest","itertools.pairwise"].contains ty=false):yb P w K tg (Lv x) [it] it (λi h=>h.IsStrIter it ty x t i) where
 mem:=by simp
 obj:=λi h st b hb=>by
  obtain rfl:b=it:=by simpa using hb
  obtain⟨o,e,c,d⟩:=st;exact⟨o,e,λv z=>by rw[d]at z;cases z⟩
 keep:=λi h h' st k=>by obtain⟨o,e,r⟩:=st;exact⟨o,k it (by simp) o e,r⟩
 item:=by intro X hP hw hK hc i Mf s Y H E I hf st hg;subst hP hw hK;obtain⟨f0,f1,f2,f3,f4,f5⟩:=hf it (by simp);refine(W X.A (I.ok.hd hc)).item i s _ _ hg st λv h' tk hv Mi kp=>?_;obtain⟨c,u,e1,e2⟩:=hv;have I1:Inv X Mf Y H {s with heap:=h',toks:=tk}:=I.turned (t':=tk) (λb o hb e=>kp b o (by simpa using hb) e) f0 f1 f3 f4 f5;obtain⟨o,e,cl,d⟩:=id Mi;exact⟨v,rfl,zj (s:={s with heap:=h',toks:=tk}) e cl d hn ⟨.str ⟨#[c]⟩,H,I1,⟨u,e2⟩,⟨rfl,c,e1,rfl⟩,Mi,λb hb=>(hf b hb).1⟩⟩
 done:=by intro X hP hw hK hc i Mf s Y H E I hf st hg;subst hP hw hK;obtain⟨f0,f1,f2,f3,f4,f5⟩:=hf it (by simp);obtain rfl:i=x.cps.size:=hg;exact(W X.A (I.ok.hd hc)).done s _ _ st λh' tk kp=>⟨rfl,I.turned (t':=tk) (λb o hb e=>kp b o (by simpa using hb) e) f0 f1 f3 f4 f5⟩
 self:=hself
variable {tg:Expr}
def Gm{l:Expr}{tl:TE}(hc:X.calm=true)(hl:PE X l tl):PI X tg l (λY H R=>tl Y H λx H1=>(∃a,x=.ref a/\(((∃xs,rA X.K H1 a xs)/\R (Ko X.K a) H1)\/((∃xs,p9 X.K H1 a xs)/\R (KH X.K a) H1)))\/∃z,x=.str z/\R (Lv z) H1):=by
 intro Mf s Y H R I h;refine pB (hl Mf s Y H _ I h) λv s1 zz=>x5 zz λx H1 I1 r1 q1=>?_;rcases q1 with⟨a,e,q1⟩|⟨z,e,q⟩
 .subst e;cases r1;rcases q1 with⟨⟨xs,hq⟩,q⟩|⟨⟨xs,hq⟩,q⟩
  .obtain⟨its,rv,p,hz⟩:=I1.list hq;refine fu p.isList ?_;refine⟨s1.heap.objs.size,[s1.heap.objs.size],_,_,H1,rfl,I1.kept (t':=s1.toks) λb o e=>bp _ e,CU a _,⟨_,bE _ rfl,rfl,rfl⟩,λb hb=>?_,q⟩;obtain rfl:b=s1.heap.objs.size:=by simpa using hb
   exact I1.lX (bB _) (I1.lC.fresh (bB _))
  .obtain⟨its,rv,p,hz⟩:=I1.tuple hq;refine fj (show s1.heap.IsTuple a its.toArray from p) ?_;refine⟨s1.heap.objs.size,[s1.heap.objs.size],_,_,H1,rfl,I1.kept (t':=s1.toks) λb o e=>bp _ e,AD a _,⟨_,bE _ rfl,rfl,rfl⟩,λb hb=>?_,q⟩;obtain rfl:b=s1.heap.objs.size:=by simpa using hb
   exact I1.lX (bB _) (I1.lC.fresh (bB _))
 .subst e;obtain⟨t,rfl⟩:=r1;have fp:∀b∈[s1.heap.objs.size],ui X Mf H1 b:=λb hb=>by
   obtain rfl:b=s1.heap.objs.size:=by simpa using hb
   exact I1.lX (bB _) (I1.lC.fresh (bB _))
  cases ha:z.cps.all (·<128)
  .refine wpAny_pyIter_wide ha ?_;exact⟨s1.heap.objs.size,[s1.heap.objs.size],_,_,H1,rfl,I1.kept (t':=s1.toks) λb o e=>bp _ e,zN _ (λA' hA=>Walks.strWide hA _ z t) (λA i s Q E st h=>wpAny_pyIter_striter_wide st h) (by decide),⟨_,bE _ rfl,rfl,rfl⟩,fp,q⟩
  .refine wpAny_pyIter_ascii ha ?_;exact⟨s1.heap.objs.size,[s1.heap.objs.size],_,_,H1,rfl,I1.kept (t':=s1.toks) λb o e=>bp _ e,zN _ (λA' hA=>Walks.strAscii hA _ z t) (λA i s Q E st h=>wpAny_pyIter_striter_ascii st h) (by decide),⟨_,bE _ rfl,rfl,rfl⟩,fp,q⟩
end L2
namespace L2
inductive E1{α0:Sort u}{α1:Sort v}(p:α0->α1->Prop):Prop
 | mk (a0:α0) (a1:α1) (h:p a0 a1):E1 p
inductive A9{α0:Sort u}{α1:Sort v}{α2:Sort w}(p:α0->α1->α2->Prop):Prop
 | mk (a0:α0) (a1:α1) (a2:α2) (h:p a0 a1 a2):A9 p
def x7{α:Sort u}{β:Sort v}{γ:Sort w}{p q r s:α->β->γ->Prop}{C:Prop}(h:A9 λa b c=>p a b c/\q a b c/\r a b c/\s a b c)(f:∀a b c,p a b c->q a b c->r a b c->s a b c->C):C:=by obtain⟨a,b,c,h1,h2,h3,h4⟩:=h;exact f a b c h1 h2 h3 h4
def E5{α:Sort u}{β:Sort v}{γ:Sort w}{p q r s s1 s2 s3:α->β->γ->Prop}{C:Prop}(h:A9 λa b c=>p a b c/\q a b c/\r a b c/\s a b c/\s1 a b c/\s2 a b c/\s3 a b c)(f:∀a b c,p a b c->q a b c->r a b c->s a b c->s1 a b c->s2 a b c->s3 a b c->C):C:=by obtain⟨a,b,c,h1,h2,h3,h4,h5,h6,h7⟩:=h;exact f a b c h1 h2 h3 h4 h5 h6 h7
inductive E2{α0:Sort u}{α1:Sort v}{α2:Sort w}{α3:Sort u1}(p:α0->α1->α2->α3->Prop):Prop
 | mk (a0:α0) (a1:α1) (a2:α2) (a3:α3) (h:p a0 a1 a2 a3):E2 p
inductive Jk{α0:Sort u}{α1:Sort v}{α2:Sort w}{α3:Sort u1}{α4:Sort u2}(p:α0->α1->α2->α3->α4->Prop):Prop
 | mk (a0:α0) (a1:α1) (a2:α2) (a3:α3) (a4:α4) (h:p a0 a1 a2 a3 a4):Jk p
inductive Lo{α0:Sort u}{α1:Sort v}{α2:Sort w}{α3:Sort u1}{α4:Sort u2}{α5:Sort u3}(p:α0->α1->α2->α3->α4->α5->Prop):Prop
 | mk (a0:α0) (a1:α1) (a2:α2) (a3:α3) (a4:α4) (a5:α5) (h:p a0 a1 a2 a3 a4 a5):Lo p
inductive LG{α0:Sort u}{α1:Sort v}{α2:Sort w}{α3:Sort u1}{α4:Sort u2}{α5:Sort u3}{α6:Sort u4}(p:α0->α1->α2->α3->α4->α5->α6->Prop):Prop
 | mk (a0:α0) (a1:α1) (a2:α2) (a3:α3) (a4:α4) (a5:α5) (a6:α6) (h:p a0 a1 a2 a3 a4 a5 a6):LG p
end L2
namespace L2
open PySem
end L2
namespace L3
open L2
inductive D where
 | lB|bl (b:Bool)|int (i:Int)|str (x:Str)|tup (ds:List D)|ref (a:Addr)|ty (n:String)
 | rl (ds:List D)
def Fe(K:m9)(H:Hp)(a:Addr)(xs:T0 V):Prop:=(∃o,H a=some (.frz o (.lst xs)))\/
 ∃(o:Obj) (its:Array Vl) (n:Nat),K.lookup a=some o/\o.cls=.type "list"/\o.dict=none/\o.data=.seq its n/\its.size<=sizeLine/\nv xs its.toList
def Fe.sq{K:m9}{H:Hp}{a:Addr}{xs:T0 V}(h:Fe K H a xs):rA K H a xs:=by
 rcases h with⟨o,h⟩|h
 .exact .inl (.inr ⟨o,h⟩)
 .exact .inr h
mutual
def n8(K:m9)(H:Hp):D->V->Prop
 | .lB,v=>v=.lB
 | .bl b,v=>v=.bl b
 | .int i,v=>v=.int i
 | .str x,v=>v=.str x
 | .ref a,v=>v=.ref a
 | .ty n,v=>v=.ty n
 | .tup ds,v=>∃a xs,v=.ref a/\p9 K H a xs/\mS K H ds xs
 | .rl ds,v=>∃a xs,v=.ref a/\Fe K H a xs/\mS K H ds xs
def mS(K:m9)(H:Hp):T0 D->T0 V->Prop
 | [],xs=>xs=[]
 | d::ds,xs=>∃x r,xs=x::r/\n8 K H d x/\mS K H ds r
end
structure nF(K:m9)(H H':Hp):Prop where
 t:∀a xs,p9 K H a xs->p9 K H' a xs
 f:∀a o xs,H a=some (.frz o (.lst xs))->H' a=some (.frz o (.lst xs))
def nF.refl{K:m9}{H:Hp}:nF K H H:=⟨λ_ _ h=>h,λ_ _ _ h=>h⟩
def nF.trans{K:m9}{H H1 H2:Hp}(a:nF K H H1)(b:nF K H1 H2):nF K H H2:=⟨λc xs h=>b.t c xs (a.t c xs h),λc o xs h=>b.f c o xs (a.f c o xs h)⟩
def nF.upd{K:m9}{H:Hp}{p:Addr}{o:HO}(h:∀xs,¬Rd H p (.tup xs))(h':∀u xs,H p≠some (.frz u (.lst xs))):nF K H (upd H p o):=⟨λa xs q=>by
 rcases q with q|q
 .have ne:a≠p:=λz=>h xs (z ▸ q);rcases q with q|⟨u,q⟩
  .exact .inl (.inl (by rw[nh ne];exact q))
  .exact .inl (.inr ⟨u,by rw[nh ne];exact q⟩)
 .exact .inr q,λa u xs q=>by
 have ne:a≠p:=λz=>h' u xs (z ▸ q);rw[nh ne];exact q⟩
def nF.new{K:m9}{H:Hp}{p:Addr}{o:HO}(h:H p=none):nF K H (L2.upd H p o):=.upd (λxs q=>by
 rcases q with q|⟨u,q⟩<;>(rw[h]at q;cases q)) λu xs q=>by rw[h]at q;cases q
def Fe.mono{K:m9}{H H':Hp}{a:Addr}{xs:T0 V}(e:nF K H H')(h:Fe K H a xs):Fe K H' a xs:=by
 rcases h with⟨o,h⟩|h
 .exact .inl ⟨o,e.f a o xs h⟩
 .exact .inr h
mutual
theorem n8.mono{K:m9}{H H':Hp}(e:nF K H H'):∀{d:D} {v:V},n8 K H d v->n8 K H' d v
 | .lB,_,h=>h
 | .bl _,_,h=>h
 | .int _,_,h=>h
 | .str _,_,h=>h
 | .ref _,_,h=>h
 | .ty _,_,h=>h
 | .tup ds,v,h=>by unfold n8 at h ⊢;obtain⟨a,xs,e1,e2,e3⟩:=h;exact⟨a,xs,e1,e.t _ _ e2,mS.mono e e3⟩
 | .rl ds,v,h=>by unfold n8 at h ⊢;obtain⟨a,xs,e1,e2,e3⟩:=h;exact⟨a,xs,e1,e2.mono e,mS.mono e e3⟩
theorem mS.mono{K:m9}{H H':Hp}(e:nF K H H'):∀{ds:T0 D} {xs:T0 V},mS K H ds xs->mS K H' ds xs
 | [],_,h=>h
 | d::ds,xs,h=>by unfold mS at h ⊢;obtain⟨x,r,e1,e2,e3⟩:=h;exact⟨x,r,e1,n8.mono e e2,mS.mono e e3⟩
end
variable {K:m9}{H H':Hp}
def mS.nil:mS K H [] []:=by unfold mS;rfl
def mS.cons{d:D}{ds:T0 D}{x:V}{xs:T0 V}(a:n8 K H d x)(b:mS K H ds xs):mS K H (d::ds) (x::xs):=by unfold mS;exact⟨x,xs,rfl,a,b⟩
def mS.inv{d:D}{ds:T0 D}{xs:T0 V}(h:mS K H (d::ds) xs):∃x r,xs=x::r/\n8 K H d x/\mS K H ds r:=by unfold mS at h;exact h
def mS.nil_inv{xs:T0 V}(h:mS K H [] xs):xs=[]:=by unfold mS at h;exact h
theorem mS.length:∀{ds:T0 D} {xs:T0 V},mS K H ds xs->ds.length=xs.length
 | [],_,h=>by rw[h.nil_inv];rfl
 | d::ds,_,h=>by obtain⟨x,r,rfl,_,e⟩:=h.inv;simp[mS.length e]
theorem mS.get:∀{ds:T0 D} {xs:T0 V} {i:Nat} {d:D},mS K H ds xs->ds[i]?=some d->∃x,xs[i]?=some x/\n8 K H d x
 | [],_,_,_,_,e=>by simp at e
 | d::ds,_,0,_,h,e=>by obtain⟨x,r,rfl,a,_⟩:=h.inv;simp at e;subst e;exact⟨x,by simp,a⟩
 | d::ds,_,i+1,_,h,e=>by obtain⟨x,r,rfl,_,b⟩:=h.inv;obtain⟨y,e1,e2⟩:=mS.get b (by simpa using e);exact⟨y,by simpa using e1,e2⟩
theorem mS.append:∀{ds es:T0 D} {xs ys:T0 V},mS K H ds xs->mS K H es ys->mS K H (ds++es) (xs++ys)
 | [],_,_,_,h,g=>by rw[h.nil_inv];exact g
 | d::ds,_,_,_,h,g=>by obtain⟨x,r,rfl,a,b⟩:=h.inv;exact .cons a (mS.append b g)
theorem mS.take:∀{ds:T0 D} {xs:T0 V} (n:Nat),mS K H ds xs->mS K H (ds.take n) (xs.take n)
 | _,_,0,_=>by simp only[List.take_zero];exact .nil
 | [],_,n+1,h=>by rw[h.nil_inv];exact .nil
 | d::ds,_,n+1,h=>by obtain⟨x,r,rfl,a,b⟩:=h.inv;exact .cons a (mS.take n b)
theorem mS.drop:∀{ds:T0 D} {xs:T0 V} (n:Nat),mS K H ds xs->mS K H (ds.drop n) (xs.drop n)
 | _,_,0,h=>h
 | [],_,n+1,h=>by rw[h.nil_inv];exact .nil
 | d::ds,_,n+1,h=>by obtain⟨x,r,rfl,a,b⟩:=h.inv;exact mS.drop n b
def mS.snoc{ds:T0 D}{xs:T0 V}{d:D}{x:V}(h:mS K H ds xs)(a:n8 K H d x):mS K H (ds++[d]) (xs++[x]):=h.append (.cons a .nil)
theorem mS.ints:∀{ns:T0 Int},mS K H (ns.map D.int) (ns.map V.int)
 | []=>.nil
 | n::r=>.cons (by unfold n8;rfl) mS.ints
def n8.tup{ds:T0 D}{a:Addr}{xs:T0 V}(q:p9 K H a xs)(h:mS K H ds xs):n8 K H (.tup ds) (.ref a):=by unfold n8;exact⟨a,xs,rfl,q,h⟩
def n8.lw{ds:T0 D}{v:V}(h:n8 K H (.tup ds) v):∃a xs,v=.ref a/\p9 K H a xs/\mS K H ds xs:=by unfold n8 at h;exact h
def n8.lF{ds:T0 D}{v:V}(h:n8 K H (.rl ds) v):∃a xs,v=.ref a/\Fe K H a xs/\mS K H ds xs:=by unfold n8 at h;exact h
def n8.int{i:Int}:n8 K H (.int i) (.int i):=by unfold n8;rfl
def n8.bl{i:Bool}:n8 K H (.bl i) (.bl i):=by unfold n8;rfl
def n8.str{i:Str}:n8 K H (.str i) (.str i):=by unfold n8;rfl
def n8.ref{i:Addr}:n8 K H (.ref i) (.ref i):=by unfold n8;rfl
def n8.lB:n8 K H .lB .lB:=by unfold n8;rfl
def n8.int_inv{i:Int}{v:V}(h:n8 K H (.int i) v):v=.int i:=by unfold n8 at h;exact h
def n8.lu{i:Bool}{v:V}(h:n8 K H (.bl i) v):v=.bl i:=by unfold n8 at h;exact h
def n8.str_inv{i:Str}{v:V}(h:n8 K H (.str i) v):v=.str i:=by unfold n8 at h;exact h
def n8.lm{i:Addr}{v:V}(h:n8 K H (.ref i) v):v=.ref i:=by unfold n8 at h;exact h
def n8.lV{i:String}{v:V}(h:n8 K H (.ty i) v):v=.ty i:=by unfold n8 at h;exact h
def n8.lq{v:V}(h:n8 K H .lB v):v=.lB:=by unfold n8 at h;exact h
inductive qg where
 | lst (ds:List D)
 | ins (C:Addr) (fs:List (Str×D))
 | dk (kvs:List (nZ×D))
 | exc (φ:Heap->Prop)
 | fd (ob:Obj) (kvs:List (nZ×D))
abbrev Mp:=Addr->Option qg
noncomputable def mL(M:Mp)(a:Addr)(c:qg):Mp:=λb=>if b=a then some c else M b
def mN{M:Mp}{a:Addr}{c:qg}:mL M a c a=some c:=by unfold mL;rw[bw rfl]
def nw{M:Mp}{a b:Addr}{c:qg}(h:b≠a):mL M a c b=M b:=by unfold mL;rw[bq h]
def oj{M:Mp}{a:Addr}{c d:qg}:mL (mL M a c) a d=mL M a d:=by funext b;unfold mL;split<;>rfl
def IG{M:Mp}{a b:Addr}{c:qg}(h:M a=some c)(h':M b=none):a≠b:=by intro e;subst e;rw[h]at h';cases h'
def vM(K:m9)(H:Hp)(fs:T0 (Str×D))(vs:T0 (Str×V)):Prop:=vs.map (·.1)=fs.map (·.1)/\mS K H (fs.map (·.2)) (vs.map (·.2))
def rP(K:m9)(H:Hp)(a:Addr):qg->Prop
 | .lst ds=>∃xs,H a=some (.lst xs)/\mS K H ds xs
 | .ins C fs=>∃dx vs,H a=some (.ins C dx vs)/\Cls K C/\(∀f,f∈fs.map (·.1)->pV K C f)/\vM K H fs vs
 | .dk kvs=>∃vs,H a=some (.dK vs)/\vs.map (·.1)=kvs.map (·.1)/\mS K H (kvs.map (·.2)) (vs.map (·.2))
 | .exc φ=>H a=some (.ext φ)
 | .fd ob kvs=>∃vs,H a=some (.frz ob (.dK vs))/\vs.map (·.1)=kvs.map (·.1)/\mS K H (kvs.map (·.2)) (vs.map (·.2))
def HM(K:m9)(H:Hp)(M:Mp):Prop:=∀a c,M a=some c->rP K H a c
variable {M:Mp}
def vM.mono{fs:T0 (Str×D)}{vs:T0 (Str×V)}(e:nF K H H')(h:vM K H fs vs):vM K H' fs vs:=⟨h.1,h.2.mono e⟩
def rP.keep{a:Addr}{c:qg}(e:nF K H H')(k:H' a=H a)(h:rP K H a c):rP K H' a c:=by
 cases c with
 | lst ds=>obtain⟨xs,e1,e2⟩:=h;exact⟨xs,by rw[k];exact e1,e2.mono e⟩
 | ins C fs=>obtain⟨dx,vs,e1,c,n,e2⟩:=h;exact⟨dx,vs,by rw[k];exact e1,c,n,e2.mono e⟩
 | dk kvs=>obtain⟨vs,e1,e2,e3⟩:=h;exact⟨vs,by rw[k];exact e1,e2,e3.mono e⟩
 | exc C=>exact k.trans h
 | fd ob kvs=>obtain⟨vs,e1,e2,e3⟩:=h;exact⟨vs,by rw[k];exact e1,e2,e3.mono e⟩
def rP.there{a:Addr}{c:qg}(h:rP K H a c):∃o,H a=some o/\(∀xs,¬Rd H a (.tup xs))/\∀u xs,H a≠some (.frz u (.lst xs)):=by
 have go:∀o,H a=some o->(∀xs,o≠.tup xs)->(∀u v,o≠.frz u v)->∃o,H a=some o/\(∀xs,¬Rd H a (.tup xs))/\∀u xs,H a≠some (.frz u (.lst xs)):=λo e n1 n2=>⟨o,e,λxs q=>by
  rcases q with q|⟨u,q⟩
  .rw[e]at q;exact n1 xs (bJ q)
  .rw[e]at q;exact n2 u _ (bJ q),λu xs q=>by rw[e]at q;exact n2 u _ (bJ q)⟩
 cases c with
 | lst ds=>obtain⟨xs,e1,e2⟩:=h;exact go _ e1 (λ_ z=>by cases z) λ_ _ z=>by cases z
 | ins C fs=>obtain⟨dx,vs,e1,e2⟩:=h;exact go _ e1 (λ_ z=>by cases z) λ_ _ z=>by cases z
 | dk kvs=>obtain⟨vs,e1,e2,e3⟩:=h;exact go _ e1 (λ_ z=>by cases z) λ_ _ z=>by cases z
 | exc C=>exact go _ h (λ_ z=>by cases z) λ_ _ z=>by cases z
 | fd ob kvs=>obtain⟨vs,e1,_⟩:=h;exact⟨_,e1,λxs q=>by rcases q with q|⟨u,q⟩<;>(rw[e1]at q;cases q),λu xs q=>by rw[e1]at q;cases q⟩
def HM.fresh(h:HM K H M){p:Addr}(n:H p=none):M p=none:=by
 cases e:M p with
 | none=>rfl
 | some c=>obtain⟨o,q,_⟩:=(h p c e).there;rw[n]at q;cases q
def HM.keep(h:HM K H M)(e:nF K H H')(k:∀a c,M a=some c->H' a=H a):HM K H' M:=λa c q=>(h a c q).keep e (k a c q)
def HM.add(h:HM K H M){p:Addr}{o:HO}(n:H p=none):HM K (upd H p o) M:=h.keep (.new n) λa c q=>by obtain⟨u,e,_⟩:=(h a c q).there;rw[nh (ny e n)]
def HM.new(h:HM K H M){p:Addr}{o:HO}{c:qg}(n:H p=none)(ok:rP K (upd H p o) p c):HM K (upd H p o) (mL M p c):=λa d q=>by
 by_cases e:a=p
 .subst e;rw[mN]at q;cases q;exact ok
 .rw[nw e]at q;exact h.add n a d q
def HM.put(h:HM K H M){p:Addr}{o:HO}{c c0:qg}(e0:M p=some c0)(ok:nF K H (upd H p o)->rP K (upd H p o) p c):HM K (upd H p o) (mL M p c)/\nF K H (upd H p o):=by
 obtain⟨u,eu,nt,nf⟩:=(h p c0 e0).there;have x:nF K H (upd H p o):=.upd nt nf;refine⟨λa d q=>?_,x⟩;by_cases e:a=p
 .subst e;rw[mN]at q;cases q;exact ok x
 .rw[nw e]at q;exact(h a d q).keep x (nh e)
abbrev St:=L2.St
abbrev qz:=T0 (Option D)
abbrev DK:=D->Mp->Prop
abbrev T3:=qz->Mp->DK->Prop
abbrev wu:=qz->Mp->(Bool->Mp->Prop)->Prop
abbrev rX:=qz->Mp->(T0 D->Mp->Prop)->Prop
structure zH where
 nx:qz->Mp->Prop
 rt:DK
 bk:qz->Mp->Prop:=λ_ _=>False
 ct:qz->Mp->Prop:=λ_ _=>False
abbrev ua:=zH->qz->Mp->Prop
def uE(K:m9)(H:Hp)(Y:St)(U:qz):Prop:=∀(i:Nat) (d:D),U[i]?=some (some d)->∃v,Y[i]?=some (some v)/\n8 K H d v
def uE.mono{K:m9}{H H':Hp}{Y:St}{U:qz}(e:nF K H H')(h:uE K H Y U):uE K H' Y U:=λi d q=>by obtain⟨v,e1,e2⟩:=h i d q;exact⟨v,e1,e2.mono e⟩
def uE.set{K:m9}{H:Hp}{Y:St}{U:qz}{i:Nat}{d:D}{v:V}(h:uE K H Y U)(hv:n8 K H d v)(hi:i<Y.length):uE K H (Y.set i (some v)) (U.set i (some d)):=λj e q=>by
 by_cases hj:j=i
 .subst hj;rw[fk hi];by_cases hl:j<U.length
  .rw[fk hl]at q;cases q;exact⟨v,rfl,hv⟩
  .rw[dh (by simpa using hl)]at q;cases q
 .rw[gJ (bR hj)]at q ⊢;exact h j e q
def lo(K:m9)(t:T3):TE:=λY H Q'=>A9 λU M Q=>uE K H Y U/\HM K H M/\t U M Q/\∀v H' d M',n8 K H' d v->HM K H' M'->nF K H H'->Q d M'->Q' v H'
def Jb(K:m9)(t:wu):TT:=λY H Q'=>A9 λU M Q=>uE K H Y U/\HM K H M/\t U M Q/\∀b H' M',HM K H' M'->nF K H H'->Q b M'->Q' b H'
def LB(K:m9)(t:rX):TA:=λY H Q'=>A9 λU M Q=>uE K H Y U/\HM K H M/\t U M Q/\∀vs H' ds M',mS K H' ds vs->HM K H' M'->nF K H H'->Q ds M'->Q' vs H'
def Lw(K:m9)(t:ua):TS:=λD' Y H=>A9 λU M D=>uE K H Y U/\HM K H M/\t D U M/\(∀σ' H' δ' M',uE K H' σ' δ'->HM K H' M'->nF K H H'->σ'.length=Y.length->D.nx δ' M'->D'.nx σ' H')/\
 (∀v H' d M',n8 K H' d v->HM K H' M'->nF K H H'->D.rt d M'->D'.rt v H')/\(∀σ' H' δ' M',uE K H' σ' δ'->HM K H' M'->nF K H H'->σ'.length=Y.length->D.bk δ' M'->D'.bk σ' H')/\
 (∀σ' H' δ' M',uE K H' σ' δ'->HM K H' M'->nF K H H'->σ'.length=Y.length->D.ct δ' M'->D'.ct σ' H')
def E3(X:Cx)(e:Expr)(t:T3):Prop:=PE X e (lo X.K t)
def B3(X:Cx)(e:Expr)(t:wu):Prop:=PT X e (Jb X.K t)
def A3(X:Cx)(es:T0 Expr)(t:rX):Prop:=PA X es (LB X.K t)
def S3(X:Cx)(st:Stmt)(t:ua):Prop:=PS X st (Lw X.K t)
def En(X:Cx)(st:T0 Stmt)(t:ua):Prop:=xy X st (Lw X.K t)
def PE.mono{X:Cx}{e:Expr}{t t':TE}(h:PE X e t)(m:∀Y H Q,t' Y H Q->t Y H Q):PE X e t':=λMf s Y H Q I q=>h Mf s Y H Q I (m Y H Q q)
def PT.mono{X:Cx}{e:Expr}{t t':TT}(h:PT X e t)(m:∀Y H Q,t' Y H Q->t Y H Q):PT X e t':=λMf s Y H Q I q=>h Mf s Y H Q I (m Y H Q q)
def PA.mono{X:Cx}{e:T0 Expr}{t t':TA}(h:PA X e t)(m:∀Y H Q,t' Y H Q->t Y H Q):PA X e t':=λpos Mf s Y H Q I q=>h pos Mf s Y H Q I (m Y H Q q)
def PS.mono{X:Cx}{e:Stmt}{t t':TS}(h:PS X e t)(m:∀D Y H,t' D Y H->t D Y H):PS X e t':=λMf s Y H D I q=>h Mf s Y H D I (m D Y H q)
def xy.mono{X:Cx}{e:T0 Stmt}{t t':TS}(h:xy X e t)(m:∀D Y H,t' D Y H->t D Y H):xy X e t':=λMf s Y H D I q=>h Mf s Y H D I (m D Y H q)
def PS.lZ{X:Cx}{e:Stmt}{t t':TS}(h:PS X e t)(m:∀D Y H,Y.length=X.N.length->t' D Y H->t D Y H):PS X e t':=λMf s Y H D I q=>h Mf s Y H D I (m D Y H I.len q)
def sH{K:m9}{H H1:Hp}{Q':VK}{Q:DK}(x:nF K H H1)(f:∀v H' d M',n8 K H' d v->HM K H' M'->nF K H H'->Q d M'->Q' v H'):∀v H' d M',n8 K H' d v->HM K H' M'->nF K H1 H'->Q d M'->Q' v H':=
 λv H' d M' a b c e=>f v H' d M' a b (x.trans c) e
variable {X:Cx}{pos:Pos}
def v3(i:Nat):T3:=λU M Q=>(U.getD i none).elim False λd=>Q d M
def Cp{U:qz}{i:Nat}{P:D->Prop}(h:(U.getD i none).elim False P):∃d,U[i]?=some (some d)/\P d:=by
 cases e:U[i]? with
 | none=>rw[ii,e]at h;exact h.elim
 | some o=>
  rw[ii,e]at h;cases o with
  | none=>exact h.elim
  | some d=>exact⟨d,rfl,h⟩
def IY(i:Nat){x:Str}(h:PE X (.Name x pos) (Ig i)):E3 X (.Name x pos) (v3 i):=PE.mono h λY H Q' zz=>x7 zz λU M Q hs hm ht k=>by obtain⟨d,e,q⟩:=Cp ht;obtain⟨v,e1,e2⟩:=hs i d e;exact⟨v,e1,k v H d M e2 hm .refl q⟩
def c3(d:D):T3:=λ_ M Q=>Q d M
def mJ{i j}:E3 X (.Constant (.int i) j pos) (c3 (.int i)):=PE.mono Ib λY H Q' zz=>x7 zz λU M Q hs hm ht k=>k _ H _ M .int hm .refl ht
def Jt{i j}:E3 X (.Constant (.bool i) j pos) (c3 (.bl i)):=PE.mono J' λY H Q' zz=>x7 zz λU M Q hs hm ht k=>k _ H _ M .bl hm .refl ht
def mO{i j}:E3 X (.Constant (.str i) j pos) (c3 (.str i)):=PE.mono Hu λY H Q' zz=>x7 zz λU M Q hs hm ht k=>k _ H _ M .str hm .refl ht
def GR{x:Str}{n:String}(hg:Gl X x)(hm:X.mg x=none)(hv:bootBuiltins x=some (.type n))(hn:x≠"__name__":=by decide)(hd:va x:=by decide):E3 X (.Name x pos) (c3 (.ty n)):=
 PE.mono (GD (v:=.ty n) hg hm hv rfl hn hd) λY H Q' zz=>x7 zz λU M Q hs hm ht k=>k _ H _ M (by unfold n8;rfl) hm .refl ht
noncomputable def ma(M:Mp)(a:Addr):Option (T0 D):=match M a with
 | some (.lst ds)=>some ds
 | _=>none
noncomputable def s8(x:Str)(n:Int):Str:=⟨(List.replicate n.toNat x.cps).foldl (·++·) #[]⟩
def KC(op:Operator)(x y:D)(M:Mp)(Q:DK):Prop:=match op,x,y with
 | .Add,.int i,.int j=>Q (.int (i+j)) M
 | .Add,.str i,.str j=>i.length+j.length<=sizeLine/\Q (.str (i++j)) M
 | .Add,.tup i,.tup j=>i≠[]/\i.length+j.length<=sizeLine/\Q (.tup (i++j)) M
 | .Add,.ref a,.ref b=>(ma M a).elim False λi=>(ma M b).elim False λj=>i.length+j.length<=sizeLine/\∀p,M p=none->Q (.ref p) (mL M p (.lst (i++j)))
 | .Add,.rl i,.ref b=>(ma M b).elim False λj=>i.length+j.length<=sizeLine/\∀p,M p=none->Q (.ref p) (mL M p (.lst (i++j)))
 | .Sub,.int i,.int j=>Q (.int (i - j)) M
 | .Mult,.int i,.int j=>B7 i j/\Q (.int (i*j)) M
 | .Mult,.str i,.int j=>(j<4096/\-4096<j/\i.length<4096)/\Q (.str (s8 i j)) M
 | .FloorDiv,.int i,.int j=>Jo i j/\Q (.int (i / j)) M
 | .Mod,.int i,.int j=>0<j/\Q (.int (i % j)) M
 | _,_,_=>False
def o3(op:Operator)(ta tb:T3):T3:=λU M Q=>ta U M λx M1=>tb U M1 λy M2=>KC op x y M2 Q
def Up(K:m9)(H:Hp)(Q':VK)(Q:DK):Prop:=∀v H' d M',n8 K H' d v->HM K H' M'->nF K H H'->Q d M'->Q' v H'
variable {ta tb:T3}
section
def mR{K:m9}{H:Hp}{M:Mp}{a:Addr}{ds:T0 D}(hm:HM K H M)(h:ma M a=some ds):∃xs,rA K H a xs/\mS K H ds xs/\Rd H a (.lst xs):=by
 unfold ma at h;cases e:M a with
 | none=>rw[e]at h;cases h
 | some c=>
  rw[e]at h;have ok:=hm a c e;cases c with
  | lst es=>cases h;obtain⟨xs,e1,e2⟩:=ok;exact⟨xs,.inl (.inl e1),e2,.inl e1⟩
  | ins _ _=>cases h
  | dk _=>cases h
  | exc _=>cases h
  | fd _ _=>cases h
def nH{α:Type}{o:Option α}{P:α->Prop}(h:o.elim False P):∃a,o=some a/\P a:=by
 cases o with
 | none=>exact h.elim
 | some a=>exact⟨a,rfl,h⟩
def Bh:sf X (binaryOp .Add) (λx y H Q=>∃l b xs zs,x=.ref l/\y=.ref b/\rA X.K H l xs/\rA X.K H b zs/\xs.length+zs.length<=sizeLine/\∀p,H p=none->Q (.ref p) (upd H p (.lst (xs++zs)))):=by
 intro Mf s Y H x y v u Q I rx ry h;obtain⟨l,b,xs,zs,rfl,rfl,hH,hB,hz,q⟩:=h;cases rx;cases ry;obtain⟨its,r,⟨⟨c1,d1,t1,sl1⟩,n,g1,e1,_,f1⟩,_⟩:=I.list hH;obtain⟨Nn,r2,⟨⟨c2,d2,t2,sl2⟩,m,g2,e2,_,f2⟩,_⟩:=I.list hB;simp only at e1 f1 e2 f2;subst e1 f1 e2 f2;have hl:=r.length;have Om:=r2.length;refine jK ⟨_,g1,rfl⟩ ⟨_,g2,rfl⟩ noFill_list_add seq_list_add PySem.F.slot_list_add PySem.F.entry_list_add (PySem.F.args_list_add_2 _ _) (list_addW l b its.toArray Nn.toArray n m d1 d2 sl1 sl2 (by rw[bA,bA];lia)) ⟨g1,g2,?_⟩;have ea:its.toArray++Nn.toArray=(its++Nn).toArray:=by simp
 rw[ea];exact⟨.ref _,_,I.lnew (t':=s.toks) (r.append r2) (by rw[bz];lia),rfl,q _ I.fresh⟩
def BE(x:Array Nat):∀k,((List.replicate k x).foldl (·++·) #[]:Array Nat).size=k*x.size:=by
 have go:∀(k:Nat) (acc:Array Nat),((List.replicate k x).foldl (·++·) acc).size=acc.size+k*x.size:=by
  intro k;induction k with
  | zero=>intro acc;simp
  | succ k ih=>intro acc;rw[dZ,dF,ih,Array.size_append,jM];lia
 intro k;rw[go];simp
def Gx:sf X (binaryOp .Mult) (λx y H Q=>∃i j,x=.str i/\y=.int j/\(j<4096/\-4096<j/\i.length<4096)/\Q (.str (s8 i j)) H):=by
 intro Mf s Y H x y v u Q I rx ry h;obtain⟨i,j,rfl,rfl,⟨h1,h2,h3⟩,q⟩:=h;obtain⟨t,rfl⟩:=rx;obtain⟨t',rfl⟩:=ry;refine PySem.P.mul_str ?_ ?_ ?_ ?_
 .rw[cE (by lia),cE (by lia)];rfl
 .intro h0 _;have:(4096:Int)<=(2 ^ 63 - 1) / j:=by
   have:(4096:Int)*j<=2 ^ 63 - 1:=by lia
   exact(Int.le_ediv_iff_mul_le (by lia)).mpr this
  lia
 .intro h0 _;have hm:i.length*j.toNat<=4096*4096:=kQ (by lia) (by lia);have hz:=cb;unfold Builtin.Str.tooLong;exact cE (by lia)
 .by_cases h0:j<1
  .rw[bw h0];have e:s8 i j=Str.empty:=by unfold s8;rw[show j.toNat=0 by lia];rfl
   rw[e]at q;exact⟨by decide,⟨.str Str.empty,H,I.tok _,⟨_,rfl⟩,q⟩⟩
  .rw[bq h0];by_cases hj:(j==1||i.length==0)=true
   .rw[bw hj];have e:s8 i j=i:=by
     have MN:j=1\/i.length=0:=by simpa using hj
     unfold s8;rcases MN with z|z
     .subst z;show(⟨#[]++i.cps⟩:Str)=i;simp
     .have ec:i.cps=#[]:=Array.size_eq_zero_iff.mp z;have er:∀k:Nat,((List.replicate k (#[]:Array Nat)).foldl (·++·) #[]:Array Nat)=#[]:=by
       intro k;induction k with
       | zero=>rfl
       | succ k ih=>rw[dZ,dF];simpa using ih
      rw[ec,er,<-ec]
    rw[e]at q;exact⟨.str i,H,I,⟨t,rfl⟩,q⟩
   .rw[bq hj];refine⟨?_,⟨.str _,H,I.tok _,⟨_,rfl⟩,q⟩⟩;have hz:=cb;have hm:j.toNat*i.length<=4096*4096:=kQ (by lia) (by lia);show((List.replicate j.toNat i.cps).foldl (·++·) #[]:Array Nat).size<=_;rw[BE];have N8:j.toNat*i.cps.size<=4096*4096:=hm;lia
def R3(K:m9)(f:D->D->Mp->DK->Prop):R2:=λvx vy H Q'=>E2 λx y M Q=>n8 K H x vx/\n8 K H y vy/\HM K H M/\f x y M Q/\Up K H Q' Q
def LV(op:Operator):sf X (binaryOp op) (R3 X.K (KC op)):=by
 intro Mf s Y H vx vy v u Q' I rx ry h;obtain⟨x,y,M,Q,hx,hy,hm,q,k⟩:=h;unfold KC at q;split at q
 .cases hx.int_inv;cases hy.int_inv;exact Iv Mf s Y H _ _ v u Q' I rx ry ⟨_,_,rfl,rfl,k _ _ _ _ .int hm .refl q⟩
 .cases hx.str_inv;cases hy.str_inv;exact Ay Mf s Y H _ _ v u Q' I rx ry ⟨_,_,rfl,rfl,q.1,k _ _ _ _ .str hm .refl q.2⟩
 .rename_i i j;obtain⟨q1,q2,q3⟩:=q;obtain⟨a,xs,rfl,ha,Ox⟩:=hx.lw;obtain⟨b,ys,rfl,hb,Nr⟩:=hy.lw;have l1:=Ox.length;have l2:=Nr.length;refine GM Mf s Y H _ _ v u Q' I rx ry ⟨a,b,xs,ys,rfl,rfl,ha,hb,λz=>q1 (by rw[z]at l1;exact dY.mp l1),by lia,λz=>?_,λz p hp=>?_⟩
  .refine k _ _ _ _ (.tup ha ?_) hm .refl q3;rw[z]at Nr;have e0:j=[]:=dY.mp (by simpa using Nr.length);rw[e0,bY];exact Ox
  .have e:nF X.K H (upd H p (.tup (xs++ys))):=.new hp;exact k _ _ _ _ (.tup (.of m7) ((Ox.append Nr).mono e)) (hm.add hp) e q3
 .obtain⟨i,ei,q⟩:=nH q;obtain⟨j,ej,q1,q2⟩:=nH q;cases hx.lm;cases hy.lm;obtain⟨xs,rx',O6,_⟩:=mR hm ei;obtain⟨ys,ry',hys,_⟩:=mR hm ej;have l1:=O6.length;have l2:=hys.length;refine Bh Mf s Y H _ _ v u Q' I rx ry ⟨_,_,xs,ys,rfl,rfl,rx',ry',by lia,λp hp=>?_⟩;have e:nF X.K H (upd H p (.lst (xs++ys))):=.new hp;exact k _ _ _ _ .ref (hm.new (c:=.lst (i++j)) hp ⟨_,m7,(O6.append hys).mono e⟩) e (q2 p (hm.fresh hp))
 .obtain⟨j,ej,q1,q2⟩:=nH q;obtain⟨l,xs,rfl,rx',O6⟩:=hx.lF;cases hy.lm;obtain⟨ys,ry',hys,_⟩:=mR hm ej;have l1:=O6.length;have l2:=hys.length;refine Bh Mf s Y H _ _ v u Q' I rx ry ⟨_,_,xs,ys,rfl,rfl,rx'.sq,ry',by lia,λp hp=>?_⟩;have e:nF X.K H (upd H p (.lst (xs++ys))):=.new hp;exact k _ _ _ _ .ref (hm.new (c:=.lst (_++j)) hp ⟨_,m7,(O6.append hys).mono e⟩) e (q2 p (hm.fresh hp))
 .cases hx.int_inv;cases hy.int_inv;exact IW Mf s Y H _ _ v u Q' I rx ry ⟨_,_,rfl,rfl,k _ _ _ _ .int hm .refl q⟩
 .cases hx.int_inv;cases hy.int_inv;exact IR Mf s Y H _ _ v u Q' I rx ry ⟨_,_,rfl,rfl,q.1,k _ _ _ _ .int hm .refl q.2⟩
 .cases hx.str_inv;cases hy.int_inv;exact Gx Mf s Y H _ _ v u Q' I rx ry ⟨_,_,rfl,rfl,q.1,k _ _ _ _ .str hm .refl q.2⟩
 .cases hx.int_inv;cases hy.int_inv;exact GB Mf s Y H _ _ v u Q' I rx ry ⟨_,_,rfl,rfl,q.1,k _ _ _ _ .int hm .refl q.2⟩
 .cases hx.int_inv;cases hy.int_inv;exact IV Mf s Y H _ _ v u Q' I rx ry ⟨_,_,rfl,rfl,q.1,k _ _ _ _ .int hm .refl q.2⟩
 .exact q.elim
variable {a b:Expr}
def zb{f:D->D->Mp->DK->Prop}:∀Y H Q',lo X.K (λU M Q=>ta U M λx M1=>tb U M1 λy M2=>f x y M2 Q) Y H Q'->Ji (R3 X.K f) (lo X.K ta) (lo X.K tb) Y H Q':=λY H Q' zz=>x7 zz λU M Q hs hm ht k=>⟨U,M,_,hs,hm,ht,λv H1 x M1 hx Mh e1 q1=>⟨U,M1,_,hs.mono e1,Mh,q1,λu H2 y M2 hy Mz e2 q2=>⟨x,y,M2,Q,hx.mono e2,hy,Mz,q2,sH (e1.trans e2) k⟩⟩⟩
def m8{op:Operator}(ha:E3 X a ta)(hb:E3 X b tb):E3 X (.BinOp a op b pos) (o3 op ta tb):=PE.mono (Jz (LV op) ha hb) zb
end
noncomputable def og(f:D->D->Option Bool):T0 D->T0 D->Option Bool
 | x::a,y::b=>(f x y).bind λp=>(og f a b).map λq=>p&&q
 | _,_=>some true
noncomputable def sA(M:Mp):Nat->D->D->Option Bool
 | 0,_,_=>none
 | n+1,x,y=>match x,y with
  | .lB,.lB=>some true
  | .bl a,.bl b=>some (a==b)
  | .int a,.int b=>some (a==b)
  | .str a,.str b=>some (a==b)
  | .lB,.bl _=>some false
  | .lB,.int _=>some false
  | .lB,.str _=>some false
  | .bl _,.lB=>some false
  | .bl _,.str _=>some false
  | .int _,.lB=>some false
  | .int _,.str _=>some false
  | .str _,.lB=>some false
  | .str _,.bl _=>some false
  | .str _,.int _=>some false
  | .tup a,.tup b=>(og (sA M n) a b).map λp=>p&&a.length==b.length
  | .ref a,.ref b=>(ma M a).bind λi=>(ma M b).bind λj=>if i.length=j.length then og (sA M n) i j else some false
  | _,_=>none
variable {Mf:T0 (Addr × Obj)}{Y:St}{s:Sd}
theorem sV{f:D->D->Option Bool}:∀{ds es:T0 D} {xs:T0 V} {b:Bool},mS X.K H ds xs->mS X.K H es xs->(∀x y v b,n8 X.K H x v->n8 X.K H y v->f x y=some b->b=true)->og f ds es=some b->b=true
 | [],[],_,_,_,_,_,e=>(bJ e).symm
 | [],_::_,_,_,h,g,_,_=>by have h1:=h.length;have h2:=g.length;rw[<-h1]at h2;simp at h2
 | _::_,[],_,_,h,g,_,_=>by have h1:=h.length;have h2:=g.length;rw[<-h1]at h2;simp at h2
 | d::ds,e::es,xs,b,h,g,k,q=>by
  obtain⟨x,r,rfl,h1,h2⟩:=h.inv;obtain⟨x',r',e',g1,g2⟩:=g.inv;cases e';unfold og at q;cases p1:f d e with
  | none=>rw[p1]at q;cases q
  | some b1=>
   rw[p1]at q;cases p2:og f ds es with
   | none=>rw[p2]at q;cases q
   | some b2=>rw[p2]at q;have q':(b1&&b2)=b:=bJ q;rw[<-q',k _ _ _ _ h1 g1 p1,sV h2 g2 k p2];rfl
theorem tT(I:Inv X Mf Y H s)(hm:HM X.K H M):∀(n:Nat) (x y:D) (v:V) (b:Bool),n8 X.K H x v->n8 X.K H y v->sA M n x y=some b->b=true
 | 0,_,_,_,_,_,_,e=>by cases e
 | n+1,x,y,v,b,hx,hy,e=>by
  unfold sA at e;split at e
  .exact(bJ e).symm
  .rw[hx.lu]at hy;cases hy.lu;exact(bJ e).symm.trans (by simp)
  .rw[hx.int_inv]at hy;cases hy.int_inv;exact(bJ e).symm.trans (by simp)
  .rw[hx.str_inv]at hy;cases hy.str_inv;exact(bJ e).symm.trans (by simp)
  .rw[hx.lq]at hy;cases hy.lu
  .rw[hx.lq]at hy;cases hy.int_inv
  .rw[hx.lq]at hy;cases hy.str_inv
  .rw[hx.lu]at hy;cases hy.lq
  .rw[hx.lu]at hy;cases hy.str_inv
  .rw[hx.int_inv]at hy;cases hy.lq
  .rw[hx.int_inv]at hy;cases hy.str_inv
  .rw[hx.str_inv]at hy;cases hy.lq
  .rw[hx.str_inv]at hy;cases hy.lu
  .rw[hx.str_inv]at hy;cases hy.int_inv
  .obtain⟨a,xs,rfl,h1,h2⟩:=hx.lw;obtain⟨a',ys,e',g1,g2⟩:=hy.lw;cases e';rw[I.lH g1 h1]at g2;cases p:og (sA M n) _ _ with
   | none=>rw[p]at e;cases e
   | some b1=>rw[p]at e;have e':=bJ e;rw[<-e',sV h2 g2 (tT I hm n) p,h2.length,g2.length];simp
  .rw[hx.lm]at hy;cases hy.lm;cases p:ma M _ with
   | none=>rw[p]at e;cases e
   | some i=>rw[p]at e;have e:(if i.length=i.length then og (sA M n) i i else some false)=some b:=e;rw[bw rfl]at e;obtain⟨xs,_,h2,_⟩:=mR hm p;exact sV h2 h2 (tT I hm n) e
  .cases e
theorem vG{f:D->D->Option Bool}{A:Ar}:∀{ds es:T0 D} {xs ys:T0 V} {us ws:T0 Vl} {b:Bool},og f ds es=some b->mS X.K H ds xs->mS X.K H es ys->nv xs us->nv ys ws->
  (∀x y b vx vy u w,f x y=some b->n8 X.K H x vx->n8 X.K H y vy->nK vx u->nK vy w->SeqAt.EqAt A s u w b)->
  ∃e:Nat->Bool,(∀j (h1:j<us.length) (h2:j<ws.length),SeqAt.EqAt A s us[j] ws[j] (e j))/\(List.range (min us.length ws.length)).all e=b
 | [],es,xs,ys,us,ws,b,q,hx,hy,rx,ry,k=>by
  have e1:=hx.nil_inv;subst e1;cases rx;refine⟨λ_=>true,λj h1=>absurd h1 (by simp),?_⟩;have q':some true=some b:=by cases es<;>exact q
  simpa using(bJ q')
 | d::ds,[],xs,ys,us,ws,b,q,hx,hy,rx,ry,k=>by
  have e1:=hy.nil_inv;subst e1;cases ry;refine⟨λ_=>true,λj _ h2=>absurd h2 (by simp),?_⟩;have q':some true=some b:=q
  simpa using(bJ q')
 | d::ds,e::es,xs,ys,us,ws,b,q,hx,hy,rx,ry,k=>by
  obtain⟨x,r,rfl,h1,h2⟩:=hx.inv;obtain⟨y,r',rfl,g1,g2⟩:=hy.inv;cases rx with
  | cons r1 r2=>
   cases ry with
   | cons t1 t2=>
    unfold og at q;cases p1:f d e with
    | none=>rw[p1]at q;cases q
    | some b1=>
     rw[p1]at q;cases p2:og f ds es with
     | none=>rw[p2]at q;cases q
     | some b2=>
      rw[p2]at q;have q':(b1&&b2)=b:=bJ q;obtain⟨e',he,ha⟩:=vG p2 h2 g2 r2 t2 k;refine⟨λj=>match j with|0=>b1|j+1=>e' j,λj l1 l2=>?_,?_⟩
      .cases j with
       | zero=>exact k _ _ _ _ _ _ _ p1 h1 g1 r1 t1
       | succ j=>exact he j (by simpa using l1) (by simpa using l2)
      .rw[<-q',<-ha];simp only[bT];rw[Nat.succ_min_succ,List.range_succ_eq_map,fO,fX];rfl
theorem vK(I:Inv X Mf Y H s)(hm:HM X.K H M):∀(n:Nat) (A:Ar) (x y:D) (b:Bool) (vx vy:V) (u w:Vl),A.units+n<cLine->sA M n x y=some b->n8 X.K H x vx->n8 X.K H y vy->nK vx u->nK vy w->
  SeqAt.RcAt A s u w b/\SeqAt.EqAt A s u w b/\SeqAt.RcNeAt A s u w (!b)
 | 0,_,_,_,_,_,_,_,_,_,e,_,_,_,_=>by cases e
 | n+1,A,x,y,b,vx,vy,u,w,hu,e,hx,hy,rx,ry=>by
  have hu1:A.units<cLine:=by lia
  have hui:A.in1.units+n<cLine:=by show A.units+1+n<cLine;lia
  unfold sA at e;split at e
  .cases hx.lq;cases hy.lq;cases rx;cases ry;cases e;exact⟨.none_none,.same _,.none_none⟩
  .cases hx.lu;cases hy.lu;cases rx;cases ry;cases e;exact⟨.bool_bool _ _,.bool_bool _ _,.bool_bool _ _⟩
  .cases hx.int_inv;cases hy.int_inv;obtain⟨t,rfl⟩:=rx;obtain⟨t',rfl⟩:=ry;cases e;exact⟨.int_int _ _ _ _,.int_int _ _ _ _,.int_int _ _ _ _⟩
  .cases hx.str_inv;cases hy.str_inv;obtain⟨t,rfl⟩:=rx;obtain⟨t',rfl⟩:=ry;cases e;exact⟨.str_str _ _ _ _,.str_str _ _ _ _,.str_str _ _ _ _⟩
  .cases hx.lq;cases hy.lu;cases rx;cases ry;cases e;exact⟨.none_bool _,.none_bool _,.none_bool _⟩
  .cases hx.lq;cases hy.int_inv;cases rx;obtain⟨t',rfl⟩:=ry;cases e;exact⟨.none_int _ _,.none_int _ _,.none_int _ _⟩
  .cases hx.lq;cases hy.str_inv;cases rx;obtain⟨t',rfl⟩:=ry;cases e;exact⟨.none_str _ _,.none_str _ _,.none_str _ _⟩
  .cases hx.lu;cases hy.lq;cases rx;cases ry;cases e;exact⟨.bool_none _,.bool_none _,.bool_none _⟩
  .cases hx.lu;cases hy.str_inv;cases rx;obtain⟨t',rfl⟩:=ry;cases e;exact⟨.bool_str _ _ _,.bool_str _ _ _,.bool_str _ _ _⟩
  .cases hx.int_inv;cases hy.lq;obtain⟨t,rfl⟩:=rx;cases ry;cases e;exact⟨.int_none _ _,.int_none _ _,.int_none _ _⟩
  .cases hx.int_inv;cases hy.str_inv;obtain⟨t,rfl⟩:=rx;obtain⟨t',rfl⟩:=ry;cases e;exact⟨.int_str _ _ _ _,.int_str _ _ _ _,.int_str _ _ _ _⟩
  .cases hx.str_inv;cases hy.lq;obtain⟨t,rfl⟩:=rx;cases ry;cases e;exact⟨.str_none _ _,.str_none _ _,.str_none _ _⟩
  .cases hx.str_inv;cases hy.lu;obtain⟨t,rfl⟩:=rx;cases ry;cases e;exact⟨.str_bool _ _ _,.str_bool _ _ _,.str_bool _ _ _⟩
  .cases hx.str_inv;cases hy.int_inv;obtain⟨t,rfl⟩:=rx;obtain⟨t',rfl⟩:=ry;cases e;exact⟨.str_int _ _ _ _,.str_int _ _ _ _,.str_int _ _ _ _⟩
  .rename_i da db;obtain⟨a1,xs,rfl,h1,h2⟩:=hx.lw;obtain⟨a2,ys,rfl,g1,g2⟩:=hy.lw;cases rx;cases ry;obtain⟨us,r1,p1,_⟩:=I.tuple h1;obtain⟨ws,r2,p2,_⟩:=I.tuple g1;cases p:og (sA M n) da db with
   | none=>rw[p]at e;cases e
   | some b1=>
    have e0:=e;rw[p]at e;have e':(b1&&da.length==db.length)=b:=bJ e;obtain⟨f,hf,ha⟩:=vG (A:=A.in1) (s:=s) p h2 g2 r1 r2 λx y b vx vy u w q1 q2 q3 q4 q5=>(vK I hm n A.in1 x y b vx vy u w hui q1 q2 q3 q4 q5).2.1;have hb:((List.range (min us.toArray.size ws.toArray.size)).all f&&us.toArray.size==ws.toArray.size)=b:=by rw[bA,bA,ha,<-e',<-r1.length,<-r2.length,h2.length,g2.length]
    have hf':∀j (l1:j<us.toArray.size) (l2:j<ws.toArray.size),SeqAt.EqAt A.in1 s us.toArray[j] ws.toArray[j] (f j):=λj l1 l2=>by simpa using hf j (by simpa using l1) (by simpa using l2)
    have c1:SeqAt.RcAt A s (.ref a1) (.ref a2) b:=by rw[<-hb];exact .tuples p1 p2 hu1 hf'
    have c3:SeqAt.RcNeAt A s (.ref a1) (.ref a2) (!b):=by have:=SeqAt.RcNeAt.tuples p1 p2 hu1 hf';rw[hb]at this;exact this
    refine⟨c1,?_,c3⟩;by_cases ea:a1=a2
    .subst ea;have:b=true:=tT I hm (n+1) (.tup da) (.tup db) (.ref a1) b hx hy (by unfold sA;exact e0);rw[this];exact .same _
    .exact .of_refs ea c1
  .cases hx.lm;cases hy.lm;cases rx;cases ry;rename_i a1 a2;have e0:=e;cases p:ma M a1 with
   | none=>rw[p]at e;cases e
   | some i=>
    cases p':ma M a2 with
    | none=>rw[p,p']at e;cases e
    | some j=>
     rw[p,p']at e;have e:(if i.length=j.length then og (sA M n) i j else some false)=some b:=e;obtain⟨xs,q1,h2,_⟩:=mR hm p;obtain⟨ys,q2,g2,_⟩:=mR hm p';obtain⟨us,r1,p1,_⟩:=I.list q1;obtain⟨ws,r2,p2,_⟩:=I.list q2;have fin:SeqAt.RcAt A s (.ref a1) (.ref a2) b/\SeqAt.RcNeAt A s (.ref a1) (.ref a2) (!b):=by
      by_cases hl:i.length=j.length
      .rw[bw hl]at e;obtain⟨f,hf,ha⟩:=vG (A:=A.in1) (s:=s) e h2 g2 r1 r2 λx y b vx vy u w q1 q2 q3 q4 q5=>(vK I hm n A.in1 x y b vx vy u w hui q1 q2 q3 q4 q5).2.1;have hsz:us.toArray.size=ws.toArray.size:=by rw[bA,bA,<-r1.length,<-r2.length,<-h2.length,<-g2.length];exact hl
       have hf':∀j (l1:j<us.toArray.size) (l2:j<ws.toArray.size),SeqAt.EqAt A.in1 s us.toArray[j] ws.toArray[j] (f j):=λj l1 l2=>by simpa using hf j (by simpa using l1) (by simpa using l2)
       have hb:(List.range us.toArray.size).all f=b:=by rw[<-ha];rw[bA,bA]at hsz;rw[bA,<-hsz,k7]
       rw[<-hb];exact⟨.lists p1.isList p2.isList hsz hu1 hf',.lists p1.isList p2.isList hsz hu1 hf'⟩
      .rw[bq hl]at e;cases e;have hsz:(us.toArray.size != ws.toArray.size)=true:=by
        rw[bA,bA,<-r1.length,<-r2.length,<-h2.length,<-g2.length]
        simpa using hl
       exact⟨.lists_lengths p1.isList p2.isList hsz hu1,.lists_lengths p1.isList p2.isList hsz hu1⟩
     refine⟨fin.1,?_,fin.2⟩;by_cases ea:a1=a2
     .subst ea;have:b=true:=tT I hm (n+1) (.ref a1) (.ref a1) (.ref a1) b .ref .ref (by unfold sA;exact e0);rw[this];exact .same _
     .exact .of_refs ea fin.1
  .cases e
noncomputable def rF:D->Bool
 | .lB=>true
 | .bl _=>true
 | .int _=>true
 | .str _=>true
 | _=>false
noncomputable def Le:D->D->Bool
 | .lB,.lB=>true
 | .bl a,.bl b=>a==b
 | .bl a,.int b=>(if a then 1 else 0)==b
 | .int a,.bl b=>a==(if b then 1 else 0)
 | .int a,.int b=>a==b
 | .str a,.str b=>a==b
 | _,_=>false
noncomputable def inD(x:D)(ds:T0 D):Bool:=ds.any λy=>Le y x
noncomputable def Ab(M:Mp):D->Option (T0 D)
 | .tup ds=>some ds
 | .ref a=>ma M a
 | .rl ds=>some ds
 | _=>none
noncomputable def wy(i j:Str):Bool:=!(Builtin.Str.occurrences j i 0 j.length 1).isEmpty
def Jc(OM:Bool)(x y:D)(M:Mp)(Q:DK):Prop:=match x,y with
 | .str i,.str j=>Q (.bl (if OM then !wy i j else wy i j)) M
 | _,_=>(Ab M y).elim False λds=>rF x=true/\ds.all rF=true/\Q (.bl (if OM then !inD x ds else inD x ds)) M
def GP(op:CmpOp)(x y:D)(M:Mp)(Q:DK):Prop:=match op with
 | .Eq=>(sA M 9 x y).elim False λb=>Q (.bl b) M
 | .NotEq=>(sA M 9 x y).elim False λb=>Q (.bl (!b)) M
 | .Lt=>match x,y with|.int i,.int j=>Q (.bl (decide (i<j))) M|_,_=>False
 | .LtE=>match x,y with|.int i,.int j=>Q (.bl (decide (i<=j))) M|_,_=>False
 | .Gt=>match x,y with|.int i,.int j=>Q (.bl (decide (j<i))) M|_,_=>False
 | .GtE=>match x,y with|.int i,.int j=>Q (.bl (decide (j<=i))) M|_,_=>False
 | .Is=>match y with|.lB=>Q (.bl (match x with|.lB=>true|_=>false)) M|_=>False
 | .IsNot=>match y with|.lB=>Q (.bl (match x with|.lB=>false|_=>true)) M|_=>False
 | .In=>Jc false x y M Q
 | .NotIn=>Jc true x y M Q
def k3(op:CmpOp)(ta tb:T3):T3:=λU M Q=>ta U M λx M1=>tb U M1 λy M2=>GP op x y M2 Q
def zM{d:D}{v:V}(h:n8 K H d v)(f:rF d=true):sC v=true:=by
 cases d with
 | lB=>rw[h.lq];rfl
 | bl _=>rw[h.lu];rfl
 | int _=>rw[h.int_inv];rfl
 | str _=>rw[h.str_inv];rfl
 | _=>cases f
def Gg{d e:D}{v w:V}(h:n8 K H d v)(g:n8 K H e w)(f:rF d=true)(f':rF e=true):EY v w=Le d e:=by
 cases d with
 | lB=>
  rw[h.lq];cases e with
  | lB=>rw[g.lq];rfl
  | bl _=>rw[g.lu];rfl
  | int _=>rw[g.int_inv];rfl
  | str _=>rw[g.str_inv];rfl
  | _=>cases f'
 | bl _=>
  rw[h.lu];cases e with
  | lB=>rw[g.lq];rfl
  | bl _=>rw[g.lu];rfl
  | int _=>rw[g.int_inv];rfl
  | str _=>rw[g.str_inv];rfl
  | _=>cases f'
 | int _=>
  rw[h.int_inv];cases e with
  | lB=>rw[g.lq];rfl
  | bl _=>rw[g.lu];rfl
  | int _=>rw[g.int_inv];rfl
  | str _=>rw[g.str_inv];rfl
  | _=>cases f'
 | str _=>
  rw[h.str_inv];cases e with
  | lB=>rw[g.lq];rfl
  | bl _=>rw[g.lu];rfl
  | int _=>rw[g.int_inv];rfl
  | str _=>rw[g.str_inv];rfl
  | _=>cases f'
 | _=>cases f
theorem Bw:∀{ds:T0 D} {xs:T0 V},mS K H ds xs->ds.all rF=true->xs.all sC=true
 | [],_,h,_=>by rw[h.nil_inv];rfl
 | d::ds,_,h,f=>by obtain⟨x,r,rfl,h1,h2⟩:=h.inv;rw[fO,cO]at f ⊢;exact⟨zM h1 f.1,Bw h2 f.2⟩
theorem D0{e:D}{w:V}(g:n8 K H e w)(f':rF e=true):∀{ds:T0 D} {xs:T0 V},mS K H ds xs->ds.all rF=true->inV w xs=inD e ds
 | [],_,h,_=>by rw[h.nil_inv];rfl
 | d::ds,_,h,f=>by obtain⟨x,r,rfl,h1,h2⟩:=h.inv;rw[fO,cO]at f;show(EY x w||inV w r)=(Le d e||inD e ds);rw[Gg h1 g f.1 f',D0 g f' h2 f.2]
def u6(hm:HM K H M){y:D}{v:V}{ds:T0 D}(h:n8 K H y v)(q:Ab M y=some ds):∃p xs,v=.ref p/\(rA K H p xs\/p9 K H p xs)/\mS K H ds xs:=by
 cases y with
 | tup es=>cases q;obtain⟨a,xs,rfl,h1,h2⟩:=h.lw;exact⟨a,xs,rfl,.inr h1,h2⟩
 | ref a=>cases h.lm;obtain⟨xs,h1,h2,_⟩:=mR hm q;exact⟨a,xs,rfl,.inl h1,h2⟩
 | rl es=>cases q;obtain⟨a,xs,rfl,h1,h2⟩:=h.lF;exact⟨a,xs,rfl,.inl h1.sq,h2⟩
 | _=>cases q
variable {c:Expr}{tc:T3}
section
def BV(op:CmpOp)(hu:X.A.units+9<cLine):sf X (compareOp op) (R3 X.K (GP op)):=by
 intro Mf s Y H vx vy v u Q' I rx ry h;obtain⟨x,y,M,Q,hx,hy,hm,q,k⟩:=h;have bk:∀b,Q (.bl b) M->EP X Mf Y Q' (.bool b) s:=λb q=>⟨.bl b,H,I,rfl,k _ _ _ _ .bl hm .refl q⟩;have inn:∀OM:Bool,((Ab M y).elim False λds=>rF x=true/\ds.all rF=true/\Q (.bl (if OM then !inD x ds else inD x ds)) M)->KL X.K OM vx vy H Q':=λOM q=>by obtain⟨ds,e,f1,f2,q⟩:=nH q;obtain⟨p,xs,rfl,h1,h2⟩:=u6 hm hy e;refine⟨p,xs,rfl,h1,zM hx f1,Bw h2 f2,?_⟩;rw[D0 hx f1 h2 f2];exact k _ _ _ _ .bl hm .refl q
 cases op with
 | Eq=>obtain⟨b,e,q⟩:=nH q;exact(vK I hm 9 X.A x y b vx vy v u hu e hx hy rx ry).1 _ _ _ _ (bk b q)
 | NotEq=>obtain⟨b,e,q⟩:=nH q;exact(vK I hm 9 X.A x y b vx vy v u hu e hx hy rx ry).2.2 _ _ _ _ (bk _ q)
 | Lt=>
  cases x<;>first|exact q.elim|skip
  cases y<;>first|exact q.elim|skip
  cases hx.int_inv;cases hy.int_inv;exact JI Mf s Y H _ _ v u Q' I rx ry ⟨_,_,rfl,rfl,k _ _ _ _ .bl hm .refl q⟩
 | LtE=>
  cases x<;>first|exact q.elim|skip
  cases y<;>first|exact q.elim|skip
  cases hx.int_inv;cases hy.int_inv;exact Kd Mf s Y H _ _ v u Q' I rx ry ⟨_,_,rfl,rfl,k _ _ _ _ .bl hm .refl q⟩
 | Gt=>
  cases x<;>first|exact q.elim|skip
  cases y<;>first|exact q.elim|skip
  cases hx.int_inv;cases hy.int_inv;exact Jl Mf s Y H _ _ v u Q' I rx ry ⟨_,_,rfl,rfl,k _ _ _ _ .bl hm .refl q⟩
 | GtE=>
  cases x<;>first|exact q.elim|skip
  cases y<;>first|exact q.elim|skip
  cases hx.int_inv;cases hy.int_inv;exact Jp Mf s Y H _ _ v u Q' I rx ry ⟨_,_,rfl,rfl,k _ _ _ _ .bl hm .refl q⟩
 | Is=>
  cases y<;>first|exact q.elim|skip
  cases hy.lq;refine HL Mf s Y H _ _ v u Q' I rx ry ⟨rfl,k _ _ _ _ ?_ hm .refl q⟩;cases x with
  | lB=>rw[hx.lq];exact .bl
  | bl _=>rw[hx.lu];exact .bl
  | int _=>rw[hx.int_inv];exact .bl
  | str _=>rw[hx.str_inv];exact .bl
  | tup _=>obtain⟨a,xs,rfl,_⟩:=hx.lw;exact .bl
  | ref _=>rw[hx.lm];exact .bl
  | ty _=>rw[hx.lV];exact .bl
  | rl _=>obtain⟨a,xs,rfl,_⟩:=hx.lF;exact .bl
 | IsNot=>
  cases y<;>first|exact q.elim|skip
  cases hy.lq;refine Fp Mf s Y H _ _ v u Q' I rx ry ⟨rfl,k _ _ _ _ ?_ hm .refl q⟩;cases x with
  | lB=>rw[hx.lq];exact .bl
  | bl _=>rw[hx.lu];exact .bl
  | int _=>rw[hx.int_inv];exact .bl
  | str _=>rw[hx.str_inv];exact .bl
  | tup _=>obtain⟨a,xs,rfl,_⟩:=hx.lw;exact .bl
  | ref _=>rw[hx.lm];exact .bl
  | ty _=>rw[hx.lV];exact .bl
  | rl _=>obtain⟨a,xs,rfl,_⟩:=hx.lF;exact .bl
 | In=>
  have q:Jc false x y M Q:=q;unfold Jc at q;split at q
  .cases hx.str_inv;cases hy.str_inv;exact CS Mf s Y H _ _ v u Q' I rx ry ⟨_,_,rfl,rfl,k _ _ _ _ .bl hm .refl q⟩
  .exact Cd Mf s Y H _ _ v u Q' I rx ry (inn false q)
 | NotIn=>
  have q:Jc true x y M Q:=q;unfold Jc at q;split at q
  .cases hx.str_inv;cases hy.str_inv;exact xT Mf s Y H _ _ v u Q' I rx ry ⟨_,_,rfl,rfl,k _ _ _ _ .bl hm .refl q⟩
  .exact yz Mf s Y H _ _ v u Q' I rx ry (inn true q)
variable {a b:Expr}
def pN{op:CmpOp}(hu:X.A.units+9<cLine)(ha:E3 X a ta)(hb:E3 X b tb)(hm:behindInMarks op b=false:=by first|exact xW _|with_unfolding_all rfl):E3 X (.Compare a [op] [b] pos) (k3 op ta tb):=PE.mono (yf (BV op hu) ha hb hm) zb
def b3(t:T3):wu:=λU M Q=>t U M λd M1=>match d with|.bl c=>Q c M1|_=>False
def wX{e:Expr}{t:T3}(h:E3 X e t)(he:∀MF,isTrue e X.env MF=(do let v<-MF;standAt e.pos;holding [v] (truthy v)):=by intro _;rfl):B3 X e (b3 t):=PT.mono (HU h he) λY H Q' zz=>x7 zz λU M Q hs hm ht k=>
 ⟨U,M,_,hs,hm,ht,λv H1 d M1 hd Mh e1 q1=>by
  cases d with
  | bl c=>exact⟨c,hd.lu,k c H1 M1 Mh e1 q1⟩
  | _=>exact q1.elim⟩
def nI{op:CmpOp}(hu:X.A.units+9<cLine)(ha:E3 X a ta)(hb:E3 X b tb)(hm:behindInMarks op b=false:=by first|exact xW _|with_unfolding_all rfl):B3 X (.Compare a [op] [b] pos) (b3 (k3 op ta tb)):=PT.mono (Ba (BV op hu) ha hb hm) λY H Q' zz=>x7 zz λU M Q hs hm ht k=>
 zb Y H _ ⟨U,M,_,hs,hm,ht,λv H1 d M1 hd Mh e1 q1=>by
  cases d with
  | bl c=>exact⟨c,hd.lu,k c H1 M1 Mh e1 q1⟩
  | _=>exact q1.elim⟩
end
variable {tA tB:wu}{Mn:T0 Expr}
section
variable {a b:Expr}
def KG(t u:wu):wu:=λU M Q=>t U M λc M1=>if c=true then u U M1 Q else Q false M1
def L1(t u:wu):wu:=λU M Q=>t U M λc M1=>if c=true then Q true M1 else u U M1 Q
def Kz(t:wu):wu:=λU M Q=>t U M λc M1=>Q (!c) M1
def W3(X:Cx)(e:Expr)(t:wu):Prop:=PW X e (Jb X.K t)
def PW.mono{X:Cx}{e:Expr}{t t':TT}(h:PW X e t)(m:∀Y H Q,t' Y H Q->t Y H Q):PW X e t':=λwh Mf s Y H Q I q=>h wh Mf s Y H Q I (m Y H Q q)
def W3.b3{e:Expr}{t:wu}(h:W3 X e t):B3 X e t:=PW.pt h
def vc(h:B3 X a tA):W3 X (.BoolOp .And [a] pos) tA:=Fz h
def HC(h:B3 X a tA):W3 X (.BoolOp .Or [a] pos) tA:=Ip h
def yk(ha:B3 X a tA)(hb:W3 X (.BoolOp .And (b::Mn) pos) tB):W3 X (.BoolOp .And (a::b::Mn) pos) (KG tA tB):=PW.mono (IC ha hb) λY H Q' zz=>x7 zz λU M Q hs hm ht k=>
 ⟨U,M,_,hs,hm,ht,λc H1 M1 Mh e1 q1=>by
  cases c with
  | true=>exact(bw rfl).mpr ⟨U,M1,Q,hs.mono e1,Mh,(bw rfl).mp q1,λb H' M' x1 x2 x3=>k b H' M' x1 (e1.trans x2) x3⟩
  | false=>exact(bq bN).mpr (k false H1 M1 Mh e1 ((bq bN).mp q1))⟩
def GV(ha:B3 X a tA)(hb:W3 X (.BoolOp .Or (b::Mn) pos) tB):W3 X (.BoolOp .Or (a::b::Mn) pos) (L1 tA tB):=PW.mono (J2 ha hb) λY H Q' zz=>x7 zz λU M Q hs hm ht k=>
 ⟨U,M,_,hs,hm,ht,λc H1 M1 Mh e1 q1=>by
  cases c with
  | true=>exact(bw rfl).mpr (k true H1 M1 Mh e1 ((bw rfl).mp q1))
  | false=>exact(bq bN).mpr ⟨U,M1,Q,hs.mono e1,Mh,(bq bN).mp q1,λb H' M' x1 x2 x3=>k b H' M' x1 (e1.trans x2) x3⟩⟩
def AM(ha:B3 X a tA):B3 X (.UnaryOp .Not a pos) (Kz tA):=PT.mono (HV ha) λY H Q' zz=>x7 zz λU M Q hs hm ht k=>⟨U,M,_,hs,hm,ht,λc H1 M1 Mh e1 q1=>k _ H1 M1 Mh e1 q1⟩
def JJ(ta tb:T3):T3:=λU M Q=>ta U M λd M1=>match d with|.bl c=>if c=true then tb U M1 Q else Q (.bl false) M1|_=>False
def Ap{op}(h:E3 X a ta):E3 X (.BoolOp op [a] pos) ta:=Hn h
def xQ(ha:E3 X a ta)(hb:E3 X (.BoolOp .And (b::Mn) pos) tb):E3 X (.BoolOp .And (a::b::Mn) pos) (JJ ta tb):=PE.mono (Ih ha hb) λY H Q' zz=>x7 zz λU M Q hs hm ht k=>
 ⟨U,M,_,hs,hm,ht,λv H1 d M1 hd Mh e1 q1=>by
  cases d with
  | bl c=>
   refine⟨c,hd.lu,?_⟩;cases c with
   | true=>exact(bw rfl).mpr ⟨U,M1,Q,hs.mono e1,Mh,(bw rfl).mp q1,sH e1 k⟩
   | false=>exact(bq bN).mpr (k _ H1 _ M1 .bl Mh e1 ((bq bN).mp q1))
  | _=>exact q1.elim⟩
def K8(x y:D)(M:Mp)(Q:DK):Prop:=match x,y with
 | .tup ds,.int i=>(tE ds i).elim False λd=>Q d M
 | .ref a,.int i=>(ma M a).elim False λds=>(tE ds i).elim False λd=>Q d M
 | .rl ds,.int i=>(tE ds i).elim False λd=>Q d M
 | .str z,.int i=>z.length<=sizeLine/\(tE z.cps.toList i).elim False λc=>Q (.str ⟨#[c]⟩) M
 | _,_=>False
def i3(ta tb:T3):T3:=λU M Q=>ta U M λx M1=>tb U M1 λy M2=>K8 x y M2 Q
def ye{K:m9}{H:Hp}{ds:T0 D}{xs:T0 V}{i:Int}{d:D}(h:mS K H ds xs)(e:tE ds i=some d):∃v,tE xs i=some v/\n8 K H d v:=by
 unfold tE at e ⊢;rw[<-h.length];cases q:GU ds.length i with
 | none=>rw[q]at e;cases e
 | some j=>rw[q]at e;exact h.get e
def L':Jg X (R3 X.K K8):=by
 intro value Mo Mf s Y H vx vy v u Q' I rx ry h hs;obtain⟨x,y,M,Q,hx,hy,hm,q,k⟩:=h;unfold K8 at q;split at q
 .obtain⟨d,e,q⟩:=nH q;obtain⟨p,xs,rfl,h1,h2⟩:=hx.lw;cases hy.int_inv;obtain⟨w,e1,e2⟩:=ye h2 e;exact IQ value Mo Mf s Y H _ _ v u Q' I rx ry ⟨p,xs,_,w,rfl,rfl,h1,e1,k _ _ _ _ e2 hm .refl q⟩ hs
 .obtain⟨ds,e0,q⟩:=nH q;obtain⟨d,e,q⟩:=nH q;cases hx.lm;cases hy.int_inv;obtain⟨xs,h1,h2,_⟩:=mR hm e0;obtain⟨w,e1,e2⟩:=ye h2 e;exact Br value Mo Mf s Y H _ _ v u Q' I rx ry ⟨_,xs,_,w,rfl,rfl,h1,e1,k _ _ _ _ e2 hm .refl q⟩ hs
 .obtain⟨d,e,q⟩:=nH q;obtain⟨p,xs,rfl,h1,h2⟩:=hx.lF;cases hy.int_inv;obtain⟨w,e1,e2⟩:=ye h2 e;exact Br value Mo Mf s Y H _ _ v u Q' I rx ry ⟨p,xs,_,w,rfl,rfl,h1.sq,e1,k _ _ _ _ e2 hm .refl q⟩ hs
 .obtain⟨q1,q⟩:=q;obtain⟨c,e,q⟩:=nH q;cases hx.str_inv;cases hy.int_inv;exact Ik value Mo Mf s Y H _ _ v u Q' I rx ry ⟨_,_,c,rfl,rfl,q1,e,k _ _ _ _ .str hm .refl q⟩ hs
 .exact q.elim
def nj(ha:E3 X a ta)(hb:E3 X b tb)(hs:tJ b:=by exact λ_ _=>rfl):E3 X (.Subscript a b pos) (i3 ta tb):=PE.mono (Bg L' ha hb hs) zb
noncomputable def qM(ds:T0 D)(lo hi:Option Int):T0 D:=(ds.drop (HT.oV ds.length 0 lo)).take (HT.oV ds.length ds.length hi - HT.oV ds.length 0 lo)
def yw{K:m9}{H:Hp}{ds:T0 D}{xs:T0 V}{l h:Option Int}(q:mS K H ds xs):mS K H (qM ds l h) (vV xs l h):=by unfold qM vV;rw[q.length];exact(q.drop _).take _
abbrev Je:=qz->Mp->(Option Int->Mp->Prop)->Prop
def Md(K:m9)(t:Je):TO:=λY H Q'=>A9 λU M Q=>uE K H Y U/\HM K H M/\t U M Q/\∀o H' M',HM K H' M'->nF K H H'->Q o M'->Q' o H'
def O3(X:Cx)(e:Option Expr)(t:Je):Prop:=PO X e (Md X.K t)
def Gw:Je:=λ_ M Q=>Q none M
def JV(t:T3):Je:=λU M Q=>t U M λd M1=>match d with|.int i=>Q (some i) M1|_=>False
def PO.mono{X:Cx}{e:Option Expr}{t t':TO}(h:PO X e t)(m:∀Y H Q,t' Y H Q->t Y H Q):PO X e t':=λMf s Y H Q I q=>h Mf s Y H Q I (m Y H Q q)
def tQ:O3 X none Gw:=PO.mono Ft λY H Q' zz=>x7 zz λU M Q hs hm ht k=>k none H M hm .refl ht
def tG{e:Expr}{t:T3}(h:E3 X e t):O3 X (some e) (JV t):=PO.mono (Gb h) λY H Q' zz=>x7 zz λU M Q hs hm ht k=>
 ⟨U,M,_,hs,hm,ht,λv H1 d M1 hd Mh e1 q1=>by
  cases d with
  | int i=>exact⟨i,hd.int_inv,k (some i) H1 M1 Mh e1 q1⟩
  | _=>exact q1.elim⟩
def LI(x:D)(lo hi:Option Int)(M:Mp)(Q:DK):Prop:=match x with
 | .tup ds=>Q (.tup (qM ds lo hi)) M
 | .ref a=>(ma M a).elim False λds=>∀p,M p=none->Q (.ref p) (mL M p (.lst (qM ds lo hi)))
 | .rl ds=>∀p,M p=none->Q (.ref p) (mL M p (.lst (qM ds lo hi)))
 | _=>False
def s3(te:T3)(tl th:Je):T3:=λU M Q=>te U M λx M1=>tl U M1 λl M2=>th U M2 λu M3=>LI x l u M3 Q
def Ld(K:m9):V->Option Int->Option Int->Hp->VK->Prop:=λvx l u H Q'=>A9 λx M Q=>n8 K H x vx/\HM K H M/\LI x l u M Q/\Up K H Q' Q
def Fb{ds:T0 D}{lo hi:Option Int}(h:HT.oV ds.length 0 lo=0/\HT.oV ds.length ds.length hi=ds.length):qM ds lo hi=ds:=by unfold qM;rw[h.1,h.2,kR,Nat.sub_zero,dq]
def LZ:Jj X (Ld X.K):=by
 intro Mf s Y H vx v vl vu l u sl Q' I rx hsl pl pu h;obtain⟨x,M,Q,hx,hm,q,k⟩:=h;cases x with
 | tup ds=>
  have q2:Q (.tup (qM ds l u)) M:=q;obtain⟨a,xs,rfl,h1,h2⟩:=hx.lw;by_cases q1:HT.oV ds.length 0 l=0/\HT.oV ds.length ds.length u=ds.length
  .rw[Fb q1]at q2;exact IE Mf s Y H _ v vl vu l u sl Q' I rx hsl pl pu ⟨a,xs,rfl,h1,by rw[<-h2.length];exact q1,k _ _ _ _ hx hm .refl q2⟩
  refine H9 Mf s Y H _ v vl vu l u sl Q' I rx hsl pl pu ⟨a,xs,rfl,h1,by rw[<-h2.length];exact q1,λp hp=>?_⟩;have e:nF X.K H (upd H p (.tup (vV xs l u))):=.new hp;exact k _ _ _ _ (.tup (.of m7) ((yw h2).mono e)) (hm.add hp) e q2
 | ref a=>obtain⟨ds,e0,q⟩:=nH q;cases hx.lm;obtain⟨xs,h1,h2,_⟩:=mR hm e0;refine Bk Mf s Y H _ v vl vu l u sl Q' I rx hsl pl pu ⟨a,xs,rfl,h1,λp hp=>?_⟩;have e:nF X.K H (upd H p (.lst (vV xs l u))):=.new hp;exact k _ _ _ _ .ref (hm.new (c:=.lst (qM ds l u)) hp ⟨_,m7,(yw h2).mono e⟩) e (q p (hm.fresh hp))
 | rl ds=>obtain⟨a,xs,rfl,h1,h2⟩:=hx.lF;refine Bk Mf s Y H _ v vl vu l u sl Q' I rx hsl pl pu ⟨a,xs,rfl,h1.sq,λp hp=>?_⟩;have e:nF X.K H (upd H p (.lst (vV xs l u))):=.new hp;exact k _ _ _ _ .ref (hm.new (c:=.lst (qM ds l u)) hp ⟨_,m7,(yw h2).mono e⟩) e (q p (hm.fresh hp))
 | _=>exact q.elim
def rM{e:Expr}{te:T3}{lo hi:Option Expr}{tl th:Je}{p2:Pos}(he:E3 X e te)(hl:O3 X lo tl)(hu:O3 X hi th):E3 X (.Subscript e (.Slice lo hi none p2) pos) (s3 te tl th):=PE.mono (D4 LZ he hl hu) λY H Q' zz=>x7 zz λU M Q hs hm ht k=>⟨U,M,_,hs,hm,ht,λv H1 x M1 hx Mh e1 q1=>⟨U,M1,_,hs.mono e1,Mh,q1,λl H2 M2 Mz e2 q2=>⟨U,M2,_,hs.mono (e1.trans e2),Mz,q2,λu H3 M3 N9 e3 q3=>⟨x,M3,Q,hx.mono (e2.trans e3),N9,q3,sH (e1.trans (e2.trans e3)) k⟩⟩⟩⟩
def vq:rX:=λ_ M Q=>Q [] M
def tj(ta:T3)(tr:rX):rX:=λU M Q=>ta U M λx M1=>tr U M1 λxs M2=>Q (x::xs) M2
def qN:A3 X [] vq:=PA.mono Ij λY H Q' zz=>x7 zz λU M Q hs hm ht k=>k [] H [] M .nil hm .refl ht
def oy{e:Expr}{es:T0 Expr}{te:T3}{t:rX}(ha:E3 X e te)(hr:A3 X es t)(hs:xG X e es:=by rfl):A3 X (e::es) (tj te t):=PA.mono (Fn ha hr hs) λY H Q' zz=>x7 zz λU M Q hs hm ht k=>⟨U,M,_,hs,hm,ht,λv H1 x M1 hx Mh e1 q1=>⟨U,M1,_,hs.mono e1,Mh,q1,λvs H2 xs M2 O6 Mz e2 q2=>k _ H2 _ M2 (.cons (hx.mono e2) O6) Mz (e1.trans e2) q2⟩⟩
def KY(t:rX):T3:=λU M Q=>t U M λds M1=>ds.length<=sizeLine/\Q (.tup ds) M1
def KZ(t:rX):T3:=λU M Q=>t U M λds M1=>ds.length<=sizeLine/\∀p,M1 p=none->Q (.ref p) (mL M1 p (.lst ds))
def nB{x1}{es:T0 Expr}{t:rX}(h:A3 X es t):E3 X (.Tuple es x1 pos) (KY t):=PE.mono (Ic h) λY H Q' zz=>x7 zz λU M Q hs hm ht k=>
 ⟨U,M,_,hs,hm,ht,λvs H1 ds M1 Nw Mh e1 q1=>⟨by rw[<-Nw.length];exact q1.1,λp hp=>by
  have e:nF X.K H1 (upd H1 p (.tup vs)):=.new hp;exact k _ _ _ M1 (.tup (.of m7) (Nw.mono e)) (Mh.add hp) (e1.trans e) q1.2⟩⟩
def pR{es:T0 Expr}{t:rX}(h:A3 X es t):E3 X (.List es pos) (KZ t):=PE.mono (I9 h) λY H Q' zz=>x7 zz λU M Q hs hm ht k=>
 ⟨U,M,_,hs,hm,ht,λvs H1 ds M1 Nw Mh e1 q1=>⟨by rw[<-Nw.length];exact q1.1,λp hp=>by
  have e:nF X.K H1 (upd H1 p (.lst vs)):=.new hp;exact k _ _ _ _ .ref (Mh.new (c:=.lst ds) hp ⟨_,m7,Nw.mono e⟩) (e1.trans e) (q1.2 p (Mh.fresh hp))⟩⟩
def CA(t u:ua):ua:=λD U M=>t {D with nx:=u D} U M
def La:ua:=λD U M=>D.nx U M
def nu:En X [] La:=xy.mono F0 λD' Y H zz=>E5 zz λU M D hs hm ht k1 k2 k3 k4=>k1 Y H U M hs hm .refl rfl ht
def mI{st:Stmt}{Mn:T0 Stmt}{t u:ua}(h1:S3 X st t)(h2:En X Mn u):En X (st::Mn) (CA t u):=xy.mono (D6 h1 h2) λD' Y H zz=>E5 zz λU M D hs hm ht k1 k2 k3 k4=>
 ⟨U,M,{D with nx:=u D},hs,hm,ht,λσ1 H1 δ1 M1 hs1 Mh e1 l1 q1=>⟨δ1,M1,D,hs1,Mh,q1,λσ' H' δ' M' x1 x2 x3 x4 x5=>k1 σ' H' δ' M' x1 x2 (e1.trans x3) (x4.trans l1) x5,λv H' d M' x1 x2 x3 x4=>k2 v H' d M' x1 x2 (e1.trans x3) x4,λσ' H' δ' M' x1 x2 x3 x4 x5=>k3 σ' H' δ' M' x1 x2 (e1.trans x3) (x4.trans l1) x5,λσ' H' δ' M' x1 x2 x3 x4 x5=>k4 σ' H' δ' M' x1 x2 (e1.trans x3) (x4.trans l1) x5⟩,k2,k3,k4⟩
def mK{st:Stmt}{t:ua}(h1:S3 X st t):En X [st] t:=xy.mono (GI h1) λD' Y H h=>h
def J6(te:T3):ua:=λD U M=>te U M λ_ M1=>D.nx U M1
def mW{e:Expr}{te:T3}(he:E3 X e te)(NY:swapsWith e none pos.line X.env=pure false:=by rfl):S3 X (.Expr e pos) (J6 te):=PS.mono (FE he NY) λD' Y H zz=>E5 zz λU M D hs hm ht k1 k2 k3 k4=>⟨U,M,_,hs,hm,ht,λv H1 d M1 hd Mh e1 q1=>k1 Y H1 U M1 (hs.mono e1) Mh e1 rfl q1⟩
def K2(te:T3):ua:=λD U M=>te U M D.rt
def mT{e:Expr}{te:T3}(he:E3 X e te):S3 X (.Return (some e) pos) (K2 te):=PS.mono (IX he) λD' Y H zz=>E5 zz λU M D hs hm ht k1 k2 k3 k4=>⟨U,M,_,hs,hm,ht,λv H1 d M1 hd Mh e1 q1=>k2 v H1 d M1 hd Mh e1 q1⟩
def JU(c:wu)(t u:ua):ua:=λD U M=>c U M λb M1=>if b=true then t D U M1 else u D U M1
def oq{c:Expr}{as bs:T0 Stmt}{tc:wu}{t u:ua}(hc:B3 X c tc)(ha:En X as t)(hb:En X bs u):S3 X (.If c as bs pos) (JU tc t u):=PS.mono (Kc hc ha hb) λD' Y H zz=>E5 zz λU M D hs hm ht k1 k2 k3 k4=>
 ⟨U,M,_,hs,hm,ht,λb H1 M1 Mh e1 q1=>by
  have up:∀t:ua,t D U M1->Lw X.K t D' Y H1:=λt q=>⟨U,M1,D,hs.mono e1,Mh,q,λσ' H' δ' M' x1 x2 x3 x4 x5=>k1 σ' H' δ' M' x1 x2 (e1.trans x3) x4 x5,λv H' d M' x1 x2 x3 x4=>k2 v H' d M' x1 x2 (e1.trans x3) x4,λσ' H' δ' M' x1 x2 x3 x4 x5=>k3 σ' H' δ' M' x1 x2 (e1.trans x3) x4 x5,λσ' H' δ' M' x1 x2 x3 x4 x5=>k4 σ' H' δ' M' x1 x2 (e1.trans x3) x4 x5⟩
  cases b with
  | true=>exact(bw rfl).mpr (up t ((bw rfl).mp q1))
  | false=>exact(bq bN).mpr (up u ((bq bN).mp q1))⟩
def HN:ua:=λ_ _ _=>False
def yV{st:Stmt}:S3 X st HN:=PS.mono Ez λD' Y H ⟨U,M,D,hs,hm,ht,_⟩=>ht
abbrev yJ:=D->qz->Mp->(qz->Mp->Prop)->Prop
def Kw(K:m9)(g:yJ):TG:=λv Y H Q'=>E2 λd U M Q=>n8 K H d v/\uE K H Y U/\HM K H M/\g d U M Q/\∀σ' H' δ' M',uE K H' σ' δ'->HM K H' M'->nF K H H'->σ'.length=Y.length->Q δ' M'->Q' σ' H'
def G3(X:Cx)(e:Expr)(g:yJ):Prop:=PG X e (Kw X.K g)
def PG.lZ{X:Cx}{e:Expr}{t t':TG}(h:PG X e t)(m:∀v Y H Q,Y.length=X.N.length->t' v Y H Q->t v Y H Q):PG X e t':=λMf s Y H v u Q I r q=>h Mf s Y H v u Q I r (m v Y H Q I.len q)
def qY(i:Nat):yJ:=λd U M Q=>Q (U.set i (some d)) M
def Bx{i:Nat}{x:Str}(hN:X.N.Nodup)(hi:X.N[i]?=some x)(hx:EH X.env.scope x)(hf:De X x:=by first|exact .inl rfl|exact .inr rfl|assumption):G3 X (.Name x pos) (qY i):=
 PG.lZ (GO hN hi hx hf) λv Y H Q' hl ⟨d,U,M,Q,hd,hs,hm,ht,k⟩=>k _ H _ M (hs.set hd (by rw[hl];exact(bL.mp hi).1)) hm .refl (by simp) ht
abbrev zL:=T0 D->qz->Mp->(qz->Mp->Prop)->Prop
def Lg(K:m9)(g:zL):Ga:=λvs Y H Q'=>E2 λds U M Q=>mS K H ds vs/\uE K H Y U/\HM K H M/\g ds U M Q/\∀σ' H' δ' M',uE K H' σ' δ'->HM K H' M'->nF K H H'->σ'.length=Y.length->Q δ' M'->Q' σ' H'
def Kq(X:Cx)(es:T0 Expr)(g:zL):Prop:=EZ X es (Lg X.K g)
def EZ.mono{X:Cx}{e:T0 Expr}{t t':Ga}(h:EZ X e t)(m:∀v Y H Q,t' v Y H Q->t v Y H Q):EZ X e t':=λMf s Y H v u Q I r q=>h Mf s Y H v u Q I r (m v Y H Q q)
def PG.mono{X:Cx}{e:Expr}{t t':TG}(h:PG X e t)(m:∀v Y H Q,t' v Y H Q->t v Y H Q):PG X e t':=λMf s Y H v u Q I r q=>h Mf s Y H v u Q I r (m v Y H Q q)
def JW:zL:=λds U M Q=>match ds with|[]=>Q U M|_=>False
def HG(t:yJ)(u:zL):zL:=λds U M Q=>match ds with|d::r=>t d U M λδ' M'=>u r δ' M' Q|[]=>False
def qd:Kq X [] JW:=EZ.mono Gs λvs Y H Q' ⟨ds,U,M,Q,hd,hs,hm,ht,k⟩=>by
 cases ds with
 | nil=>exact⟨hd.nil_inv,k Y H U M hs hm .refl rfl ht⟩
 | cons _ _=>exact ht.elim
def nA{e:Expr}{es:T0 Expr}{t:yJ}{u:zL}(h1:G3 X e t)(h2:Kq X es u)(hs:(assignEach (e::es) X.env).map (·.2)=assign e X.env::(assignEach es X.env).map (·.2):=by rfl):Kq X (e::es) (HG t u):=
 EZ.mono (DV h1 h2 hs) λvs Y H Q' ⟨ds,U,M,Q,hd,hs,hm,ht,k⟩=>by
 cases ds with
 | nil=>exact ht.elim
 | cons d r=>obtain⟨x,xr,rfl,hx,hr⟩:=hd.inv;exact⟨x,xr,rfl,d,U,M,_,hx,hs,hm,ht,λσ1 H1 δ1 M1 hs1 Mh e1 l1 q1=>⟨r,δ1,M1,Q,hr.mono e1,hs1,Mh,q1,λσ' H' δ' M' x1 x2 x3 x4 x5=>k σ' H' δ' M' x1 x2 (e1.trans x3) (x4.trans l1) x5⟩⟩
def J8(n:Nat)(t:zL):yJ:=λd U M Q=>match d with|.tup ds=>ds.length=n/\t ds U M Q|_=>False
def qX{es:T0 Expr}{k:Nat}{t:zL}{n:Nat}(hc:X.calm=true)(h:Kq X es t)(hn:(assignEach es X.env).length=n:=by rfl)(MT:(assignEach es X.env).findIdx? (·.1)=none:=by rfl):G3 X (.Tuple es k pos) (J8 n t):=
 PG.mono (Hw hc h hn MT) λv Y H Q' ⟨d,U,M,Q,hd,hs,hm,ht,k⟩=>by
 cases d with
 | tup ds=>obtain⟨a,xs,rfl,h1,h2⟩:=hd.lw;exact⟨a,xs,rfl,h1,by rw[<-h2.length];exact ht.1,ds,U,M,Q,h2,hs,hm,ht.2,k⟩
 | _=>exact ht.elim
def Io(te:T3)(g:yJ):ua:=λD U M=>te U M λx M1=>g x U M1 D.nx
def Ie{i:Nat}{x:Str}{e:Expr}{te:T3}{MB:Pos}(hN:X.N.Nodup)(hi:X.N[i]?=some x)(hx:EH X.env.scope x)(he:E3 X e te)(NY:swapsWith e (some (.Name x MB)) pos.line X.env=pure false:=by rfl)
  (hf:De X x:=by first|exact .inl rfl|exact .inr rfl|assumption):S3 X (.Assign [.Name x MB] e pos) (Io te (qY i)):=PS.lZ (IZ hN hi hx he NY hf) λD' Y H hl zz=>E5 zz λU M D hs hm ht k1 k2 k3 k4=>
 ⟨U,M,_,hs,hm,ht,λv H1 d M1 hd Mh e1 q1=>k1 _ H1 _ M1 ((hs.mono e1).set hd (by rw[hl];exact(bL.mp hi).1)) Mh e1 (by simp) q1⟩
end
abbrev pP:=T0 D->Mp->DK->Prop
def Hk(K:m9)(sp:pP):Sp:=λvs H Q' _=>A9 λds M Q=>mS K H ds vs/\HM K H M/\sp ds M Q/\Up K H Q' Q
noncomputable def uj(N:QQQ)(ds:T0 D):qz:=ds.map some++List.replicate (N.length - ds.length) none
def Cw{K:m9}{H:Hp}{N:QQQ}{ds:T0 D}{vs:T0 V}(h:mS K H ds vs):uE K H (L2.sI N vs) (uj N ds):=λi d q=>by
 unfold uj at q;unfold L2.sI;by_cases hi:i<ds.length
 .rw[dO (by simpa using hi),bM]at q;cases e:ds[i]? with
  | none=>rw[e]at q;cases q
  | some d'=>rw[e]at q;cases q;obtain⟨v,e1,e2⟩:=h.get e;refine⟨v,?_,e2⟩;rw[dO (by rw[bi,<-h.length];exact hi),bM,e1];rfl
 .rw[eF (by simpa using hi),iT]at q;split at q<;>cases q
variable {P:Pg}{w:Wo}{mg:QQZ}{base:Heap}
abbrev GH(P:Pg)(w:Wo)(K:m9)(mg:QQZ)(base:Heap)(k:Nat)(f:Addr)(fd:FuncData)(ps:QQQ)(sp:pP):Prop:=vC P w K mg base E4 k f fd ps (Hk K sp)
variable {k:Nat}{f C:Addr}{fd:FuncData}{ps:QQQ}{sp:pP}{x m fn:Str}{p Mj:Pos}{e o:Expr}{es:T0 Expr}{t:rX}
def wM(sp:pP)(t:rX):T3:=λU M Q=>t U M λds M1=>sp ds M1 Q
def F9(F:GH X.prog X.w X.K X.mg X.base k f fd ps sp)(hr:oO k X.A)(hg:Gl X x)(hm:X.mg x=some (.ref f))(hk:W.keepIn X.K (.ref f)=true)(hb:qW X.K fd ps [])(ha:A3 X (e::es) t) (ME:va x:=by decide) (he:xG X e es:=by rfl) (MA:yL X pos es:=by rfl):
  E3 X (.Call (.Name x p) (e::es) [] pos) (wM sp t):=PE.mono (FX F hr hg hm hk hb .nil (A0 (X:=X)) ha ME he MA) λY H Q' zz=>x7 zz λU M Q hs hm ht k=>
 ⟨U,M,_,hs,hm,ht,λvs H1 ds M1 hd Mh e1 q1=>⟨ds,M1,Q,by rw[bY];exact hd,Mh,q1,sH e1 k⟩⟩
def C3(X:Cx)(f:Vl)(r:pP):Prop:=sO X f λvs H Q'=>∃ds M Q,mS X.K H ds vs/\HM X.K H M/\r ds M Q/\Up X.K H Q' Q
def mU{id:String}{r:pP}(hc:C3 X (.builtin id) r)(hg:Gl X x)(hm:X.mg x=none)(hv:bootBuiltins x=some (.builtin id))(ha:A3 X (e::es) t)(hn:x≠"__name__":=by decide)(ME:va x:=by decide)
  (he:xG X e es:=by rfl) (MA:yL X pos es:=by rfl):E3 X (.Call (.Name x p) (e::es) [] pos) (wM r t):=
 PE.mono (C4 hc hg hm hv ha hn ME he MA) λY H Q' zz=>x7 zz λU M Q hs hm ht k=>⟨U,M,_,hs,hm,ht,λvs H1 ds M1 hd Mh e1 q1=>⟨ds,M1,Q,hd,Mh,q1,sH e1 k⟩⟩
def oZ{T:String}{r:pP}(hc:C3 X (.type T) r)(hg:Gl X x)(hm:X.mg x=none)(hv:bootBuiltins x=some (.type T))(ha:A3 X (e::es) t)(hn:x≠"__name__":=by decide)(ME:va x:=by decide)
  (he:xG X e es:=by rfl) (MA:yL X pos es:=by rfl):E3 X (.Call (.Name x p) (e::es) [] pos) (wM r t):=
 PE.mono (Cm hc hg hm hv ha hn ME he MA) λY H Q' zz=>x7 zz λU M Q hs hm ht k=>⟨U,M,_,hs,hm,ht,λvs H1 ds M1 hd Mh e1 q1=>⟨ds,M1,Q,hd,Mh,q1,sH e1 k⟩⟩
def JX(ds:T0 D)(M:Mp)(Q:DK):Prop:=match ds with
 | [.str z]=>z.length<=sizeLine/\Q (.int z.length) M
 | [.tup es]=>Q (.int es.length) M
 | [.ref a]=>(ma M a).elim False λes=>Q (.int es.length) M
 | [.rl es]=>Q (.int es.length) M
 | _=>False
def oJ{K:m9}{H:Hp}{d:D}{vs:T0 V}(h:mS K H [d] vs):∃v,vs=[v]/\n8 K H d v:=by obtain⟨x,r,rfl,a,b⟩:=h.inv;rw[b.nil_inv];exact⟨x,rfl,a⟩
def tM{K:m9}{H:Hp}{d e:D}{vs:T0 V}(h:mS K H [d,e] vs):∃v u,vs=[v,u]/\n8 K H d v/\n8 K H e u:=by obtain⟨x,r,rfl,a,b⟩:=h.inv;obtain⟨y,rfl,c⟩:=oJ b;exact⟨x,y,rfl,a,c⟩
def oB:C3 X (.builtin "len") JX:=by
 intro Mf s Y H vs us Q' I rv h;obtain⟨ds,M,Q,hd,hm,q,k⟩:=h;unfold JX at q;split at q
 .obtain⟨v,rfl,hv⟩:=oJ hd;cases hv.str_inv;exact yt Mf s Y H _ us Q' I rv ⟨_,rfl,q.1,k _ _ _ _ .int hm .refl q.2⟩
 .obtain⟨v,rfl,hv⟩:=oJ hd;obtain⟨a,xs,rfl,h1,h2⟩:=hv.lw;exact rc Mf s Y H _ us Q' I rv ⟨a,xs,rfl,.inr h1,k _ _ _ _ (by rw[<-h2.length];exact .int) hm .refl q⟩
 .obtain⟨v,rfl,hv⟩:=oJ hd;obtain⟨es,e0,q⟩:=nH q;cases hv.lm;obtain⟨xs,h1,h2,_⟩:=mR hm e0;exact rc Mf s Y H _ us Q' I rv ⟨_,xs,rfl,.inl h1,k _ _ _ _ (by rw[<-h2.length];exact .int) hm .refl q⟩
 .obtain⟨v,rfl,hv⟩:=oJ hd;obtain⟨a,xs,rfl,h1,h2⟩:=hv.lF;exact rc Mf s Y H _ us Q' I rv ⟨a,xs,rfl,.inl h1.sq,k _ _ _ _ (by rw[<-h2.length];exact .int) hm .refl q⟩
 .exact q.elim
def Jy(ds:T0 D)(M:Mp)(Q:DK):Prop:=match ds with
 | [.int i,.int j]=>Q (.int (if j<i then j else i)) M
 | _=>False
def HY(hc:X.calm=true):C3 X (.builtin "min") Jy:=by
 intro Mf s Y H vs us Q' I rv h;obtain⟨ds,M,Q,hd,hm,q,k⟩:=h;unfold Jy at q;split at q
 .obtain⟨v,u,rfl,hv,hw⟩:=tM hd;cases hv.int_inv;cases hw.int_inv;exact BU hc Mf s Y H _ us Q' I rv ⟨_,_,rfl,k _ _ _ _ .int hm .refl q⟩
 .exact q.elim
def D3(ds:T0 D)(M:Mp)(Q:DK):Prop:=match ds with
 | [.tup es]=>Q (.tup es) M
 | [.ref a]=>(ma M a).elim False λes=>Q (.tup es) M
 | [.rl es]=>Q (.tup es) M
 | _=>False
def zG:C3 X (.type "tuple") D3:=by
 intro Mf s Y H vs us Q' I rv h;obtain⟨ds,M,Q,hd,hm,q,k⟩:=h;unfold D3 at q;split at q
 .obtain⟨v,rfl,hv⟩:=oJ hd;obtain⟨a,xs,rfl,h1,h2⟩:=id hv.lw;exact qL Mf s Y H _ us Q' I rv ⟨a,xs,rfl,.inr ⟨h1,k _ _ _ _ hv hm .refl q⟩⟩
 .obtain⟨v,rfl,hv⟩:=oJ hd;obtain⟨es,e0,q⟩:=nH q;cases hv.lm;obtain⟨xs,h1,h2,_⟩:=mR hm e0;refine qL Mf s Y H _ us Q' I rv ⟨_,xs,rfl,.inl ⟨h1,λl hl=>?_⟩⟩;have e:nF X.K H (upd H l (.tup xs)):=.new hl;exact k _ _ _ _ (.tup (.of m7) (h2.mono e)) (hm.add hl) e q
 .obtain⟨v,rfl,hv⟩:=oJ hd;obtain⟨a,xs,rfl,h1,h2⟩:=hv.lF;refine qL Mf s Y H _ us Q' I rv ⟨_,xs,rfl,.inl ⟨h1.sq,λl hl=>?_⟩⟩;have e:nF X.K H (upd H l (.tup xs)):=.new hl;exact k _ _ _ _ (.tup (.of m7) (h2.mono e)) (hm.add hl) e q
 .exact q.elim
def Hf(ds:T0 D)(M:Mp)(Q:DK):Prop:=match ds with
 | [d]=>(Ab M d).elim False λes=>∀p,M p=none->Q (.ref p) (mL M p (.lst es))
 | _=>False
def yD:C3 X (.type "list") Hf:=by
 intro Mf s Y H vs us Q' I rv h;obtain⟨ds,M,Q,hd,hm,q,k⟩:=h;unfold Hf at q;split at q
 .obtain⟨v,rfl,hv⟩:=oJ hd;obtain⟨es,e0,q⟩:=nH q;obtain⟨p,xs,rfl,h1,h2⟩:=u6 hm hv e0;refine xE Mf s Y H _ us Q' I rv ⟨p,xs,rfl,h1,λl hl=>?_⟩;have e:nF X.K H (upd H l (.lst xs)):=.new hl;exact k _ _ _ _ .ref (hm.new (c:=.lst es) hl ⟨_,m7,h2.mono e⟩) e (q l (hm.fresh hl))
 .exact q.elim
theorem sP{K:m9}{H:Hp}{f:Str}:∀{fs:T0 (Str×D)} {vs:T0 (Str×V)},vM K H fs vs->(∀d,fs.lookup f=some d->∃v,vs.lookup f=some v/\n8 K H d v)/\(fs.lookup f=none->vs.lookup f=none)
 | [],[],_=>⟨λd e=>by simp at e,λ_=>rfl⟩
 | [],_::_,h=>by have:=h.1;simp at this
 | _::_,[],h=>by have:=h.1;simp at this
 | (g,d)::fs,(g',v)::vs,h=>by
  have h1:g'=g/\vs.map (·.1)=fs.map (·.1):=by
   have:=h.1
   simpa using this
  obtain⟨x,r,e,a,b⟩:=h.2.inv;have e':v::vs.map (·.2)=x::r:=e;cases e';obtain⟨i1,i2⟩:=sP (f:=f) (fs:=fs) (vs:=vs) ⟨h1.2,b⟩;rw[h1.1];refine⟨λd' e=>?_,λe=>?_⟩
  .rw[cj]at e ⊢;cases q:f==g with
   | true=>rw[q]at e;cases e;exact⟨v,rfl,a⟩
   | false=>rw[q]at e;exact i1 d' e
  .rw[cj]at e ⊢;cases q:f==g with
   | true=>rw[q]at e;cases e
   | false=>rw[q]at e;exact i2 e
theorem BR{f:Str}{d:D}:∀{fs:T0 (Str×D)},fs.lookup f=some d->f∈fs.map (·.1)
 | [],h=>by simp at h
 | (g,e)::r,h=>by
  rw[cj]at h;cases q:f==g with
  | true=>
   have z:f=g:=by simpa using q
   rw[z,b6];exact bG
  | false=>rw[q]at h;simp[BR h]
def CH(o:Option qg)(F:Addr->T0 (Str×D)->Prop):Prop:=match o with
 | some (.ins C fs)=>F C fs
 | _=>False
def mV{o:Option qg}{F:Addr->T0 (Str×D)->Prop}{C:Addr}{fs:T0 (Str×D)}(e:o=some (.ins C fs))(h:F C fs):CH o F:=by rw[e];exact h
def vk{o:Option qg}{F:Addr->T0 (Str×D)->Prop}(h:CH o F):∃C fs,o=some (.ins C fs)/\F C fs:=by
 unfold CH at h;split at h
 .exact⟨_,_,rfl,h⟩
 .exact h.elim
def Lz(f:Str)(ta:T3):T3:=λU M Q=>ta U M λx M1=>match x with
 | .ref a=>CH (M1 a) λ_ fs=>(fs.lookup f).elim False λd=>Q d M1
 | _=>False
def rD{f:Str}(he:E3 X o ta)(hb:attributeBase o f X.env (eval o X.env)=eval o X.env:=by rfl):E3 X (.Attribute o f pos) (Lz f ta):=PE.mono (HE he hb) λY H Q' zz=>x7 zz λU M Q hs hm ht k=>
 ⟨U,M,_,hs,hm,ht,λv H1 d M1 hd Mh e1 q1=>by
  cases d with
  | ref a=>cases hd.lm;obtain⟨C,fs,e,q1⟩:=vk q1;obtain⟨d,e2,q⟩:=nH q1;obtain⟨dx,vs,h1,cl,na,fo⟩:=Mh a _ e;obtain⟨v,e3,hv⟩:=(sP fo).1 d e2;exact⟨a,C,dx,vs,v,rfl,h1,cl,na f (BR e2),e3,k v H1 d M1 hv Mh e1 q⟩
  | _=>exact q1.elim⟩
noncomputable def vH(f:Str)(v:D):T0 (Str×D)->T0 (Str×D)
 | []=>[(f,v)]
 | (g,u)::r=>if g=f then(g,v)::r else(g,u)::vH f v r
theorem Bf{K:m9}{H:Hp}{f:Str}{d:D}{v:V}(hv:n8 K H d v):∀{fs:T0 (Str×D)} {vs:T0 (Str×V)},vM K H fs vs->vM K H (vH f d fs) (qU f v vs)
 | [],[],_=>⟨rfl,.cons hv .nil⟩
 | [],_::_,h=>by have:=h.1;simp at this
 | _::_,[],h=>by have:=h.1;simp at this
 | (g,e)::fs,(g',u)::vs,h=>by
  have h1:g'=g/\vs.map (·.1)=fs.map (·.1):=by
   have:=h.1
   simpa using this
  obtain⟨x,r,e1,a,b⟩:=h.2.inv;have e':u::vs.map (·.2)=x::r:=e1;cases e';obtain⟨hg,ht⟩:=h1;subst hg;rw[show vH f d ((g',e)::fs)=(if g'=f then(g',d)::fs else(g',e)::vH f d fs)from rfl,show qU f v ((g',u)::vs)=(if g'=f then(g',v)::vs else(g',u)::qU f v vs)from rfl];by_cases q:g'=f
  .rw[bw q,bw q];exact⟨by simpa using ht,.cons hv b⟩
  .rw[bq q,bq q];obtain⟨i1,i2⟩:=Bf hv (fs:=fs) (vs:=vs) ⟨ht,b⟩;exact⟨by simpa using i1,.cons a i2⟩
theorem yW{f:Str}{d:D}:∀{fs:T0 (Str×D)} {g:Str},g∈(vH f d fs).map (·.1)->g=f\/g∈fs.map (·.1)
 | [],g,h=>.inl (by simpa [vH]using h)
 | (k,e)::r,g,h=>by
  rw[show vH f d ((k,e)::r)=(if k=f then(k,d)::r else(k,e)::vH f d r)from rfl]at h;by_cases q:k=f
  .rw[bw q]at h;exact .inr (by simpa using h)
  .rw[bq q]at h;rw[b6,br]at h;rcases h with h|h
   .exact .inr (by simp[h])
   .rcases yW h with z|z
    .exact .inl z
    .exact .inr (by simp;right;simpa using z)
def Jm(K:m9)(f:Str)(ta tv:T3):ua:=λD U M=>tv U M λy M1=>ta U M1 λx M2=>match x with
 | .ref a=>CH (M2 a) λC fs=>pV K C f/\fs.length<1000/\D.nx U (mL M2 a (.ins C (vH f y fs)))
 | _=>False
def oP{f:Str}{value:Expr}{tv:T3}{MB:Pos}(ha:E3 X o ta)(hv:E3 X value tv)(NY:swapsWith value (some (.Attribute o f MB)) pos.line X.env=pure false:=by rfl):S3 X (.Assign [.Attribute o f MB] value pos) (Jm X.K f ta tv):=
 PS.mono (II ha hv NY) λD' Y H zz=>E5 zz λU M D hs hm ht k1 k2 k3 k4=>
 ⟨U,M,_,hs,hm,ht,λy H1 dy M1 hy Mh e1 q1=>⟨U,M1,_,hs.mono e1,Mh,q1,λv H2 d M2 hd Mz e2 q2=>by
  cases d with
  | ref a=>
   cases hd.lm;obtain⟨C,fs,e,q2⟩:=vk q2;obtain⟨na,hl,q⟩:=q2;obtain⟨dx,vs,h1,cl,nn,fo⟩:=Mz a _ e;have Mm:vs.length=fs.length:=by have:=c8 List.length fo.1;simpa using this
   refine⟨a,C,dx,vs,rfl,h1,cl,na,by lia,?_⟩;obtain⟨N9,e3⟩:=Mz.put (p:=a) (o:=.ins C dx (qU f y vs)) (c:=.ins C (vH f dy fs)) e λx=>⟨dx,_,m7,cl,λg hg=>by
    rcases yW hg with z|z
    .rw[z];exact na
    .exact nn g z,Bf ((hy.mono e2).mono x) (fo.mono x)⟩
   exact k1 Y _ U _ (hs.mono (e1.trans (e2.trans e3))) N9 (e1.trans (e2.trans e3)) rfl q
  | _=>exact q2.elim⟩⟩
def G8(C:Addr)(sp:pP)(t:rX):T3:=λU M Q=>t U M λds M1=>∀x,M1 x=none->sp (.ref x::ds) (mL M1 x (.ins C [])) λd M2=>d=.lB/\Q (.ref x) M2
def Eo{K:m9}{H:Hp}{M:Mp}{xa dx:Addr}(hm:HM K H M)(cl:Cls K C)(h1:H xa=none)(h2:H dx=none)(ne:dx≠xa):HM K (upd (upd H dx (.own xa)) xa (.ins C dx [])) (mL M xa (.ins C []))/\nF K H (upd (upd H dx (.own xa)) xa (.ins C dx [])):=by
 have Nz:upd H dx (.own xa) xa=none:=by rw[nh (bR ne)];exact h1
 exact⟨(hm.add (p:=dx) (o:=.own xa) h2).new Nz ⟨dx,[],m7,cl,λg hg=>by simp at hg,rfl,.nil⟩,nF.trans (.new h2) (.new Nz)⟩
def Fm(cl:Cls X.K C)(Mk':Mk X.K C f)(F:GH X.prog X.w X.K X.mg X.base k f fd ps sp)(hr:oO (k+1) X.A)(hg:Gl X x)(hm:X.mg x=some (.ref C))(hb:qW X.K fd ps [])(ha:A3 X (e::es) t) (ME:va x:=by decide) (he:xG X e es:=by rfl) (MA:yL X pos es:=by rfl):
  E3 X (.Call (.Name x p) (e::es) [] pos) (G8 C sp t):=PE.mono (FD Mk' F hr hg hm hb .nil (A0 (X:=X)) ha ME he MA) λY H Q' zz=>x7 zz λU M Q hs hm ht k=>
 ⟨U,M,_,hs,hm,ht,λvs H1 ds M1 hd Mh e1 q1=>λxa dx n1 n2 ne=>by
  obtain⟨Mz,e2⟩:=Eo Mh cl n1 n2 ne;refine⟨.ref xa::ds,_,_,?_,Mz,q1 xa (Mh.fresh n1),λv H3 d M3 hd3 N9 e3 q3=>?_⟩
  .rw[bY];exact .cons .ref (hd.mono e2)
  .obtain⟨z,q3⟩:=q3;subst z;exact⟨hd3.lq,k _ H3 _ M3 .ref N9 (e1.trans (e2.trans e3)) q3⟩⟩
def DM(m:Str)(R:Addr->Sp->Prop)(ta:TE)(t:TA):TE:=λY H Q=>ta Y H λx H1=>∃a C dx fs sp,x=.ref a/\H1 a=some (.ins C dx fs)/\fs.lookup m=none/\R C sp/\t Y H1 λvs H2=>sp (x::vs) H2 Q E0
def xt(P:Pg)(w:Wo)(K:m9)(mg:QQZ)(base:Heap)(k:Nat)(m:Str)(C:Addr)(sp:Sp):Prop:=Cls K C/\∃f fd ps,sW K C m f/\vC P w K mg base E4 k f fd ps sp/\qW K fd ps []
def CT{R:Addr->Sp->Prop}{ta:TE}{pl:Sem Bool}(he:PE X o ta)(hR:∀C sp,R C sp->xt X.prog X.w X.K X.mg X.base k m C sp)(hr:oO k X.A) (ht:eval (.Call (.Attribute o m Mj) [] [] pos) X.env=(do
   let ov<-eval o X.env
   standAt Mj.atName
   let(f,first)<-holding [ov] (getMethod ov m pl)
   callWith pos f first (backTo pos (starEach [] X.env)) (backToKw pos (keywordEach [] X.env))):=by rfl):
  PE X (.Call (.Attribute o m Mj) [] [] pos) (DM m R ta JT):=by
 intro Mf s Y H Q I h;refine kG (pl:=pl) (pB (he Mf s Y H _ I h) λu s1 zz=>?_) ht;obtain⟨x,H1,I1,rx,a,C,dx,fs,sp,ex,ea,l,hRC,q⟩:=zz;obtain⟨c,f,fd,ps,hm,F,hb⟩:=hR C sp hRC;subst ex;obtain rfl:u=Value.ref a:=rx;refine AE I1 ea c hm l ?_;exact W.callWith_K0 (first:=[.ref a]) I1.lJ hm.kp (AQ (us:=[.ref a]) (vs:=[.ref a]) F hr hb .nil (A0 (X:=X)) I1 (.cons rfl .nil) (by rw[bY];exact q))
def ER(m:Str)(R:Addr->pP->Prop)(ta:T3)(t:rX):T3:=λU M Q=>ta U M λx M1=>match x with
 | .ref a=>CH (M1 a) λC fs=>fs.lookup m=none/\∃sp,R C sp/\t U M1 λds M2=>sp (x::ds) M2 Q
 | _=>False
def LH(K:m9)(R:Addr->pP->Prop):Addr->Sp->Prop:=λC sp'=>∃sp,R C sp/\sp'=Hk K sp
def Gv{R:Addr->pP->Prop}:∀Y H Q',lo X.K (ER m R ta t) Y H Q'->DM m (LH X.K R) (lo X.K ta) (LB X.K t) Y H Q':=λY H Q' zz=>x7 zz λU M Q hs hm ht k=>
 ⟨U,M,_,hs,hm,ht,λv H1 d M1 hd Mh e1 q1=>by
  cases d with
  | ref a=>cases hd.lm;obtain⟨C,fs,e,q1⟩:=vk q1;obtain⟨hn,sp,hR,q⟩:=q1;obtain⟨dx,vs,h1,cl,na,fo⟩:=Mh a _ e;exact⟨a,C,dx,vs,_,rfl,h1,(sP fo).2 hn,⟨sp,hR,rfl⟩,U,M1,_,hs.mono e1,Mh,q,λus H2 ds M2 Nw Mz e2 q2=>⟨.ref a::ds,M2,Q,.cons .ref Nw,Mz,q2,sH (e1.trans e2) k⟩⟩
  | _=>exact q1.elim⟩
def rK{R:Addr->pP->Prop}{pl:Sem Bool}(he:E3 X o ta)(hR:∀C sp,R C sp->xt X.prog X.w X.K X.mg X.base k m C (Hk X.K sp))(hr:oO k X.A) (ht:eval (.Call (.Attribute o m Mj) [] [] pos) X.env=(do
   let ov<-eval o X.env
   standAt Mj.atName
   let(f,first)<-holding [ov] (getMethod ov m pl)
   callWith pos f first (backTo pos (starEach [] X.env)) (backToKw pos (keywordEach [] X.env))):=by rfl):
  E3 X (.Call (.Attribute o m Mj) [] [] pos) (ER m R ta vq):=PE.mono (CT (R:=LH X.K R) he (λC sp' ⟨sp,h,z⟩=>by rw[z];exact hR C sp h) hr ht) λY H Q' h=>by
 obtain⟨U,M,Q,hs,hm,ht,k⟩:=Gv (t:=vq) Y H Q' h;refine⟨U,M,Q,hs,hm,ht,λv H' d M' x1 x2 x3 x4=>?_⟩;obtain⟨a,C,dx,fs,sp,e1,e2,e3,e4,δ',Mw,Q'',y1,y2,y3,y4⟩:=k v H' d M' x1 x2 x3 x4;exact⟨a,C,dx,fs,sp,e1,e2,e3,e4,y4 [] H' [] Mw .nil y2 .refl y3⟩
structure xF(K:m9)(H1:Hp)(J:It)(ds:List D)(ok:Mp->Prop):Prop where
 go:∀i H M,i<ds.length->HM K H M->ok M->nF K H1 H->J.go i H
 mv:∀i d H M x H',ds[i]?=some d->HM K H M->ok M->nF K H1 H->J.mv i H x H'->n8 K H' d x/\HM K H' M/\nF K H H'
 stop:∀H M,HM K H M->ok M->nF K H1 H->J.stop ds.length H
abbrev D9:=qz->Mp->(T0 D->(Mp->Prop)->Mp->Prop)->Prop
def LN(K:m9)(wi:D9):TI:=λY H R'=>A9 λU M R=>uE K H Y U/\HM K H M/\wi U M R/\∀J H1 ds ok M1,xF K H1 J ds ok->HM K H1 M1->nF K H H1->ok M1->R ds ok M1->R' J H1
def I3(X:Cx)(tg iter:Expr)(wi:D9):Prop:=PI X tg iter (LN X.K wi)
def PI.mono{X:Cx}{tg e:Expr}{t t':TI}(h:PI X tg e t)(m:∀Y H Q,t' Y H Q->t Y H Q):PI X tg e t':=λMf s Y H Q I q=>h Mf s Y H Q I (m Y H Q q)
variable {H1:Hp}
def Ec{a:Addr}{ds:T0 D}:xF K H1 (Ko K a) ds (λM=>ma M a=some ds) where
 go:=λi H M hi hm ok _=>by obtain⟨xs,h1,h2,_⟩:=mR hm ok;obtain⟨x,e,_⟩:=h2.get (bF hi);exact⟨xs,x,h1,e⟩
 mv:=λi d H M x H' hd hm ok _ y=>by obtain⟨xs,h1,h2,_⟩:=mR hm ok;obtain⟨e,y⟩:=y;subst e;obtain⟨x',e,hx⟩:=h2.get hd;have:=y xs h1;rw[e]at this;cases this;exact⟨hx,hm,.refl⟩
 stop:=λH M hm ok _=>by obtain⟨xs,h1,h2,_⟩:=mR hm ok;exact⟨xs,h1,by rw[h2.length];exact bB _⟩
def FC{a:Addr}{ds:T0 D}{xs:T0 V}(h1:p9 K H1 a xs)(h2:mS K H1 ds xs):xF K H1 (KH K a) ds (λ_=>True) where
 go:=λi H M hi hm ok e1=>by obtain⟨x,e,_⟩:=h2.get (bF hi);exact⟨xs,x,e1.t _ _ h1,e⟩
 mv:=λi d H M x H' hd hm ok e1 y=>by obtain⟨e,y⟩:=y;subst e;obtain⟨x',e,hx⟩:=h2.get hd;have:=y xs (e1.t _ _ h1);rw[e]at this;cases this;exact⟨hx.mono e1,hm,.refl⟩
 stop:=λH M hm ok e1=>⟨xs,e1.t _ _ h1,by rw[h2.length];exact bB _⟩
def HF{a:Addr}{ds:T0 D}{xs:T0 V}(h1:Fe K H1 a xs)(h2:mS K H1 ds xs):xF K H1 (Ko K a) ds (λ_=>True) where
 go:=λi H M hi hm ok e1=>by obtain⟨x,e,_⟩:=h2.get (bF hi);exact⟨xs,x,(h1.mono e1).sq,e⟩
 mv:=λi d H M x H' hd hm ok e1 y=>by obtain⟨e,y⟩:=y;subst e;obtain⟨x',e,hx⟩:=h2.get hd;have:=y xs (h1.mono e1).sq;rw[e]at this;cases this;exact⟨hx.mono e1,hm,.refl⟩
 stop:=λH M hm ok e1=>⟨xs,(h1.mono e1).sq,by rw[h2.length];exact bB _⟩
def wH{n:Nat}{lo:Int}:xF K H1 (J0 lo n) ((List.range n).map λi=>D.int (lo+(i:Nat))) (λ_=>True) where
 go:=λi H M hi hm ok e1=>by
  have z:i<n:=by simpa using hi
  exact z
 mv:=λi d H M x H' hd hm ok e1 y=>by
  obtain⟨e,y⟩:=y;subst e;subst y;have hi:i<n:=by
   have:=(bL.mp hd).1
   simpa using this
  have hd':d=D.int (lo+(i:Nat)):=by rw[bM,gU hi]at hd;exact(bJ hd).symm
  subst hd';exact⟨.int,hm,.refl⟩
 stop:=λH M hm ok e1=>by show n<=_;simp
variable {scope:Scope}{ix:T0 (Option Nat)}{N':QQQ}{iter Nc:Expr}{ML:T0 Expr}{wi:D9}{g:yJ}{tt:wu}{te:T3}{tg:Expr}
def Jw(t:T3):D9:=λU M R=>t U M λx M1=>match x with
 | .tup ds=>R ds (λ_=>True) M1
 | .ref a=>(ma M1 a).elim False λds=>R ds (λM=>ma M a=some ds) M1
 | .rl ds=>R ds (λ_=>True) M1
 | .str z=>R (z.cps.toList.map λc=>D.str ⟨#[c]⟩) (λ_=>True) M1
 | _=>False
def FO{K:m9}{H1:Hp}{z:Str}:xF K H1 (Lv z) (z.cps.toList.map λc=>D.str ⟨#[c]⟩) (λ_=>True) where
 go:=λi H M hi hm ok _=>by
  show i<z.cps.size
  simpa using hi
 mv:=λi d H M x H' hd hm ok _ y=>by obtain⟨e,c,e1,e2⟩:=y;subst e e2;rw[bM,cw,e1]at hd;cases hd;exact⟨.str,hm,.refl⟩
 stop:=λH M hm ok _=>by show _=z.cps.size;simp
def nO{l:Expr}{t:T3}(h:E3 X l t)(hc:X.calm=true:=by rfl):I3 X tg l (Jw t):=PI.mono (Gm hc h) λY H R' zz=>x7 zz λU M R hs hm ht k=>
 ⟨U,M,_,hs,hm,ht,λv H1 d M1 hd Mh e1 q1=>by
  cases d with
  | tup ds=>obtain⟨a,xs,rfl,h1,h2⟩:=hd.lw;exact .inl ⟨a,rfl,.inr ⟨⟨xs,h1⟩,k _ H1 ds _ M1 (FC h1 h2) Mh e1 trivial q1⟩⟩
  | ref a=>cases hd.lm;obtain⟨ds,e0,q⟩:=nH q1;obtain⟨xs,h1,h2,_⟩:=mR Mh e0;exact .inl ⟨a,rfl,.inl ⟨⟨xs,h1⟩,k _ H1 ds _ M1 Ec Mh e1 e0 q⟩⟩
  | str z=>exact .inr ⟨z,hd.str_inv,k _ H1 _ _ M1 FO Mh e1 trivial q1⟩
  | rl ds=>obtain⟨a,xs,rfl,h1,h2⟩:=hd.lF;exact .inl ⟨a,rfl,.inl ⟨⟨xs,h1.sq⟩,k _ H1 ds _ M1 (HF h1 h2) Mh e1 trivial q1⟩⟩
  | _=>exact q1.elim⟩
def G6(t:rX):D9:=λU M R=>t U M λds M1=>match ds with
 | [.int j]=>(-(2 ^ 62)<=j/\j<2 ^ 62)/\R ((List.range j.toNat).map λi=>D.int (0+(i:Nat))) (λ_=>True) M1
 | [.int i,.int j]=>(-(2 ^ 62)<=i/\i<2 ^ 62/\-(2 ^ 62)<=j/\j<2 ^ 62)/\R ((List.range (j - i).toNat).map λn=>D.int (i+(n:Nat))) (λ_=>True) M1
 | _=>False
def r9{a:Expr}{ta:rX}(hg:Gl X "range")(hm:X.mg "range"=none)(ha:A3 X [a] ta)(hs:starEach [a] X.env=[(false,eval a X.env)]:=by rfl):I3 X tg (.Call (.Name "range" p) [a] [] pos) (G6 λU M Q=>ta U M λds M1=>ds.length=1/\Q ds M1):=
 PI.mono (CI hg hm ha hs) λY H R' zz=>x7 zz λU M R hs hm ht k=>⟨U,M,_,hs,hm,ht,λvs H1 ds M1 hd Mh e1 q1=>by
  obtain⟨hl,q1⟩:=q1;split at q1
  .obtain⟨v,rfl,hv⟩:=oJ hd;cases hv.int_inv;exact⟨_,rfl,q1.1.1,q1.1.2,k _ H1 _ _ M1 wH Mh e1 trivial q1.2⟩
  .simp at hl
  .exact q1.elim⟩
def B6{a b:Expr}{ta:rX}(hg:Gl X "range")(hm:X.mg "range"=none)(ha:A3 X [a,b] ta)(hs:starEach [a,b] X.env=[(false,eval a X.env),(false,eval b X.env)]:=by rfl)(Nk:starEach [b] X.env=[(false,eval b X.env)]:=by rfl):
  I3 X tg (.Call (.Name "range" p) [a,b] [] pos) (G6 λU M Q=>ta U M λds M1=>ds.length=2/\Q ds M1):=
 PI.mono (Co hg hm ha hs Nk) λY H R' zz=>x7 zz λU M R hs hm ht k=>⟨U,M,_,hs,hm,ht,λvs H1 ds M1 hd Mh e1 q1=>by
  obtain⟨hl,q1⟩:=q1;split at q1
  .simp at hl
  .obtain⟨v,u,rfl,hv,hw⟩:=tM hd;cases hv.int_inv;cases hw.int_inv;exact⟨_,_,rfl,q1.1,k _ H1 _ _ M1 wH Mh e1 trivial q1.2⟩
  .exact q1.elim⟩
def yj(g:yJ)(tb:ua)(ok:Mp->Prop)(E:zH):T0 D->qz->Mp->Prop
 | [],U,M=>E.nx U M
 | d::r,U,M=>g d U M λδ2 M2=>tb {E with nx:=λδ' M'=>ok M'/\yj g tb ok E r δ' M',ct:=λδ' M'=>ok M'/\yj g tb ok E r δ' M',bk:=E.nx} δ2 M2
def IU(wi:D9)(g:yJ)(tb:ua):ua:=λE U M=>wi U M λds ok M1=>yj g tb ok E ds U M1
def qv{iter:Expr}{body:T0 Stmt}{wi:D9}{g:yJ}{tb:ua}(hp:PassesOwn (model X.prog X.w) X.A X.env X.xe)(hc:X.calm=true)(hi:I3 X tg iter wi)(hg:G3 X tg g)(hb:En X body tb) (hs:∀x,foldedSetIterable iter X.env x=pure x:=by intro _;rfl):S3 X (.For tg iter body [] pos) (IU wi g tb):=PS.mono (Il hp hc hi hg hb hs) λD' Y H zz=>E5 zz λU M E hs hm ht k1 k2 k3 k4=>
 ⟨U,M,_,hs,hm,ht,λJ H1 ds ok M1 S Mh e1 ok1 q1=>by
  refine⟨λi m σ' H'=>m=ds.length - i/\i<=ds.length/\∃δ' M',uE X.K H' σ' δ'/\HM X.K H' M'/\ok M'/\nF X.K H1 H'/\σ'.length=Y.length/\yj g tb ok E (ds.drop i) δ' M',⟨ds.length,by simp,cu _,U,M1,hs.mono e1,Mh,ok1,.refl,rfl,by simpa using q1⟩,?_⟩
  rintro i m σ' H' ⟨rfl,hi,δ',M',MM,N8,O7,e',l',q'⟩
  by_cases Mr:i<ds.length
  .rw[dg Mr]at q';refine .inr ⟨S.go i H' M' Mr N8 O7 e',λσ2 H2=>∃δ2 M2,uE X.K H2 σ2 δ2/\HM X.K H2 M2/\ok M2/\nF X.K H1 H2/\σ2.length=Y.length/\yj g tb ok E (ds.drop (i+1)) δ2 M2,λσ2 H2 z=>⟨ds.length - (i+1),by lia,rfl,Mr,z⟩,λx H2 y=>?_⟩;obtain⟨hx,Mz,e2⟩:=S.mv i ds[i] H' M' x H2 (bF Mr) N8 O7 e' y;refine⟨ds[i],δ',M',_,hx,MM.mono e2,Mz,q',λσ3 H3 δ3 M3 x1 x2 x3 x4 x5=>?_⟩;refine⟨δ3,M3,_,x1,x2,x5,λσ4 H4 δ4 M4 y1 y2 y3 y4 y5=>?_,λv H4 d M4 y1 y2 y3 y4=>?_,λσ4 H4 δ4 M4 y1 y2 y3 y4 y5=>?_,λσ4 H4 δ4 M4 y1 y2 y3 y4 y5=>?_⟩
   .exact⟨δ4,M4,y1,y2,y5.1,e'.trans (e2.trans (x3.trans y3)),by rw[y4,x4,l'],y5.2⟩
   .exact k2 v H4 d M4 y1 y2 (e1.trans (e'.trans (e2.trans (x3.trans y3)))) y4
   .exact k1 σ4 H4 δ4 M4 y1 y2 (e1.trans (e'.trans (e2.trans (x3.trans y3)))) (by rw[y4,x4,l']) y5
   .exact⟨δ4,M4,y1,y2,y5.1,e'.trans (e2.trans (x3.trans y3)),by rw[y4,x4,l'],y5.2⟩
  .have e:i=ds.length:=by lia
   subst e;rw[ku]at q';exact .inl ⟨S.stop H' M' N8 O7 e',k1 σ' H' δ' M' MM N8 (e1.trans e') l' q'⟩⟩
noncomputable def Gu(ix:T0 (Option Nat))(U:qz):qz:=ix.map λo=>o.bind λi=>(U[i]?).join
def GE{K:m9}{H:Hp}{Y:St}{U:qz}{ix:T0 (Option Nat)}(h:uE K H Y U):uE K H (Gk ix Y) (Gu ix U):=λi d q=>by
 unfold Gu at q;unfold Gk;rw[bM]at q ⊢;cases e:ix[i]? with
 | none=>rw[e]at q;cases q
 | some o=>
  rw[e]at q;cases o with
  | none=>cases q
  | some j=>
   have q':(U[j]?).join=some d:=bJ q;have e4:U[j]?=some (some d):=by
    cases r:U[j]? with
    | none=>rw[r]at q';cases q'
    | some w=>rw[r]at q';exact c8 some q'
   obtain⟨v,e5,hv⟩:=h j d e4;refine⟨v,?_,hv⟩;show some ((Y[j]?).join)=some (some v);rw[e5];rfl
def rk(g:yJ)(tt:wu)(te:T3)(ok:Mp->Prop)(Q:DK):T0 D->T0 D->qz->Mp->Prop
 | [],acc,_,M=>acc.length<=sizeLine/\∀p,M p=none->Q (.ref p) (mL M p (.lst acc))
 | d::r,acc,U,M=>acc.length<sizeLine/\g d U M λδ2 M2=>tt δ2 M2 λb M3=>if b=true then te δ2 M3 λy M4=>ok M4/\rk g tt te ok Q r (acc++[y]) δ2 M4 else ok M3/\rk g tt te ok Q r acc δ2 M3
def Dm(ix:T0 (Option Nat))(wi:D9)(g:yJ)(tt:wu)(te:T3):T3:=λU M Q=>wi U M λds ok M1=>rk g tt te ok Q ds [] (Gu ix U) M1
def F3(X:Cx)(ML:T0 Expr)(t:wu):Prop:=PF X ML (Jb X.K t)
def PF.mono{X:Cx}{e:T0 Expr}{t t':TT}(h:PF X e t)(m:∀Y H Q,t' Y H Q->t Y H Q):PF X e t':=λMf s Y H Q I q=>h Mf s Y H Q I (m Y H Q q)
def xk:wu:=λ_ M Q=>Q true M
def oA:F3 X [] xk:=PF.mono HJ λY H Q' zz=>x7 zz λU M Q hs hm ht k=>k true H M hm .refl ht
def AL{c:Expr}{t:wu}(h:B3 X c t):F3 X [c] t:=HZ h
def BD:∀Y H Q',lo X.K (Dm ix wi g tt te) Y H Q'->Du ix (LN X.K wi) (Kw X.K g) (Jb X.K tt) (lo X.K te) Y H Q':=λY H Q' zz=>x7 zz λU M Q hs hm ht k=>
 ⟨U,M,_,hs,hm,ht,λJ H1 ds ok M1 S Mh e1 ok1 q1=>by
  refine⟨λi m ys σ' H'=>m=ds.length - i/\i<=ds.length/\∃δ' M' acc,uE X.K H' σ' δ'/\HM X.K H' M'/\mS X.K H' acc ys/\ok M'/\nF X.K H1 H'/\rk g tt te ok Q (ds.drop i) acc δ' M',⟨ds.length,by simp,cu _,Gu ix U,M1,[],GE (hs.mono e1),Mh,.nil,ok1,.refl,by simpa using q1⟩,?_⟩
  rintro i m ys σ' H' ⟨rfl,hi,δ',M',acc,MM,N8,Ox,O7,e',q'⟩
  by_cases Mr:i<ds.length
  .rw[dg Mr]at q';obtain⟨hz,q'⟩:=q';refine .inr ⟨S.go i H' M' Mr N8 O7 e',by rw[<-Ox.length];exact hz,λx H2 y=>?_⟩;obtain⟨hx,Mz,e2⟩:=S.mv i ds[i] H' M' x H2 (bF Mr) N8 O7 e' y;refine⟨ds[i],δ',M',_,hx,MM.mono e2,Mz,q',λσ3 H3 δ3 M3 x1 x2 x3 x4 x5=>?_⟩;refine⟨δ3,M3,_,x1,x2,x5,λb H4 M4 y2 y3 y5=>?_⟩;cases b with
   | true=>rw[bw rfl]at y5 ⊢;refine⟨δ3,M4,_,x1.mono y3,y2,y5,λv H5 d M5 z1 z2 z3 z4=>⟨ds.length - (i+1),by lia,rfl,Mr,δ3,M5,acc++[d],x1.mono (y3.trans z3),z2,(Ox.mono (e2.trans (x3.trans (y3.trans z3)))).snoc z1,z4.1,e'.trans (e2.trans (x3.trans (y3.trans z3))),z4.2⟩⟩
   | false=>rw[bq bN]at y5 ⊢;exact⟨ds.length - (i+1),by lia,rfl,Mr,δ3,M4,acc,x1.mono y3,y2,Ox.mono (e2.trans (x3.trans y3)),y5.1,e'.trans (e2.trans (x3.trans y3)),y5.2⟩
  .have e:i=ds.length:=by lia
   subst e;rw[ku]at q';refine .inl ⟨S.stop H' M' N8 O7 e',by rw[<-Ox.length];exact q'.1,λp hp=>?_⟩;have e5:nF X.K H' (upd H' p (.lst ys)):=.new hp;exact k _ _ _ _ .ref (N8.new (c:=.lst acc) hp ⟨_,m7,Ox.mono e5⟩) (e1.trans (e'.trans e5)) (q'.2 p (N8.fresh hp))⟩
def nS(hc:X.calm=true)(S:om X scope ix N')(hi:I3 X tg iter wi)(hg:∀{C s0 H0 ex},G3 (X.comp scope N' C s0 H0 ex) tg g)(ht:∀{C s0 H0 ex},F3 (X.comp scope N' C s0 H0 ex) ML tt)(he:∀{C s0 H0 ex},E3 (X.comp scope N' C s0 H0 ex) Nc te) (hs:∀x,foldedSetIterable iter X.env x=pure x:=by intro _;rfl):E3 X (.ListComp Nc [⟨tg,iter,ML,0⟩] scope pos) (Dm ix wi g tt te):=PE.mono (Fg (g:=Kw X.K g) (tt:=Jb X.K tt) (te:=lo X.K te) hc S hi (λ_ _ _ _=>hg) (λ_ _ _ _=>ht) (λ_ _ _ _=>he) hs) BD
def qw{i:Nat}{x:Str}{px NX:Pos}(hN:X.N.Nodup)(hix:X.N[i]?=some x)(hx:EH X.env.scope x)(hc:X.calm=true)(S:om X scope ix N')(hi:I3 X tg iter wi)(hg:∀{C s0 H0 ex},G3 (X.comp scope N' C s0 H0 ex) tg g)(ht:∀{C s0 H0 ex},F3 (X.comp scope N' C s0 H0 ex) ML tt) (he:∀{C s0 H0 ex},E3 (X.comp scope N' C s0 H0 ex) Nc te) (NY:swapsWith (.ListComp Nc [⟨tg,iter,ML,0⟩] scope pos) (some (.Name x px)) NX.line X.env=pure true:=by rfl)
  (hf:De X x:=by first|exact .inl rfl|exact .inr rfl|assumption) (hs:∀x,foldedSetIterable iter X.env x=pure x:=by intro _;rfl):
  S3 X (.Assign [.Name x px] (.ListComp Nc [⟨tg,iter,ML,0⟩] scope pos) NX) (Io (Dm ix wi g tt te) (qY i)):=PS.lZ (As (g:=Kw X.K g) (tt:=Jb X.K tt) (te:=lo X.K te) hN hix hx hc S hi (λ_ _ _ _=>hg) (λ_ _ _ _=>ht) (λ_ _ _ _=>he) NY hf hs) λD' Y H hl zz=>E5 zz λU M D hs hm ht k1 k2 k3 k4=>
 BD Y H _ ⟨U,M,_,hs,hm,ht,λv H1 d M1 hd Mh e1 q1=>k1 _ H1 _ M1 ((hs.mono e1).set hd (by rw[hl];exact(bL.mp hix).1)) Mh e1 (by simp) q1⟩
def L7{A:Ar}{k:Nat}(hr:oO k A):A.units+9<cLine:=by have:=hr.units;lia
noncomputable def Ai(sc:Scope)(N:QQQ)(scope:Scope)(ix:T0 (Option Nat))(N':QQQ):Bool:=
 (scope.kind==.function)&&(scope.names.all λy=>!(y.2==.cell))&&(scope.names.all λy=>!(y.2==.local)||(scope.names.lookup y.1==some .local))&&
 (scope.names.all λy=>!(y.2==.free)||(sc.names.lookup y.1==some .cell)||(sc.names.lookup y.1==some .free))&&(ix.length==N'.length)&&
 ((ix.zip N').all λp=>match p.1 with|none=>true|some i=>(N[i]?==some p.2)&&(scope.names.lookup p.2==some .free))
def JK{X:Cx}{scope:Scope}{ix:T0 (Option Nat)}{N':QQQ}(h:Ai X.env.scope X.N scope ix N'=true):om X scope ix N':=by
 unfold Ai at h;simp only[cO]at h;obtain⟨⟨⟨⟨⟨h1,h2⟩,h3⟩,h4⟩,h5⟩,h6⟩:=h;refine⟨by simpa using h1,λy hy e=>?_,λy hy e=>?_,λy hy e=>?_,by simpa using h5,λj i x e1 e2=>?_⟩
 .have:=ck.mp h2 y hy;rw[e]at this;simp at this
 .have:=ck.mp h3 y hy;rw[e]at this
  simpa using this
 .have:=ck.mp h4 y hy;rw[e]at this
  simpa using this
 .have hm:(some i,x)∈ix.zip N':=by
   have:(ix.zip N')[j]?=some (some i,x):=by rw[List.getElem?_zip_eq_some];exact⟨e1,e2⟩
   exact cJ this
  have:=ck.mp h6 _ hm
  simpa using this
section
variable {a b:Expr}
def Bv(op Nb:CmpOp)(ta tb tc:T3):T3:=λU M Q=>ta U M λx M1=>tb U M1 λy M2=>GP op x y M2 λz M3=>match z with
 | .bl k=>if k=true then tc U M3 λw M4=>GP Nb y w M4 Q else Q (.bl false) M3
 | _=>False
def qr{op Nb:CmpOp}(hu:X.A.units+9<cLine)(ha:E3 X a ta)(hb:E3 X b tb)(hc:E3 X c tc)(hmk:lastMarks [op,Nb] [b,c]=false:=by rfl):
  E3 X (.Compare a [op,Nb] [b,c] pos) (Bv op Nb ta tb tc):=PE.mono (EG (BV op hu) (BV Nb hu) ha hb hc hmk) λY H Q' zz=>x7 zz λU M Q hs hm ht k=>
 ⟨U,M,_,hs,hm,ht,λv H1 x M1 hx Mh e1 q1=>⟨U,M1,_,hs.mono e1,Mh,q1,λu H2 y M2 hy Mz e2 q2=>⟨x,y,M2,_,hx.mono e2,hy,Mz,q2,λw H3 z M3 hz N9 e3 q3=>by
  cases z with
  | bl c=>
   refine⟨c,hz.lu,?_⟩;cases c with
   | true=>refine(bw rfl).mpr ⟨U,M3,_,hs.mono (e1.trans (e2.trans e3)),N9,(bw rfl).mp q3,λw' H4 d M4 hd hm4 e4 q4=>⟨y,d,M4,Q,hy.mono (e3.trans e4),hd,hm4,q4,sH (e1.trans (e2.trans (e3.trans e4))) k⟩⟩
   | false=>exact(bq bN).mpr (k _ H3 _ M3 .bl N9 (e1.trans (e2.trans e3)) ((bq bN).mp q3))
  | _=>exact q3.elim⟩⟩⟩
def Dd{op Nb:CmpOp}(hu:X.A.units+9<cLine)(ha:E3 X a ta)(hb:E3 X b tb)(hc:E3 X c tc)(hmk:lastMarks [op,Nb] [b,c]=false:=by rfl):
  B3 X (.Compare a [op,Nb] [b,c] pos) (b3 (Bv op Nb ta tb tc)):=PT.mono (Ee (BV op hu) (BV Nb hu) ha hb hc hmk) λY H Q' zz=>x7 zz λU M Q hs hm ht k=>
 ⟨U,M,_,hs,hm,ht,λv H1 x M1 hx Mh e1 q1=>⟨U,M1,_,hs.mono e1,Mh,q1,λu H2 y M2 hy Mz e2 q2=>⟨x,y,M2,_,hx.mono e2,hy,Mz,q2,λw H3 z M3 hz N9 e3 q3=>by
  cases z with
  | bl c=>
   refine⟨c,hz.lu,?_⟩;cases c with
   | true=>
    refine(bw rfl).mpr ⟨U,M3,_,hs.mono (e1.trans (e2.trans e3)),N9,(bw rfl).mp q3,λw' H4 d M4 hd hm4 e4 q4=>⟨y,d,M4,_,hy.mono (e3.trans e4),hd,hm4,q4,λw5 H5 d5 M5 hd5 hm5 e5 q5=>?_⟩⟩;cases d5 with
    | bl c5=>exact⟨c5,hd5.lu,k c5 H5 M5 hm5 (e1.trans (e2.trans (e3.trans (e4.trans e5)))) q5⟩
    | _=>exact q5.elim
   | false=>exact(bq bN).mpr ⟨false,rfl,k false H3 M3 N9 (e1.trans (e2.trans e3)) ((bq bN).mp q3)⟩
  | _=>exact q3.elim⟩⟩⟩
structure Lm(K:m9)(C:Addr):Prop where
 ha:W.findIn K (.ref C) "__class__"=some (some (.builtin "object.__class__"))
 hn:W.specialIn K (.builtin "object.__class__") "__get__"=some (some (.builtin "getset_descriptor.__get__"))
 htk:W.takesIn K (.builtin "object.__class__")=some true
 hm:W.mroIn K C (.type "object")=some true
noncomputable def Af:Option qg->Option Vl
 | some (.lst _)=>some (.type "list")
 | some (.ins C _)=>some (.ref C)
 | some (.dk _)=>some (.type "dict")
 | some (.exc _)=>none
 | some (.fd _ _)=>none
 | none=>none
noncomputable def LU(M:Mp):D->Option Vl
 | .lB=>some (.type "NoneType")
 | .bl _=>some (.type "bool")
 | .int _=>some (.type "int")
 | .str _=>some (.type "str")
 | .tup _=>some (.type "tuple")
 | .ref a=>Af (M a)
 | .ty _=>none
 | .rl _=>some (.type "list")
noncomputable def K0:D->Option Vl
 | .ref C=>some (.ref C)
 | .ty n=>some (.type n)
 | _=>none
def DF(K:m9)(ds:T0 D)(M:Mp)(Q:DK):Prop:=match ds with
 | [x,c]=>(LU M x).elim False λt=>(K0 c).elim False λcv=>(∀C,t=.ref C->Lm K C)/\(W.kitOne K t cv).elim False λb=>Q (.bl b) M
 | _=>False
def wO:C3 X (.builtin "isinstance") (DF X.K):=by
 intro Mf s Y H vs us Q' I rv h;obtain⟨ds,M,Q,hd,hm,q,k⟩:=h;unfold DF at q;split at q
 .rename_i x c;obtain⟨v,u,rfl,hv,hw⟩:=tM hd;obtain⟨t,et,q⟩:=nH q;obtain⟨cv,ec,hC,q⟩:=nH q;obtain⟨b,eb,qb⟩:=nH q;obtain⟨uv,uw,rfl,Oy,rv2⟩:=A5 rv;have ecv:uw=cv:=by
   cases c with
   | ref C=>cases hw.lm;cases ec;exact rv2
   | ty n=>cases hw.lV;cases ec;exact rv2
   | _=>cases ec
  subst ecv;have fin:∀tk,EP X Mf Y Q' (.bool b) {s with toks:=tk}:=λtk=>⟨.bl b,H,I.tok tk,rfl,k _ _ _ _ .bl hm .refl qb⟩;cases x with
  | lB=>cases hv.lq;cases et;exact pQ I Oy .lB eb fin
  | bl y=>cases hv.lu;cases et;exact pQ I Oy (.bl y) eb fin
  | int y=>cases hv.int_inv;cases et;exact pQ I Oy (.int y) eb fin
  | str y=>cases hv.str_inv;cases et;exact pQ I Oy (.str y) eb fin
  | tup ds=>obtain⟨a,xs,rfl,h1,h2⟩:=hv.lw;cases et;cases Oy;obtain⟨its,r,p,_⟩:=I.tuple h1;obtain⟨o,g1,g2,_⟩:=p;exact dW W.kitx_tuple I.lJ ⟨o,g1,g2⟩ eb (λz=>nomatch z) fin
  | ref a=>
   cases hv.lm;have et:Af (M a)=some t:=et;cases e:M a with
   | none=>rw[e]at et;cases et
   | some cell=>
    rw[e]at et;have ok:=hm a cell e;cases cell with
    | lst ds=>cases et;obtain⟨xs,e1,_⟩:=ok;exact pQ I Oy (.lst e1) eb fin
    | ins C fs=>cases et;obtain⟨dx,vs,e1,cl,_⟩:=ok;obtain⟨i1,i2,i3,i4⟩:=hC C rfl;exact pQ I Oy (.ins e1 cl i1 i2 i3 i4) eb fin
    | dk kvs=>cases et;obtain⟨vs,e1,_⟩:=ok;exact pQ I Oy (.dK e1) eb fin
    | exc C=>cases et
    | fd _ _=>cases et
  | ty n=>cases et
  | rl ds=>obtain⟨p,xs,rfl,h1,h2⟩:=hv.lF;cases et;cases Oy;obtain⟨its,r,⟨o,n,g1,g2,_⟩,_⟩:=I.list h1.sq;exact dW ka I.lJ ⟨o,g1,g2⟩ eb (λz=>nomatch z) fin
 .exact q.elim
noncomputable def AJ:T0 D->Option (T0 Bool)
 | []=>some []
 | .bl b::r=>(AJ r).map (b::·)
 | _::_=>none
theorem BA{K:m9}{H:Hp}:∀{ds:T0 D} {bs:T0 Bool} {xs:T0 V} {us:T0 Vl},AJ ds=some bs->mS K H ds xs->nv xs us->us=bs.map Value.bool
 | [],bs,xs,us,e,h,r=>by cases e;have:=h.nil_inv;subst this;cases r;rfl
 | d::ds,bs,xs,us,e,h,r=>by
  cases d with
  | bl b=>
   obtain⟨y,ys,rfl,h1,h2⟩:=h.inv;cases h1.lu;unfold AJ at e;cases q:AJ ds with
   | none=>rw[q]at e;cases e
   | some cs=>
    rw[q]at e;cases e;cases r with
    | cons r1 r2=>cases r1;rw[BA q h2 r2];rfl
  | _=>cases e
def Ki(ds:T0 D)(M:Mp)(Q:DK):Prop:=match ds with
 | [.ref a]=>(ma M a).elim False λes=>(AJ es).elim False λbs=>Q (.bl (bs.all id)) M
 | _=>False
def yl(hc:X.calm=true):C3 X (.builtin "all") Ki:=by
 intro Mf s Y H vs us Q' I rv h;obtain⟨ds,M,Q,hd,hm,q,k⟩:=h;unfold Ki at q;split at q
 .rename_i a;obtain⟨v,rfl,hv⟩:=oJ hd;obtain⟨es,e0,q⟩:=nH q;obtain⟨bs,e1,q⟩:=nH q;cases hv.lm;obtain⟨u,rfl,ru⟩:=wb rv;cases ru;obtain⟨xs,h1,h2,_⟩:=mR hm e0;obtain⟨its,r,pl,hz⟩:=I.list h1;have eits:=BA e1 h2 r;subst eits;have N6:a≠s.heap.objs.size:=by obtain⟨o,_,e,_⟩:=pl;exact bH (bD e)
  refine call_all_walk (fu pl.isList ?_);refine⟨s.heap.objs.size,_,_,_,_,_,λi=>(bs[i]?).getD true,rfl,jn (A:=X.A.in1) (I.ok.hd hc) _ a N6 (bs.map Value.bool).toArray,⟨⟨_,bE _ rfl,rfl,rfl⟩,?_⟩,λi v s' Q E hP hQ=>?_,λh' tk hk=>?_⟩
  .obtain⟨o,n,e,c,d,q⟩:=pl;exact⟨o,bp _ e,c,n,q⟩
  .simp only[gG,bM]at hP;cases e2:bs[i]? with
   | none=>rw[e2]at hP;cases hP
   | some b=>rw[e2]at hP;cases hP;have hQ:Q ((bs[i]?).getD true) s':=hQ;rw[e2]at hQ;exact cY hQ
  .have ea:(List.range (bs.map Value.bool).toArray.size).all (λi=>(bs[i]?).getD true)=bs.all id:=by
    rw[bA,bi];rw[Bool.eq_iff_iff,ck,ck];constructor
    .intro z b hb;obtain⟨i,hi,e⟩:=fP hb;have:=z i (dA.mpr hi);rw[bF hi,e]at this;exact this
    .intro z i hi;have Oz:=dA.mp hi;rw[bF Oz];exact z _ (gB Oz)
   rw[ea];refine⟨.bl (bs.all id),H,?_,rfl,k _ _ _ _ .bl hm .refl q⟩;exact I.kept (h':=h') (t':=tk) λb o e=>hk b o (by simpa using bH (bD e)) (bp _ e)
 .exact q.elim
def M3(X:Cx)(id:String)(r:D->T0 D->Mp->DK->Prop):Prop:=LC X id λvx vs H Q'=>∃x ds M Q,n8 X.K H x vx/\mS X.K H ds vs/\HM X.K H M/\r x ds M Q/\Up X.K H Q' Q
def zg(M:Mp):D->Prop
 | .ref a=>(ma M a).isSome=true
 | _=>False
def KF(r:D->T0 D->Mp->DK->Prop)(to:T3)(t:rX):T3:=λU M Q=>to U M λx M1=>zg M1 x/\t U M1 λds M2=>r x ds M2 Q
def IM{K:m9}{H:Hp}{M:Mp}{x:D}{v:V}(hm:HM K H M)(h:n8 K H x v)(l:zg M x):Ll K "list" v H:=by
 cases x with
 | ref a=>cases h.lm;obtain⟨ds,e⟩:=iC.mp (show(ma M a).isSome=true from l);obtain⟨xs,h1,_⟩:=mR hm e;exact .inl ⟨rfl,xs,h1⟩
 | _=>exact l.elim
def GZ{id:String}{name:Str}{r:D->T0 D->Mp->DK->Prop}(slot:Slot "list" name id)(hty:typeOf (.builtin id)=pure (.type "method_descriptor"))(hm:M3 X id r)(ho:E3 X o ta)(ha:A3 X (e::es) t) (MJ:attributeBase o name X.env (eval o X.env)=eval o X.env:=by rfl)
  (Nx:((backTo pos (starEach (e::es) X.env)).all (λx=>!x.1)&&(backToKw pos (keywordEach [] X.env)).all (λx=>x.1.isSome)
   &&decide ((e::es).length+([]:T0 Keyword).length+(if ([]:T0 Keyword).isEmpty then 0 else 1)<30))=true:=by rfl)
  (MK:(Mj.endLine==pos.line)=true:=by rfl) (hs:xG X e es:=by rfl) (MC:yL X pos es:=by rfl):
  E3 X (.Call (.Attribute o name Mj) (e::es) [] pos) (KF r ta t):=PE.mono (Kh PySem.F.plainAttrs_list slot hty hm ho ha MJ Nx MK hs MC) λY H Q' zz=>x7 zz λU M Q hs hm ht k=>
 ⟨U,M,_,hs,hm,ht,λv H1 x M1 hx Mh e1 q1=>⟨IM Mh hx q1.1,U,M1,_,hs.mono e1,Mh,q1.2,λvs H2 ds M2 Nw Mz e2 q2=>⟨x,ds,M2,Q,hx.mono e2,Nw,Mz,q2,sH (e1.trans e2) k⟩⟩⟩
structure Dk(K:m9)(C:Addr)(m:Str)(f:Addr):Prop where
 hg:W.specialIn K (.ref C) "__getattribute__"=some (some (.builtin "type.__getattribute__"))
 rd:W.readsIn K C (.type "type")=true
 fc:W.findCls K (.ref C) (.type "type") m=some (.val (.ref f))
def Fk{sp:Sp}{t:TA}{pl:Sem Bool}(cm:Dk X.K C m f)(F:vC X.prog X.w X.K X.mg X.base E4 k f fd ps sp)(hr:oO k X.A)(hg:Gl X x)(hm:X.mg x=some (.ref C))(hk:W.keepIn X.K (.ref f)=true)(hb:qW X.K fd ps [])(ha:PA X (e::es) t) (ME:va x:=by decide) (MT:xG X e es:=by rfl) (MA:yL X pos es:=by rfl)
  (ht:eval (.Call (.Attribute (.Name x p) m Mj) (e::es) [] pos) X.env=(do
   let ov<-eval (.Name x p) X.env
   standAt Mj.atName
   let(f,first)<-holding [ov] (getMethod ov m pl)
   callWith pos f first (backTo pos (starEach (e::es) X.env)) (backToKw pos (keywordEach [] X.env))):=by rfl):
  PE X (.Call (.Attribute (.Name x p) m Mj) (e::es) [] pos) (λY H Q=>t Y H λvs H1=>sp vs H1 Q E0):=by
 intro Mf s Y H Q I h;refine kG (pl:=pl) (uV I hg hm ?_ ME) ht;refine W.method_cls I.lJ cm.hg (W.cls_value I.lJ cm.rd cm.fc rfl ?_);refine jJ (first:=[]) (h₀:=X.base) I.ok.mod.ml hk (pB (ha pos Mf _ Y H _ (I.tok _) h) λus s2 zz=>x5 zz λvs H2 I2 r q2=>⟨I2.lJ,?_⟩) MT MA;exact AQ F hr hb .nil (A0 (X:=X)) I2 r (by rw[bY];exact q2)
def GG{pl:Sem Bool}(cm:Dk X.K C m f)(F:GH X.prog X.w X.K X.mg X.base k f fd ps sp)(hr:oO k X.A)(hg:Gl X x)(hm:X.mg x=some (.ref C))(hk:W.keepIn X.K (.ref f)=true)(hb:qW X.K fd ps [])(ha:A3 X (e::es) t) (ME:va x:=by decide) (MT:xG X e es:=by rfl) (MA:yL X pos es:=by rfl)
  (ht:eval (.Call (.Attribute (.Name x p) m Mj) (e::es) [] pos) X.env=(do
   let ov<-eval (.Name x p) X.env
   standAt Mj.atName
   let(f,first)<-holding [ov] (getMethod ov m pl)
   callWith pos f first (backTo pos (starEach (e::es) X.env)) (backToKw pos (keywordEach [] X.env))):=by rfl):
  E3 X (.Call (.Attribute (.Name x p) m Mj) (e::es) [] pos) (wM sp t):=PE.mono (Fk cm F hr hg hm hk hb ha ME MT MA ht) λY H Q' zz=>x7 zz λU M Q hs hm ht k=>
 ⟨U,M,_,hs,hm,ht,λvs H1 ds M1 hd Mh e1 q1=>⟨ds,M1,Q,hd,Mh,q1,sH e1 k⟩⟩
def oh:bootBuiltins "len"=some (.builtin "len"):=by decide+kernel
def I0:bootBuiltins "min"=some (.builtin "min"):=by decide+kernel
def sN:bootBuiltins "isinstance"=some (.builtin "isinstance"):=by decide+kernel
def yo:bootBuiltins "all"=some (.builtin "all"):=by decide+kernel
def zw:bootBuiltins "tuple"=some (.type "tuple"):=by decide+kernel
def tW:bootBuiltins "list"=some (.type "list"):=by decide+kernel
def vf:bootBuiltins "dict"=some (.type "dict"):=by decide+kernel
def DR:bootBuiltins "zip"=some (.type "zip"):=by decide+kernel
end
theorem _root_.L2.Inv.drawn{ch:QXQ}{T:Addr}{xs:T0 V}{its:T0 Vl}{h':Heap}{tk:Nat}(I:Inv X Mf Y H s)(Ni:∀b∈ch,ui X Mf H b)(k:∀b o,b∉ch->s.heap.get? b=some o->h'.get? b=some o)(hT:s.heap.objs.size<=T)(hx:xs.length<=sizeLine) (rv:nv xs its) (ht:xO h' T its.toArray):Inv X Mf Y (upd H T (.tup xs)) {s with heap:=h',toks:=tk}:=by
 have OA:H T=none:=I.lC.fresh hT;have nT:∀b o,s.heap.get? b=some o->b≠T:=λb o e=>bH (bO (bD e) hT);refine I.step (g':=s.gens) (d':=s.drawn) (ch:=ch) (λb hb=>⟨(Ni b hb).2.2.2.1,(Ni b hb).2.1,(Ni b hb).2.2.2.2.1,(Ni b hb).2.2.2.2.2⟩) (λb o _ _ hc e _=>k b o hc e) (λb o _ _ hc e _=>⟨o.slots,k b o hc e⟩) (λb o _ e n=>by rw[nh (nT b o e)];exact n)
  (λb o hc e=>⟨o,k b o hc e⟩) (λb ys e=>by rw[nh (ny e OA)];exact e) (λb o u e=>by rw[nh (ny e OA)];exact e) (λb ps e=>⟨#[],by rw[nh (ny e OA),e];simp⟩) (λm hm=>?_) (λb u e=>?_) I.bare
 .obtain⟨o,es,ep,ho,r⟩:=hm;exact⟨o,es,ep,k _ o (λz=>(Ni _ z).2.1 rfl) ho,r⟩
 .by_cases hb:b=T
  .subst hb;rw[m7]at e;cases e;exact⟨hx,its,rv,ht⟩
  .rw[nh hb]at e;refine(I.lC b u e).lT (λc v hc q=>k c v (λz=>?_) q) (λc q=>by rw[nh (ny q OA)];exact q) (λc ys q=>by rw[nh (ny q OA)];exact q);have n:=(Ni c z).1;rcases hc with y|y
   .rw[y,e]at n;cases n
   .rw[y]at n;cases n
variable {tp:Pos}{MP:T0 Expr}{n:Nat}{prog:Pg}{A:Ar}{E:QQX}
def zW{it t:Addr}{i:Nat}{its:Array Vl}{x:Vl}{Q:QQX}(hi:s.heap.IsTupleIter it t i)(ht:s.heap.IsTuple t its)(hx:its[i]?=some x) (hQ:∀g,g.IsTupleIter it t (i+1)->Heap.SameBut it s.heap g->Q x {s with heap:=g}):wpAny (model prog w) A (Builtin.SmallTypes.nextOf (.ref it)) Q E s:=by
 obtain⟨ob,e1,e2,e3⟩:=id hi;obtain⟨ot,e4,_,nt,e5⟩:=ht;unfold Builtin.SmallTypes.nextOf;refine bh (cG (name:=Str.ofString "__next__") hi.typeIs eG (cy eG hi.typeIs hZ ?_ (g9 _)));show wpAny (model prog w) _ (field (.ref it) 0>>=_) _ _ s;refine bh (c9 e1 e3 (x:=.ref t) rfl ?_);show wpAny (model prog w) _ (if (Value.ref t==Value.none)=true then _ else _) _ _ s;rw[bq (show ¬(Value.ref t==Value.none)=true from bN)];show wpAny (model prog w) _ (field (.ref it) 1>>=_) _ _ s;refine bh (c9 e1 e3 (x:=.int i 0) rfl ?_);show wpAny (model prog w) _ (seqItems? (.ref t)>>=_) _ _ s;refine bh (dB e4 e5 ?_);simp only[dS,hx];refine bh (fB e1 e3 (by simp) (bj ⟨x,rfl,bj (hQ _ ⟨_,di _ e1 (fC (dv e3 _)),(ip ..).trans e2,?_⟩ (dG ..))⟩));rw[dv e3];simp[rawInt]
def vD{it t:Addr}{i:Nat}{its:Array Vl}{Q:QQX}(hh:A.handled=none)(hi:s.heap.IsTupleIter it t i)(ht:s.heap.IsTuple t its)(hx:its[i]?=none) (hE:∀g e,Heap.ExtBut it s.heap g->(∃o,g.get? e=some o/\o.cls=.type "StopIteration")->E (.ref e) {s with heap:=g}):wpAny (model prog w) A (Builtin.SmallTypes.nextOf (.ref it)) Q E s:=by
 obtain⟨ob,e1,e2,e3⟩:=id hi;obtain⟨ot,e4,_,nt,e5⟩:=ht;unfold Builtin.SmallTypes.nextOf;refine bh (cG (name:=Str.ofString "__next__") hi.typeIs eG (cy eG hi.typeIs hZ ?_ (g9 _)));show wpAny (model prog w) _ (field (.ref it) 0>>=_) _ _ s;refine bh (c9 e1 e3 (x:=.ref t) rfl ?_);show wpAny (model prog w) _ (if (Value.ref t==Value.none)=true then _ else _) _ _ s;rw[bq (show ¬(Value.ref t==Value.none)=true from bN)];show wpAny (model prog w) _ (field (.ref it) 1>>=_) _ _ s;refine bh (c9 e1 e3 (x:=.int i 0) rfl ?_);show wpAny (model prog w) _ (seqItems? (.ref t)>>=_) _ _ s;refine bh (dB e4 e5 ?_);simp only[dS,hx];refine bh (dI (bh (fB e1 e3 (by simp) ?_)));show wpAny (model prog w) _ (newExc (.type "StopIteration") []>>=_) _ _ _;refine bh ?_;simp only[newExc,newTuple];refine bh (cR ?_ (by size_fits));refine bh (m:=firstArgMember _ _) (kc (a:=Value.none) (by first|rfl|(simp only[firstArgMember];rfl)) ?_);refine cR ?_ (by size_fits);simp only[raiseNew];refine bh (wpAny_handled ?_)
 first|rw[show A.in1.handled=none from hh]|rw[hh]
 refine bh (bj (wpAny_throw (hE _ _ (((dG ..).extBut.push _).push _) ⟨_,bE _ rfl,rfl⟩)))
def sg{prog:Pg}{w:Wo}{A:Ar}(hh:A.handled=none)(it t:Addr)(N6:t≠it)(its:Array Vl):
  Draws prog w A it [it,t] its.size (λi v=>its[i]?=some v) (λi h=>h.IsTupleIter it t i/\h.IsTuple t its) where
 live:=λi h st=>let⟨o,ho,_⟩:=st.1;⟨o,ho⟩
 frame:=λi h g st hk=>by obtain⟨⟨o,e1,e2⟩,⟨o',e3,e4⟩⟩:=st;exact⟨⟨o,hk it (by simp) o e1,e2⟩,⟨o',hk t (by simp) o' e3,e4⟩⟩
 item:=λi s Q E hi st hQ=>zW st.1 st.2 (x:=its[i]) (by simp[hi]) λg hg hs=>hQ _ g s.toks (by simp[hi]) ⟨hg,st.2.extBut hs.extBut N6⟩ hs
 done:=λs Q E st hE=>vD hh st.1 st.2 (by simp) hE
structure rZ(z TI TO i1 i2:Addr)(f1 f2:QXQ):Prop where
 a1:TI≠z
 a2:TO≠z
 a3:i1≠z
 a4:i2≠z
 a5:TI≠TO
 a6:TI≠i1
 a7:TI≠i2
 a8:TO≠i1
 a9:TO≠i2
 mG:i1≠i2
 b1:z∉f1
 b2:TO∉f1
 b3:i2∉f1
 c1:z∉f2
 c2:TO∉f2
 c3:i1∉f2
variable {z TI TO i1 i2:Addr}{f1 f2:QXQ}{n1 n2 k1 k2:Nat}{P1 P2:Nat→Vl→Prop}{S1 S2:Nat→Heap→Prop}
section
variable {a b:Vl}
def oi{fp:QXQ}{it:Addr}{n:Nat}{Pt:Nat->Vl->Prop}{St:Nat->Heap->Prop}(Dr:Draws prog w A it fp n Pt St){i:Nat}{h g:Heap}{c:Addr}(st:St i h)(hs:Heap.SameBut c h g)(hc:c∉fp):St i g:=
 Dr.frame _ _ _ st λd hd o e=>(hs.2 d λq=>hc (q ▸ hd)).trans e
def BX{Q:QQX}(D1:Draws prog w A i1 f1 n1 P1 S1)(D2:Draws prog w A i2 f2 n2 P2 S2)(Mu:rZ z TI TO i1 i2 f1 f2)(hz:IsZip s.heap z TI TO .none)(hI:IsPair s.heap TI (.ref i1) (.ref i2))(hO:IsPair s.heap TO a b) (O8:S1 k1 s.heap) (Mq:S2 k2 s.heap) (l1:k1<n1) (l2:k2<n2) (hQ:∀x y g tk,P1 k1 x->P2 k2 y->IsZip g z TI TO (rawInt s.heap.objs.size)->IsPair g TO x y->S1 (k1+1) g->S2 (k2+1) g->IsPair g s.heap.objs.size x y->g.objs.size=s.heap.objs.size+1->
   (∀c o,c≠z->c≠TO->c≠i1->c≠i2->s.heap.get? c=some o->g.get? c=some o)->Q (.ref s.heap.objs.size) {s with heap:=g,toks:=tk}):
  wpAny (model prog w) A (Builtin.«zip.__next__» ⟨[.ref z],[]⟩) (λfin s'=>∃v,fin=.done (.ret v)/\Q v s') E s:=by
 show wpAny (model prog w) A (field (.ref z) 2>>=_) _ _ _;refine bh (c9 hz rfl (x:=.bool false) rfl ?_);show wpAny (model prog w) A (field (.ref z) 3>>=_) _ _ _;refine bh (c9 hz rfl (x:=.ref TI) rfl (bh (dB hI rfl ?_)));show wpAny (model prog w) A (Builtin.SmallTypes.ownedTupleIsFree (.ref z)>>=_) _ _ _;refine bh ?_;unfold Builtin.SmallTypes.ownedTupleIsFree;refine bh (c9 hz rfl (x:=.none) rfl (bj ?_));simp only[gi];refine bh (dI (bh (c9 hz rfl (x:=.ref TO) rfl (bh (eB hz (by simp) λg1 z1 NH=>?_)))));replace z1:IsZip g1 z TI TO .ellipsis:=z1;refine bh ?_;simp only[iL,kH,iZ,jf];refine bh (bh (ij ?_));show wpAny (model prog w) A (Builtin.SmallTypes.nextOf (.ref i1)>>=_) _ _ _;have Oa:S1 k1 g1:=oi D1 O8 NH Mu.b1;refine bh (D1.item k1 _ _ _ l1 Oa λx g2 tk2 px st1b Nf=>bj ?_);replace Nf:Heap.SameBut i1 g1 g2:=Nf;have o2:IsPair g2 TO a b:=Nf.extBut _ _ Mu.a8 (NH.extBut _ _ Mu.a2 hO);refine bh (dB o2 rfl (bh (gP o2 λg3 o3 Nt=>?_)));replace o3:IsPair g3 TO x b:=o3;replace Nt:Heap.SameBut TO g2 g3:=Nt;refine bh (kg (bj (bh (bh (ij ?_)))));show wpAny (model prog w) A (Builtin.SmallTypes.nextOf (.ref i2)>>=_) _ _ _;have OB:S2 k2 g3:=oi D2 (oi D2 (oi D2 Mq NH Mu.c1) Nf Mu.c3) Nt Mu.c2;refine bh (D2.item k2 _ _ _ l2 OB λy g4 tk4 py st2b Og=>bj ?_);replace Og:Heap.SameBut i2 g3 g4:=Og;have o4:IsPair g4 TO x b:=Og.extBut _ _ Mu.a9 o3;refine bh (dB o4 rfl (bh (gP o4 λg5 o5 Oh=>?_)));replace o5:IsPair g5 TO x y:=o5;replace Oh:Heap.SameBut TO g4 g5:=Oh;refine bh (kg (bj (bj (bh (dB o5 rfl (bh (jh ?_)))))));have esz:g5.objs.size=s.heap.objs.size:=by rw[Oh.1,Og.1,Nt.1,Nf.1,NH.1]
 have z5:IsZip g5 z TI TO .ellipsis:=Oh.extBut _ _ Mu.a2.symm (Og.extBut _ _ Mu.a4.symm (Nt.extBut _ _ Mu.a2.symm (Nf.extBut _ _ Mu.a3.symm z1)));have kp:∀c o,c≠z->c≠TO->c≠i1->c≠i2->s.heap.get? c=some o->g5.get? c=some o:=λc o q1 q2 q3 q4 q=>Oh.extBut _ _ q2 (Og.extBut _ _ q4 (Nt.extBut _ _ q2 (Nf.extBut _ _ q3 (NH.extBut _ _ q1 q))));have st1c:S1 (k1+1) g5:=oi D1 (oi D1 (oi D1 st1b Nt Mu.b2) Og Mu.b3) Oh Mu.b2;have st2c:S2 (k2+1) g5:=oi D2 st2b Oh Mu.c2;have zlt:z<g5.objs.size:=bD z5;show wpAny (model prog w) A (Builtin.SmallTypes.ownedTupleHandOut (.ref z) (.ref g5.objs.size)>>=_) _ _ _;refine bh ?_;unfold Builtin.SmallTypes.ownedTupleHandOut;have z6:IsZip (g5.push {cls:=.type "tuple",data:=.seq #[x,y]}) z TI TO .ellipsis:=bp _ z5;refine bh (eB z6 (by simp) λg7 z7 sb7=>?_);replace z7:IsZip g7 z TI TO (rawInt g5.objs.size):=z7;refine eB z7 (by simp) λg8 z8 sb8=>?_;replace z8:IsZip g8 z TI TO (rawInt g5.objs.size):=z8;have up:∀c o,c≠z->g5.get? c=some o->g8.get? c=some o:=λc o q1 q=>sb8.extBut _ _ q1 (sb7.extBut _ _ q1 (bp _ q));have tu:IsPair g8 g5.objs.size x y:=sb8.extBut _ _ (cU zlt) (sb7.extBut _ _ (cU zlt) (bE _ rfl));have es8:g8.objs.size=g5.objs.size+1:=by rw[sb8.1,sb7.1,b8]
 rw[esz]at z8 tu es8;refine bj ⟨_,rfl,?_⟩;show Q (.ref g5.objs.size) _;rw[esz];exact hQ x y g8 _ px py z8 (up _ _ Mu.a2 o5) (D1.frame _ _ _ st1c λc hc o q=>up c o (λr=>Mu.b1 (r ▸ hc)) q) (D2.frame _ _ _ st2c λc hc o q=>up c o (λr=>Mu.c1 (r ▸ hc)) q) tu es8 λc o q1 q2 q3 q4 q=>up c o q1 (kp c o q1 q2 q3 q4 q)
def DC{Q:Fin->Sd->Prop}(D1:Draws prog w A i1 f1 n1 P1 S1)(D2:Draws prog w A i2 f2 n2 P2 S2)(Mu:rZ z TI TO i1 i2 f1 f2)(hz:IsZip s.heap z TI TO .none)(hI:IsPair s.heap TI (.ref i1) (.ref i2))(hO:IsPair s.heap TO a b) (O8:S1 k1 s.heap) (Mq:S2 k1 s.heap) (O9:k1=n1\/(k1<n1/\k1=n2)) (hE:∀g e,(∀c o,c≠z->c≠TO->c≠i1->c≠i2->s.heap.get? c=some o->g.get? c=some o)->(∃o,g.get? e=some o/\o.cls=.type "StopIteration")->∀tk,E (.ref e) {s with heap:=g,toks:=tk}):
  wpAny (model prog w) A (Builtin.«zip.__next__» ⟨[.ref z],[]⟩) Q E s:=by
 show wpAny (model prog w) A (field (.ref z) 2>>=_) _ _ _;refine bh (c9 hz rfl (x:=.bool false) rfl ?_);show wpAny (model prog w) A (field (.ref z) 3>>=_) _ _ _;refine bh (c9 hz rfl (x:=.ref TI) rfl (bh (dB hI rfl ?_)));show wpAny (model prog w) A (Builtin.SmallTypes.ownedTupleIsFree (.ref z)>>=_) _ _ _;refine bh ?_;unfold Builtin.SmallTypes.ownedTupleIsFree;refine bh (c9 hz rfl (x:=.none) rfl (bj ?_));simp only[gi];refine bh (dI (bh (c9 hz rfl (x:=.ref TO) rfl (bh (eB hz (by simp) λg1 z1 NH=>?_)))));replace z1:IsZip g1 z TI TO .ellipsis:=z1;refine bh ?_;simp only[iL,kH,iZ,jf];refine bh (bh (ij ?_));show wpAny (model prog w) A (Builtin.SmallTypes.nextOf (.ref i1)>>=_) _ _ _;have Oa:S1 k1 g1:=oi D1 O8 NH Mu.b1;rcases O9 with he|⟨Mr,he⟩
 .rw[he]at Oa;refine bh (D1.done _ _ _ Oa λg2 e Nf hx=>?_);obtain⟨oe,g,hce⟩:=hx;have z2:IsZip g2 z TI TO .ellipsis:=Nf _ _ Mu.a3.symm z1;have hez:e≠z:=λq=>by subst q;rw[z2]at g;cases g;simp at hce
  exact eB z2 (by simp) λg3 _ Nt=>hE g3 e (λc o q1 _ q3 _ q=>Nt.extBut _ _ q1 (Nf _ _ q3 (NH.extBut _ _ q1 q))) ⟨oe,Nt.extBut _ _ hez g,hce⟩ _
 .refine bh (D1.item k1 _ _ _ Mr Oa λx g2 tk2 px st1b Nf=>bj ?_);replace Nf:Heap.SameBut i1 g1 g2:=Nf;have o2:IsPair g2 TO a b:=Nf.extBut _ _ Mu.a8 (NH.extBut _ _ Mu.a2 hO);refine bh (dB o2 rfl (bh (gP o2 λg3 o3 Nt=>?_)));replace Nt:Heap.SameBut TO g2 g3:=Nt;refine bh (kg (bj (bh (bh (ij ?_)))));show wpAny (model prog w) A (Builtin.SmallTypes.nextOf (.ref i2)>>=_) _ _ _;have OB:S2 k1 g3:=oi D2 (oi D2 (oi D2 Mq NH Mu.c1) Nf Mu.c3) Nt Mu.c2;rw[he]at OB;refine bh (D2.done _ _ _ OB λg4 e Og hx=>?_);obtain⟨oe,g,hce⟩:=hx;have z4:IsZip g4 z TI TO .ellipsis:=Og _ _ Mu.a4.symm (Nt.extBut _ _ Mu.a2.symm (Nf.extBut _ _ Mu.a3.symm z1));have hez:e≠z:=λq=>by subst q;rw[z4]at g;cases g;simp at hce
  exact eB z4 (by simp) λg5 _ Oh=>hE g5 e (λc o q1 q2 q3 q4 q=>Oh.extBut _ _ q1 (Og _ _ q4 (Nt.extBut _ _ q2 (Nf.extBut _ _ q3 (NH.extBut _ _ q1 q))))) ⟨oe,Oh.extBut _ _ hez g,hce⟩ _
end
abbrev Kx(h:Heap)(t:Addr):Heap:=h.push {cls:=.type "tuple_iterator",data:=.fields #[.ref t,.int 0 0]}
abbrev Kr(h:Heap)(t u:Addr):Heap:=(Kx h t).push {cls:=.type "tuple_iterator",data:=.fields #[.ref u,.int 0 0]}
abbrev Ks(h:Heap)(t u:Addr):Heap:=(Kr h t u).push {cls:=.type "tuple",data:=.seq #[.ref h.objs.size,.ref (Kx h t).objs.size]}
abbrev Kt(h:Heap)(t u:Addr):Heap:=(Ks h t u).push {cls:=.type "tuple",data:=.seq #[.none,.none]}
abbrev Jd(h:Heap)(t u:Addr):Heap:=(Kt h t u).push {cls:=.type "zip",data:=.fields #[.none,.bool false,.bool false,.ref (Kr h t u).objs.size,.ref (Ks h t u).objs.size]}
def wB(t u:Addr)(xs ys:Array Vl):
  Meets (Builtin.«zip.__new__» ⟨[.type "zip",.ref t,.ref u],[]⟩) (λ_ R s=>s.heap.IsTuple t xs/\s.heap.IsTuple u ys/\R (.ok (.ret (.ref (Kt s.heap t u).objs.size))) {s with heap:=Jd s.heap t u}):=
 .of_wp λprog w A R s h=>by
  obtain⟨hp,g,d,tk,os⟩:=s;obtain⟨e1,e2,h⟩:=h;have Ny:=sub_zip;have q1:Heap.IsTuple (Shared.heap ⟨hp,g,d,tk,os⟩) t xs:=e1;have q2:Heap.IsTuple (Shared.heap ⟨hp.push {cls:=.type "tuple_iterator",data:=.fields #[.ref t,.int 0 0]},g,d,tk,os⟩) u ys:=Heap.IsTuple.push e2 _
  wp_walk using fj q1,fj q2
  exact⟨_,rfl,h⟩
def yC{t u:Addr}{xs ys:Array Vl}{Q:QQX}(ht:s.heap.IsTuple t xs)(hu:s.heap.IsTuple u ys) (h:∀g,IsZip g (s.heap.objs.size+4) (s.heap.objs.size+2) (s.heap.objs.size+3) .none->IsPair g (s.heap.objs.size+2) (.ref s.heap.objs.size) (.ref (s.heap.objs.size+1))->IsPair g (s.heap.objs.size+3) .none .none->
   g.IsTupleIter s.heap.objs.size t 0->g.IsTupleIter (s.heap.objs.size+1) u 0->(∀c o,s.heap.get? c=some o->g.get? c=some o)->Q (.ref (s.heap.objs.size+4)) {s with heap:=g}):
  wpAny (model prog w) A (call (.type "zip") [.ref t,.ref u]) Q E s:=by
 refine callType_new F.called_zip (by decide) (F.typeCall_zip_2 _ _) (F.newCall_zip_2 _ _) (λobj=>F.args_object_init_3 obj _ _) F.entry_zip_new (wB t u xs ys) ⟨ht,hu,?_⟩;have m1:(Kx s.heap t).objs.size=s.heap.objs.size+1:=b8 ..;have m2:(Kr s.heap t u).objs.size=s.heap.objs.size+2:=by rw[b8,m1]
 have m3:(Ks s.heap t u).objs.size=s.heap.objs.size+3:=by rw[b8,m2]
 have m4:(Kt s.heap t u).objs.size=s.heap.objs.size+4:=by rw[b8,m3]
 have up:∀{h:Heap} {c:Addr} {o p:Obj},h.get? c=some o->(h.push p).get? c=some o:=λq=>bp _ q;have r5:(Jd s.heap t u).get? (Kt s.heap t u).objs.size=some _:=bE _ rfl;have r4:(Jd s.heap t u).get? (Ks s.heap t u).objs.size=some _:=up (bE _ rfl);have r3:(Jd s.heap t u).get? (Kr s.heap t u).objs.size=some _:=up (up (bE _ rfl));have r2:(Jd s.heap t u).get? (Kx s.heap t).objs.size=some _:=up (up (up (bE _ rfl)));have r1:(Jd s.heap t u).get? s.heap.objs.size=some _:=up (up (up (up (bE _ rfl))));show _/\_;rw[m2,m3,m4]at r5;rw[m1,m2]at r3;rw[m3]at r4;rw[m1]at r2;rw[m4];exact⟨⟨_,r5,rfl⟩,h _ r5 r3 r4 ⟨_,r1,rfl,rfl⟩ ⟨_,r2,rfl,rfl⟩ λc o q=>up (up (up (up (up q))))⟩
def uy{z TI TO i1 i2:Addr}{f1 f2:QXQ}{n1 n2 k:Nat}{P1 P2:Nat->Vl->Prop}{S1 S2:Nat->Heap->Prop}{a b:Vl}{Q:Option Vl->Sd->Prop}(D1:Draws prog w A.in1 i1 f1 n1 P1 S1)(D2:Draws prog w A.in1 i2 f2 n2 P2 S2)(Mu:rZ z TI TO i1 i2 f1 f2) (hz:IsZip s.heap z TI TO .none) (hI:IsPair s.heap TI (.ref i1) (.ref i2)) (hO:IsPair s.heap TO a b) (O8:S1 k s.heap) (Mq:S2 k s.heap) (l1:k<n1) (l2:k<n2) (hQ:∀x y g tk,P1 k x->P2 k y->IsZip g z TI TO (rawInt s.heap.objs.size)->IsPair g TO x y->S1 (k+1) g->S2 (k+1) g->IsPair g s.heap.objs.size x y->g.objs.size=s.heap.objs.size+1->
   (∀c o,c≠z->c≠TO->c≠i1->c≠i2->s.heap.get? c=some o->g.get? c=some o)->Q (some (.ref s.heap.objs.size)) {s with heap:=g,toks:=tk}):wpAny (model prog w) A (pyNext (.ref z)) Q E s:=by
 have hT:s.TypeIs (.ref z) "zip":=⟨_,hz,rfl⟩;unfold pyNext;refine bh (gz (cG (name:=Str.ofString "__next__") hT gQ (cy gQ hT kx ?_ (jW _))));exact BX D1 D2 Mu hz hI hO O8 Mq l1 l2 λx y g tk q1 q2 q3 q4 q5 q6 q7 q8 q9=>bj (hQ x y g tk q1 q2 q3 q4 q5 q6 q7 q8 q9)
def ro{z TI TO i1 i2:Addr}{f1 f2:QXQ}{n1 n2 k:Nat}{P1 P2:Nat->Vl->Prop}{S1 S2:Nat->Heap->Prop}{a b:Vl}{Q:Option Vl->Sd->Prop}(D1:Draws prog w A.in1 i1 f1 n1 P1 S1)(D2:Draws prog w A.in1 i2 f2 n2 P2 S2)(Mu:rZ z TI TO i1 i2 f1 f2) (hz:IsZip s.heap z TI TO .none) (hI:IsPair s.heap TI (.ref i1) (.ref i2)) (hO:IsPair s.heap TO a b) (O8:S1 k s.heap) (Mq:S2 k s.heap) (O9:k=n1\/(k<n1/\k=n2)) (hQ:∀g tk,(∀c o,c≠z->c≠TO->c≠i1->c≠i2->s.heap.get? c=some o->g.get? c=some o)->Q none {s with heap:=g,toks:=tk}):wpAny (model prog w) A (pyNext (.ref z)) Q E s:=by
 have hT:s.TypeIs (.ref z) "zip":=⟨_,hz,rfl⟩;unfold pyNext;refine bh (gz (cG (name:=Str.ofString "__next__") hT gQ (cy gQ hT kx (DC D1 D2 Mu hz hI hO O8 Mq O9 λg e kp hx tk=>?_) (jW _))));obtain⟨o,e1,e2⟩:=hx;exact bh (gC (T:="StopIteration") (b:=true) ⟨o,e1,e2⟩ isSubtype_stop (bj (hQ g tk kp)))
def yB{a b:Addr}{xs:T0 V}(I:Inv X Mf Y H s)(f:ui X Mf H b)(q:p9 X.K H a xs):a≠b:=by
 rintro rfl
 rcases q with q|⟨o,its,n,hk,_⟩
 .have z:=f.1;rcases q with q|⟨u,q⟩<;>(rw[q]at z;cases z)
 .have e:=I.mod.ml a o hk;rcases f.2.2.2.1 with z|z
  .exact I.ok.l6 a o e z
  .exact absurd (bO (bD e) (bQ I.ok.md z)) (cM _)
noncomputable def K6(K:m9)(a b:Addr):It:=
 ⟨λi H=>∃xs ys x y,p9 K H a xs/\p9 K H b ys/\xs[i]?=some x/\ys[i]?=some y,λi H v H'=>∃p x y,v=.ref p/\H p=none/\H'=upd H p (.tup [x,y])/\(∀xs,p9 K H a xs->xs[i]?=some x)/\(∀ys,p9 K H b ys->ys[i]?=some y),λi H=>∃xs ys,p9 K H a xs/\p9 K H b ys/\i=min xs.length ys.length⟩
def EO{P:Pg}{w:Wo}{K:m9}{MP:T0 Expr}{n:Nat}{tp:Pos}(a b z TI TO i1 i2:Addr)(a1:TI≠z)(a2:TO≠z)(a3:i1≠z)(a4:i2≠z)(a5:TI≠TO)(a6:TI≠i1)(a7:TI≠i2)(a8:TO≠i1)(a9:TO≠i2)(mG:i1≠i2):
  yb P w K (.Tuple MP n tp) (K6 K a b) [z,TI,TO,i1,i2] z (λi h=>IsZip h z TI TO .none/\IsPair h TI (.ref i1) (.ref i2)/\(∃u v,IsPair h TO u v)/\h.IsTupleIter i1 a i/\h.IsTupleIter i2 b i) where
 mem:=by simp
 obj:=λi h st c hc=>by
  obtain⟨h1,h2,⟨u,v,h3⟩,⟨o4,h4,_,d4⟩,⟨o5,h5,_,d5⟩⟩:=st;simp only[br,bC,bX]at hc;rcases hc with rfl|rfl|rfl|rfl|rfl
  .exact⟨_,h1,λv z=>by cases z⟩
  .exact⟨_,h2,λv z=>by cases z⟩
  .exact⟨_,h3,λv z=>by cases z⟩
  .exact⟨_,h4,λv z=>by rw[d4]at z;cases z⟩
  .exact⟨_,h5,λv z=>by rw[d5]at z;cases z⟩
 keep:=λi h h' st k=>by obtain⟨h1,h2,⟨u,v,h3⟩,⟨o4,h4,c4⟩,⟨o5,h5,c5⟩⟩:=st;exact⟨k z (by simp) _ h1,k TI (by simp) _ h2,⟨u,v,k TO (by simp) _ h3⟩,⟨o4,k i1 (by simp) _ h4,c4⟩,⟨o5,k i2 (by simp) _ h5,c5⟩⟩
 item:=by
  intro X hP hw hK hc i Mf s Y H E I hf st hg;subst hP hw hK;obtain⟨xs,ys,x,y,hx,hy,ex,ey⟩:=hg;obtain⟨its,rx,px,_⟩:=I.tuple hx;obtain⟨Nn,ry,py,_⟩:=I.tuple hy;obtain⟨u,eu,ru⟩:=rx.get ex;obtain⟨v,ev,rv⟩:=ry.get ey;obtain⟨h1,h2,⟨p,q,h3⟩,h4,h5⟩:=st;have hh:X.A.in1.handled=none:=I.ok.hd hc;have fa:∀c∈[z,TI,TO,i1,i2],a≠c:=λc hc=>yB I (hf c hc) hx;have fb:∀c∈[z,TI,TO,i1,i2],b≠c:=λc hc=>yB I (hf c hc) hy;have Mu:rZ z TI TO i1 i2 [i1,a] [i2,b]:=⟨a1,a2,a3,a4,a5,a6,a7,a8,a9,mG,by
   simp only[br,bC,bX,cA];exact⟨bR a3,bR (fa z (by simp))⟩,by
   simp only[br,bC,bX,cA];exact⟨a8,bR (fa TO (by simp))⟩,by
   simp only[br,bC,bX,cA];exact⟨bR mG,bR (fa i2 (by simp))⟩,by
   simp only[br,bC,bX,cA];exact⟨bR a4,bR (fb z (by simp))⟩,by
   simp only[br,bC,bX,cA];exact⟨a9,bR (fb TO (by simp))⟩,by
   simp only[br,bC,bX,cA];exact⟨mG,bR (fb i1 (by simp))⟩⟩
  have l1:i<its.toArray.size:=by
   have:=(bL.mp eu).1
   simpa using this
  have l2:i<Nn.toArray.size:=by
   have:=(bL.mp ev).1
   simpa using this
  refine uy (sg hh i1 a (fa i1 (by simp)) its.toArray) (sg hh i2 b (fb i2 (by simp)) Nn.toArray) Mu h1 h2 h3 ⟨h4,px⟩ ⟨h5,py⟩ l1 l2 λx' y' g tk e1 e2 z1 o1 s1 s2 t1 sz kp=>?_;have e1':x'=u:=by
   have:its[i]?=some x':=by simpa using e1
   rw[eu]at this;exact(bJ this).symm
  have NU:y'=v:=by
   have:Nn[i]?=some y':=by simpa using e2
   rw[ev]at this;exact(bJ this).symm
  subst e1' NU;refine⟨_,rfl,iz z1 λg2 z2 sb=>?_⟩;have zlt:z<s.heap.objs.size:=bD h1;have kk:∀c o,c∉[z,TI,TO,i1,i2]->s.heap.get? c=some o->g2.get? c=some o:=λc o hc e=>by simp only[br,bC,bX,cA]at hc;exact(sb.2 c hc.1).trans (kp c o hc.1 hc.2.2.1 hc.2.2.2.1 hc.2.2.2.2 e)
  have t2:g2.get? s.heap.objs.size=some {cls:=.type "tuple",data:=.seq #[x',y']}:=(sb.2 _ (cU zlt)).trans t1;have OA:H s.heap.objs.size=none:=I.lC.fresh (bB _);have I2:=I.drawn (ch:=[z,TI,TO,i1,i2]) (T:=s.heap.objs.size) (xs:=[x,y]) (its:=[x',y']) (h':=g2) (tk:=tk) hf kk (bB _) (by show 2<=sizeLine;decide) (.cons ru (.cons rv .nil)) ⟨_,t2,rfl,⟨_,rfl⟩,rfl⟩;refine⟨.ref s.heap.objs.size,_,I2,rfl,⟨_,x,y,rfl,OA,rfl,λxs' hx'=>by rw[I.lH hx' hx];exact ex,λys' hy'=>by rw[I.lH hy' hy];exact ey⟩,?_,λc hc=>?_⟩
  .obtain⟨o4,g4,c4⟩:=s1.1;obtain⟨o5,g5,c5⟩:=s2.1;exact⟨z2,(sb.2 _ a1).trans (kp _ _ a1 a5 a6 a7 h2),⟨_,_,(sb.2 _ a2).trans o1⟩,⟨o4,(sb.2 _ a3).trans g4,c4⟩,⟨o5,(sb.2 _ a4).trans g5,c5⟩⟩
  .have n0:=(hf c hc).1;obtain⟨o,eo⟩:∃o,s.heap.get? c=some o:=by
    obtain⟨o4,g4,_⟩:=h4;obtain⟨o5,g5,_⟩:=h5;simp only[br,bC,bX]at hc;rcases hc with rfl|rfl|rfl|rfl|rfl
    .exact⟨_,h1⟩
    .exact⟨_,h2⟩
    .exact⟨_,h3⟩
    .exact⟨_,g4⟩
    .exact⟨_,g5⟩
   rw[nh (bH (bD eo))];exact n0
 done:=by
  intro X hP hw hK hc i Mf s Y H E I hf st hg;subst hP hw hK;obtain⟨xs,ys,hx,hy,hi⟩:=hg;obtain⟨its,rx,px,_⟩:=I.tuple hx;obtain⟨Nn,ry,py,_⟩:=I.tuple hy;obtain⟨h1,h2,⟨p,q,h3⟩,h4,h5⟩:=st;have hh:X.A.in1.handled=none:=I.ok.hd hc;have fa:∀c∈[z,TI,TO,i1,i2],a≠c:=λc hc=>yB I (hf c hc) hx;have fb:∀c∈[z,TI,TO,i1,i2],b≠c:=λc hc=>yB I (hf c hc) hy;have Mu:rZ z TI TO i1 i2 [i1,a] [i2,b]:=⟨a1,a2,a3,a4,a5,a6,a7,a8,a9,mG,by
   simp only[br,bC,bX,cA];exact⟨bR a3,bR (fa z (by simp))⟩,by
   simp only[br,bC,bX,cA];exact⟨a8,bR (fa TO (by simp))⟩,by
   simp only[br,bC,bX,cA];exact⟨bR mG,bR (fa i2 (by simp))⟩,by
   simp only[br,bC,bX,cA];exact⟨bR a4,bR (fb z (by simp))⟩,by
   simp only[br,bC,bX,cA];exact⟨a9,bR (fb TO (by simp))⟩,by
   simp only[br,bC,bX,cA];exact⟨mG,bR (fb i1 (by simp))⟩⟩
  have e1:=rx.length;have e2:=ry.length;refine ro (sg hh i1 a (fa i1 (by simp)) its.toArray) (sg hh i2 b (fb i2 (by simp)) Nn.toArray) Mu h1 h2 h3 ⟨h4,px⟩ ⟨h5,py⟩ (by simp only[bA];lia) λg tk kp=>⟨rfl,?_⟩;have kk:∀c o,c∉[z,TI,TO,i1,i2]->s.heap.get? c=some o->g.get? c=some o:=λc o hc e=>by simp only[br,bC,bX,cA]at hc;exact kp c o hc.1 hc.2.2.1 hc.2.2.2.1 hc.2.2.2.2 e
  refine I.step (g':=s.gens) (d':=s.drawn) (t':=tk) (ch:=[z,TI,TO,i1,i2]) (λc hc=>⟨(hf c hc).2.2.2.1,(hf c hc).2.1,(hf c hc).2.2.2.2.1,(hf c hc).2.2.2.2.2⟩) ?_ ?_ (λc o _ e n=>n) ?_ (λ_ _ e=>e) (λ_ _ _ e=>e) (λc ps e=>⟨#[],by rw[e];simp⟩) ?_ ?_ I.bare
  .exact λc o _ _ hc e _=>kk c o hc e
  .exact λc o _ _ hc e _=>⟨o.slots,kk c o hc e⟩
  .exact λc o hc e=>⟨o,kk c o hc e⟩
  .intro m hm;obtain⟨o,es,ep,ho,r⟩:=hm;exact⟨o,es,ep,kk _ o (λy=>(hf _ y).2.1 rfl) ho,r⟩
  .intro c u e;refine(I.lC c u e).lT (λd v hd q=>kk d v (λy=>?_) q) (λ_ q=>q) λ_ _ q=>q;have n:=(hf d y).1;rcases hd with x|x
   .rw[x,e]at n;cases n
   .rw[x]at n;cases n
 self:=λ_ _ _ _ _ st h=>gD st.1 h
def HR{a b:Expr}{ta:TA}(hg:Gl X "zip")(hm:X.mg "zip"=none)(ha:PA X [a,b] ta)(hs:starEach [a,b] X.env=[(false,eval a X.env),(false,eval b X.env)]:=by rfl)(Nk:starEach [b] X.env=[(false,eval b X.env)]:=by rfl):
  PI X (.Tuple MP n tp) (.Call (.Name "zip" p) [a,b] [] pos) (λY H R=>ta Y H λvs H1=>∃l m,vs=[.ref l,.ref m]/\(∃xs,p9 X.K H1 l xs)/\(∃xs,p9 X.K H1 m xs)/\R (K6 X.K l m) H1):=by
 intro Mf s Y H R I h;refine Call_ (qo I hg hm DR (cQ (pB (ha pos Mf s Y H _ I h) λus s1 zz=>x5 zz λvs H1 I1 r1 q1=>?_) (by rw[hs,Nk]) (by rw[Nk];rfl)));obtain⟨l,m,e,⟨xs,hx⟩,⟨ys,hy⟩,q⟩:=q1;subst e;obtain⟨u,v,rfl,ru,rv⟩:=A5 r1;cases ru;cases rv;obtain⟨its,_,px,_⟩:=I1.tuple hx;obtain⟨Nn,_,py,_⟩:=I1.tuple hy;refine yC px py λg h1 h2 h3 h4 h5 hk=>gD h1 ?_;have I2:Inv X Mf Y H1 {s1 with heap:=g}:=I1.kept (t':=s1.toks) hk;refine⟨s1.heap.objs.size+4,[s1.heap.objs.size+4,s1.heap.objs.size+2,s1.heap.objs.size+3,s1.heap.objs.size,s1.heap.objs.size+1],_,_,H1,rfl,I2,EO l m _ _ _ _ _ ?_ ?_ ?_ ?_ ?_ ?_ ?_ ?_ ?_ ?_,⟨h1,h2,⟨_,_,h3⟩,h4,h5⟩,λb hb=>?_,q⟩
 .exact λz=>by have z:s1.heap.objs.size+2=s1.heap.objs.size+4:=z;lia
 .exact λz=>by have z:s1.heap.objs.size+3=s1.heap.objs.size+4:=z;lia
 .exact λz=>by have z:s1.heap.objs.size=s1.heap.objs.size+4:=z;lia
 .exact λz=>by have z:s1.heap.objs.size+1=s1.heap.objs.size+4:=z;lia
 .exact λz=>by have z:s1.heap.objs.size+2=s1.heap.objs.size+3:=z;lia
 .exact λz=>by have z:s1.heap.objs.size+2=s1.heap.objs.size:=z;lia
 .exact λz=>by have z:s1.heap.objs.size+2=s1.heap.objs.size+1:=z;lia
 .exact λz=>by have z:s1.heap.objs.size+3=s1.heap.objs.size:=z;lia
 .exact λz=>by have z:s1.heap.objs.size+3=s1.heap.objs.size+1:=z;lia
 .exact λz=>by have z:s1.heap.objs.size=s1.heap.objs.size+1:=z;lia
 .have Nr:s1.heap.objs.size<=b:=by
   simp only[br,bC,bX]at hb;rcases hb with rfl|rfl|rfl|rfl|rfl
   .exact dJ _ _
   .exact dJ _ _
   .exact dJ _ _
   .exact bB _
   .exact dJ _ _
  exact I1.lX Nr (I1.lC.fresh Nr)
noncomputable def rB:T0 D->T0 D->T0 D
 | x::a,y::b=>.tup [x,y]::rB a b
 | _,_=>[]
theorem vg:∀{ds es:T0 D} {i:Nat},(rB ds es)[i]?=(ds[i]?).bind λd=>(es[i]?).map λe=>D.tup [d,e]
 | [],es,i=>by simp[rB]
 | d::ds,[],i=>by simp[rB]
 | d::ds,e::es,0=>by simp[rB]
 | d::ds,e::es,i+1=>by show(rB ds es)[i]?=_;rw[vg];simp
theorem sd:∀{ds es:T0 D},(rB ds es).length=min ds.length es.length
 | [],es=>by simp[rB]
 | d::ds,[]=>by simp[rB]
 | d::ds,e::es=>by show(rB ds es).length+1=_;rw[sd];simp only[bT];lia
def FS{K:m9}{H1:Hp}{a b:Addr}{ds es:T0 D}{xs ys:T0 V}(h1:p9 K H1 a xs)(h2:mS K H1 ds xs)(g1:p9 K H1 b ys)(g2:mS K H1 es ys):xF K H1 (K6 K a b) (rB ds es) (λ_=>True) where
 go:=λi H M hi hm ok e1=>by rw[sd]at hi;obtain⟨x,ex,_⟩:=h2.get (bF (show i<ds.length by lia));obtain⟨y,ey,_⟩:=g2.get (bF (show i<es.length by lia));exact⟨xs,ys,x,y,e1.t _ _ h1,e1.t _ _ g1,ex,ey⟩
 mv:=λi d H M v H' hd hm ok e1 y=>by
  obtain⟨p,x,z,rfl,hp,rfl,y1,y2⟩:=y;rw[vg]at hd;cases e:ds[i]? with
  | none=>rw[e]at hd;cases hd
  | some d'=>
   cases e':es[i]? with
   | none=>rw[e,e']at hd;cases hd
   | some d''=>rw[e,e']at hd;cases hd;obtain⟨x',q1,hx⟩:=h2.get e;obtain⟨z',q2,hz⟩:=g2.get e';have w1:=y1 xs (e1.t _ _ h1);have w2:=y2 ys (e1.t _ _ g1);rw[q1]at w1;rw[q2]at w2;have v1:x'=x:=bJ w1;have v2:z'=z:=bJ w2;subst v1 v2;have ex:nF K H (upd H p (.tup [x',z'])):=.new hp;exact⟨.tup (.of m7) (.cons (hx.mono (e1.trans ex)) (.cons (hz.mono (e1.trans ex)) .nil)),hm.add hp,ex⟩
 stop:=λH M hm ok e1=>⟨xs,ys,e1.t _ _ h1,e1.t _ _ g1,by rw[sd,h2.length,g2.length]⟩
def Kg(t:rX):D9:=λU M R=>t U M λds M1=>match ds with
 | [.tup a,.tup b]=>R (rB a b) (λ_=>True) M1
 | _=>False
def Im{a b:Expr}{ta:rX}(hg:Gl X "zip")(hm:X.mg "zip"=none)(ha:A3 X [a,b] ta)(hs:starEach [a,b] X.env=[(false,eval a X.env),(false,eval b X.env)]:=by rfl)(Nk:starEach [b] X.env=[(false,eval b X.env)]:=by rfl):
  I3 X (.Tuple MP n tp) (.Call (.Name "zip" p) [a,b] [] pos) (Kg ta):=
 PI.mono (HR hg hm ha hs Nk) λY H R' zz=>x7 zz λU M R hs hm ht k=>⟨U,M,_,hs,hm,ht,λvs H1 ds M1 hd Mh e1 q1=>by
  split at q1
  .obtain⟨v,u,rfl,hv,hw⟩:=tM hd;obtain⟨l,xs,rfl,h1,h2⟩:=hv.lw;obtain⟨m,ys,rfl,g1,g2⟩:=hw.lw;exact⟨l,m,rfl,⟨xs,h1⟩,⟨ys,g1⟩,k _ H1 _ _ M1 (FS h1 h2 g1 g2) Mh e1 trivial q1⟩
  .exact q1.elim⟩
def nW(M M':Mp):Prop:=∀a c,M a=some c->M' a=some c
def nW.refl{M:Mp}:nW M M:=λ_ _ h=>h
def nW.trans{M M1 M2:Mp}(a:nW M M1)(b:nW M1 M2):nW M M2:=λx c h=>b x c (a x c h)
def nW.new{M:Mp}{p:Addr}{c:qg}(h:M p=none):nW M (mL M p c):=λx d q=>by rw[nw (IG q h)];exact q
def nW.lst{M M':Mp}{a:Addr}{ds:T0 D}(s:nW M M')(h:ma M a=some ds):ma M' a=some ds:=by
 unfold ma at h ⊢;cases e:M a with
 | none=>rw[e]at h;cases h
 | some c=>rw[s a c e];rw[e]at h;exact h
def HM.sub{K:m9}{H:Hp}{M M':Mp}(h:HM K H M')(s:nW M M'):HM K H M:=λa c q=>h a c (s a c q)
def JN{x qual:Str}{st:Stmt}{f:Addr}{fd:FuncData}{N ps:QQQ}{k:Nat}{sp:pP}(F:IT K x qual st f fd)(S:pX N ps (ng st))(len:∀ds M Q,sp ds M Q->ds.length=ps.length) (MH:∀(Mv:Vl) (A:Ar) (outer:T0 Env) (s:Sd) (H:Hp) (E:XK),oO k (A.deeper (envOfC qual (ng st) s.heap.objs.size f Mv))->
   ∃t,En (xY E4 P w K mg base N qual (ng st) f Mv A outer s H E).mf (oK st) t/\∀ds M Q,sp ds M Q->t {nx:=λ_ M'=>∃Mw,nW Mw M'/\Q .lB Mw,rt:=λd M'=>∃Mw,nW Mw M'/\Q d Mw} (uj N ds) M):GH P w K mg base (k+1) f fd ps sp:=by
 refine F.ok S (λvs H Q E h=>?_) (λMv A outer s H vs Q' E hr h=>?_)
 .obtain⟨ds,M,Q,hd,_,hs,_⟩:=h;rw[<-hd.length];exact len ds M Q hs
 .obtain⟨ds,M,Q,hd,hm,hs,k⟩:=h;obtain⟨t,ht,hb⟩:=MH Mv A outer s H E hr;exact⟨_,ht,uj N ds,M,_,Cw hd,hm,hb ds M Q hs,λσ' H' δ' M' _ x2 x3 _ ⟨Mw,y1,y2⟩=>k .lB H' .lB Mw .lB (x2.sub y1) x3 y2,λv H' d M' x1 x2 x3 ⟨Mw,y1,y2⟩=>k v H' d Mw x1 (x2.sub y1) x3 y2,λ_ _ _ _ _ _ _ _ z=>z,λ_ _ _ _ _ _ _ _ z=>z⟩
theorem rJ{g:yJ}{te:T3}{ok:Mp->Prop}{Q:DK}{f:D->D}{M:Mp}(J:qz->Prop)(lC:ok M):∀(ds acc:T0 D) (U:qz),J U->acc.length+ds.length<=sizeLine->
  (∀d∈ds,∀U,J U->∀k:qz->DK,(∀δ',J δ'->k δ' (f d) M)->g d U M λδ2 M2=>te δ2 M2 (k δ2))->(∀p,M p=none->Q (.ref p) (mL M p (.lst (acc++ds.map f))))->rk g xk te ok Q ds acc U M
 | [],acc,U,_,hl,_,hq=>⟨by simpa using hl,by simpa using hq⟩
 | d::r,acc,U,hj,hl,ht,hq=>by
  rw[bT]at hl;refine⟨by lia,?_⟩;refine ht d bG U hj (λδ2 y M4=>ok M4/\rk g xk te ok Q r (acc++[y]) δ2 M4) λδ' MN=>⟨lC,rJ (f:=f) J lC r (acc++[f d]) δ' MN ?_ (λe he=>ht e (bK _ he)) ?_⟩
  .rw[bz,cF];lia
  .simpa using hq
def nP{i:Nat}{te:T3}{ok:Mp->Prop}{Q:DK}{f:D->D}{M:Mp}(lC:ok M):∀(ds acc:T0 D) (U:qz),acc.length+ds.length<=sizeLine->(∀d∈ds,∀k:DK,k (f d) M->te (U.set i (some d)) M k)->
  (∀p,M p=none->Q (.ref p) (mL M p (.lst (acc++ds.map f))))->rk (qY i) xk te ok Q ds acc U M:=λds acc U hl ht hq=>
 rJ (f:=f) (λδ'=>∀d,δ'.set i (some d)=U.set i (some d)) lC ds acc U (λ_=>rfl) hl (λd hd δ' hj k hk=>by
  show te (δ'.set i (some d)) M (k (δ'.set i (some d)));rw[hj d];exact ht d hd _ (hk _ λe=>by rw[List.set_set])) hq
theorem tU{α:Type}(f:α->Bool):∀l:List α,AJ (l.map λx=>D.bl (f x))=some (l.map f)
 | []=>rfl
 | x::r=>by show(AJ (r.map λx=>D.bl (f x))).map (f x::·)=_;rw[tU f r];rfl
def mP{M:Mp}{p:Addr}{ds:T0 D}:ma (mL M p (.lst ds)) p=some ds:=by unfold ma;rw[mN]
def mH{α:Type}{o:Option α}{P:α->Prop}{x:α}(e:o=some x)(h:P x):o.elim False P:=by rw[e];exact h
def mF{l:T0 D}(h:decide (l.length<=100)=true):l.length<=sizeLine:=by have z:=cb;have:=dU h;lia
theorem uX{g:yJ}{tb:ua}{ok:Mp->Prop}{E:zH}(J:qz->Mp->Prop)(lC:∀U M,J U M->ok M):∀(ds:T0 D) (U:qz) (M:Mp),J U M->
  (∀d∈ds,∀U M,J U M->∀nx:qz->Mp->Prop,(∀δ' M',J δ' M'->nx δ' M')->g d U M λδ2 M2=>tb {E with nx:=nx,ct:=nx,bk:=E.nx} δ2 M2)->(∀U M,J U M->E.nx U M)->yj g tb ok E ds U M
 | [],U,M,j,_,hn=>hn U M j
 | d::r,U,M,j,ht,hn=>ht d bG U M j (λδ' M'=>ok M'/\yj g tb ok E r δ' M') λδ' M' j'=>⟨lC δ' M' j',uX J lC r δ' M' j' (λe he=>ht e (bK _ he)) hn⟩
theorem rV{g:yJ}{tb:ua}{ok:Mp->Prop}{E:zH}(all:T0 D)(J:T0 D->qz->Mp->Prop)(lC:∀p U M,J p U M->ok M):∀(ds pre:T0 D) (U:qz) (M:Mp),pre++ds=all->J pre U M->
  (∀pre d post,pre++d::post=all->∀U M,J pre U M->∀nx:qz->Mp->Prop,(∀δ' M',J (pre++[d]) δ' M'->nx δ' M')->g d U M λδ2 M2=>tb {E with nx:=nx,ct:=nx,bk:=E.nx} δ2 M2)->(∀U M,J all U M->E.nx U M)->yj g tb ok E ds U M
 | [],pre,U,M,e,j,_,hn=>hn U M (by rw[<-e,bY];exact j)
 | d::r,pre,U,M,e,j,ht,hn=>ht pre d r e U M j (λδ' M'=>ok M'/\yj g tb ok E r δ' M') λδ' M' j'=>⟨lC _ δ' M' j',rV all J lC r (pre++[d]) δ' M' (by rw[<-e,cc];rfl) j' ht hn⟩
def DD{K:m9}{t:Vl}:W.kitOne K t t=some true:=by unfold W.kitOne;rw[bw (by simp)]
def DB{c:Bool}{A B:Prop}(h:c=true)(ha:A):if c=true then A else B:=by subst h;exact Iz ha
def KS{t u:ua}{E:zH}{U:qz}{M:Mp}(R:qz->Mp->Prop)(h2:∀nx:qz->Mp->Prop,(∀δ' M',R δ' M'->nx δ' M')->t {E with nx:=nx} U M)(h1:∀δ' M',R δ' M'->u E δ' M'):CA t u E U M:=h2 (u E) h1
def JO{K:m9}{H:Hp}{a:Addr}{ns:T0 Int}(hO:EM H)(hS:rA K H a (ns.map V.int)):n8 K H (.rl (ns.map D.int)) (.ref a):=by
 have r:Fe K H a (ns.map V.int):=by
  rcases hS with h|h
  .rcases h with h|⟨o,h⟩
   .rcases hO a with z|⟨o,xs,z⟩<;>(rw[h]at z;cases z)
   .exact .inl ⟨o,h⟩
  .exact .inr h
 unfold n8;exact⟨a,_,rfl,r,.ints⟩
def HP{K:m9}{sp:pP}{H:Hp}{a:Addr}{ns:T0 Int}(hO:EM H)(hS:rA K H a (ns.map V.int))(h:sp [.rl (ns.map D.int)] (λ_=>none) λd _=>d=.bl true):Hk K sp [.ref a] H (λv _=>v=.bl true) λ_ _ _=>False:=
 ⟨_,λ_=>none,_,.cons (JO hO hS) .nil,λ_ _ z=>(by cases z),h,λv H' d M' x1 _ _ x4=>by subst x4;exact x1.lu⟩
def Es{l:W.OpenLaw}{q:Pg}{MY:QQQ}{XP:(QQZ)->Heap->Prop}{YP:Wo->Heap->Prop}{d:DefRec}{K:Params->m9}{k:Nat}{x:Str}{sp:pP}(hn:l.most=some 63)(ON:d.params.defaults=[])(hr:oO k callerA) (hY:∀(w:Wo) (h:Heap),YP w h->(K w.params).In h) (Oe:∀ns:T0 Int,ns.length<=63->sp [.rl (ns.map D.int)] (λ_=>none) λd _=>d=.bl true) (F:∀(w:Wo) (mg:QQZ) (fa:Addr) (h:Heap),(K w.params).In h->h.Ns mainGlobals mg->mg d.name=some (.ref fa)->
   ∃fd:FuncData,(∀(s:Sd) (u:Vl),BindsTo s fd ⟨[u],[]⟩ [(x,u)])/\∀base:Heap,(K w.params).In base->base.Ns mainGlobals mg->GH l.prog w (K w.params) mg base k fa fd [x] sp):
  W.WalkO q MY XP YP l.row.toRowW d [] (λf vs=>PySem.call f vs):=
 L2.Fj (n:=63) (k:=k) (x:=x) (CX:=λ_=>E4) (sp:=λw=>Hk (K w.params) sp) hn (by decide) ON hr hY F (λ_ _ a ns hl hO hS=>HP hO hS (Oe ns hl)) λ_ _ _ _ _ z=>z
def KD(K:m9)(mg:QQZ)(x:Str)(d:D):Prop:=E1 λv u=>mg x=some u/\nK v u/\∀H,n8 K H d v
def HW{K:m9}{mg:QQZ}{x y:Str}{t:Tok}(h:mg x=some (.str y t)):KD K mg x (.str y):=⟨.str y,_,h,⟨t,rfl⟩,λ_=>.str⟩
def qI{K:m9}{mg:QQZ}{x:Str}{y:Int}{t:Tok}(h:mg x=some (.int y t)):KD K mg x (.int y):=⟨.int y,_,h,⟨t,rfl⟩,λ_=>.int⟩
def pM{K:m9}{a:Addr}{ss:QQQ}{us:T0 Vl}{n:Nat}{sl:Array (Option Vl)}(h:K.lookup a=some ⟨.type "tuple",none,.seq us.toArray n,sl⟩)(r:nv (ss.map V.str) us)(hz:us.length<=1000):p9 K (λ_=>none) a (ss.map V.str):=
 .inr ⟨_,us.toArray,n,h,rfl,rfl,rfl,by rw[bA,cb];lia,by simpa using r⟩
theorem ue{K:m9}{H:Hp}:∀{ss:QQQ},mS K H (ss.map D.str) (ss.map V.str)
 | []=>.nil
 | _::_=>.cons .str ue
def F5{K:m9}{mg:QQZ}{x:Str}{a:Addr}{ss:QQQ}(h:mg x=some (.ref a))(q:p9 K (λ_=>none) a (ss.map V.str)):KD K mg x (.tup (ss.map D.str)):=
 ⟨.ref a,_,h,rfl,λ_=>.tup (BH q) ue⟩
variable {d:D}{i:Expr}{td tk:T3}{F:T0 (Str × QQQ)}
def oE(hg:Gl X x)(h:KD X.K X.mg x d)(hd:va x:=by decide):E3 X (.Name x pos) (c3 d):=by obtain⟨v,u,hm,r,hh⟩:=h;exact PE.mono (xH hg hm r hd) λY H Q' zz=>x7 zz λU M Q hs hm ht k=>k _ H _ M (hh H) hm .refl ht
def Lj(F:T0 (Str×QQQ))(ta:T3):T3:=λU M Q=>ta U M λx M1=>match x with|.str k=>Q (.bl (KTD.datumAt k F).isSome) M1|_=>False
def Js(F:T0 (Str×QQQ))(ta:T3):T3:=λU M Q=>ta U M λx M1=>match x with|.str k=>(KTD.datumAt k F).elim False λss=>Q (.tup (ss.map D.str)) M1|_=>False
def Dh(T:DT X.K X.mg x F)(hg:Gl X x)(he:E3 X e ta)(hd:va x:=by decide)(hmk:behindInMarks .In (.Name x p)=false:=by rfl):E3 X (.Compare e [.In] [.Name x p] pos) (Lj F ta):=by
 obtain⟨a,hm,T⟩:=yS T;refine PE.mono (yf (r:=λy z H Q=>∃k,y=.str k/\z=.ref a/\Q (.bl (KTD.datumAt k F).isSome) H) (λMf s Y H y z v u Q I ry rz ⟨k,e1,e2,q⟩=>?_) he (xH (v:=.ref a) hg hm rfl hd) hmk) λY H Q' zz=>x7 zz λU M Q hs hm ht k=>⟨U,M,_,hs,hm,ht,λv H1 d M1 hd Mh e1 q1=>?_⟩
 .subst e1 e2;obtain⟨t,rfl⟩:=ry;obtain rfl:u=Value.ref a:=rz;exact Hm (T s.heap I.lJ) ⟨.bl (KTD.datumAt k F).isSome,H,I.tok _,rfl,q⟩
 .cases d with
  | str k'=>exact⟨k',hd.str_inv,rfl,k _ _ _ _ .bl Mh e1 q1⟩
  | _=>exact q1.elim
def CJ(T:DT X.K X.mg x F)(hg:Gl X x)(he:E3 X e ta)(hd:va x:=by decide)(hs:tJ e:=by exact λ_ _=>rfl):E3 X (.Subscript (.Name x p) e pos) (Js F ta):=by
 obtain⟨a,hm,T⟩:=yS T;refine PE.mono (Bg (r:=λz y H Q=>∃k ss,y=.str k/\z=.ref a/\KTD.datumAt k F=some ss/\∀t,p9 X.K H t (ss.map V.str)->Q (.ref t) H) (λvalue Mo Mf s Y H z y o i Q I rz ry ⟨k,ss,e1,e2,e3,q⟩ hs=>?_) (xH (v:=.ref a) hg hm rfl hd) he hs) λY H Q' zz=>x7 zz λU M Q hs hm ht k=>⟨U,M,_,hs,hm,ht,λv H1 d M1 hd Mh e1 q1=>?_⟩
 .subst e1 e2;obtain⟨t,rfl⟩:=ry;obtain rfl:o=Value.ref a:=rz;have hT:=tq (s:=s) (T s.heap I.lJ);have h2:wpAny (model X.prog X.w) X.A (getItem (.ref a) (.str k t)) (EP X Mf Y Q) X.xe s:=DH (T s.heap I.lJ) e3 λv ⟨t',e4,q4⟩=>⟨.ref t',H,I.tok _,e4,q t' (BH q4)⟩;unfold subscriptTail;refine bh ?_;rw[jg hT.not_modules];refine bh (gO hT iy.lookup ?_);have fin:wpAny (model X.prog X.w) X.A (subscripted Mo false (.ref a) (.str k t)) (λr s₃=>wpAny (model X.prog X.w) X.A (letTemporaryGo value (.ref a) r>>=λ_=>pure r) (EP X Mf Y Q) X.xe s₃) X.xe s:=by rw[hs];exact wpAny_operating (cz h2 (λr s₃ h₃=>bh (jo (bj h₃))) λ_ _ x=>x)
  first
   | exact bj (bh fin)
   | exact bh (bj (bh fin))
   | exact bh fin
 .cases d with
  | str k'=>obtain⟨ss,e4,q2⟩:=nH q1;exact⟨k',ss,hd.str_inv,rfl,e4,λt qt=>k _ _ _ _ (.tup qt ue) Mh e1 q2⟩
  | _=>exact q1.elim
noncomputable def vS(M:Mp)(a:Addr):Option (T0 (nZ×D)):=match M a with
 | some (.dk kvs)=>some kvs
 | _=>none
noncomputable def qQ(kvs:T0 (nZ×D))(k:nZ):Option D:=(kvs.find? λp=>decide (p.1=k)).map (·.2)
def zT{K:m9}{H:Hp}{M:Mp}{a:Addr}{kvs:T0 (nZ×D)}(hm:HM K H M)(h:vS M a=some kvs):∃vs,H a=some (.dK vs)/\vs.map (·.1)=kvs.map (·.1)/\mS K H (kvs.map (·.2)) (vs.map (·.2)):=by
 unfold vS at h;cases e:M a with
 | none=>rw[e]at h;cases h
 | some c=>
  rw[e]at h;have ok:=hm a c e;cases c with
  | dk es=>cases h;exact ok
  | ins _ _=>cases h
  | lst _=>cases h
  | exc _=>cases h
  | fd _ _=>cases h
theorem xA{K:m9}{H:Hp}{k:nZ}:∀{kvs:T0 (nZ×D)} {vs:T0 (nZ×V)},vs.map (·.1)=kvs.map (·.1)->mS K H (kvs.map (·.2)) (vs.map (·.2))->(∀d,qQ kvs k=some d->∃v,rC vs k=some v/\n8 K H d v)/\(qQ kvs k=none->rC vs k=none)
 | [],[],_,_=>⟨λd z=>(by cases z),λ_=>rfl⟩
 | [],_::_,e,_=>by cases e
 | _::_,[],e,_=>by cases e
 | (j,d)::kvs,(j',v)::vs,e,h=>by
  have e1:j'=j:=by simpa using(eX e).1
  subst e1;obtain⟨x,r,e2,h1,h2⟩:=h.inv;obtain⟨e3,e4⟩:=eX e2;subst e3 e4;have ih:=xA (k:=k) (kvs:=kvs) (vs:=vs) (eX e).2 h2;by_cases hk:j'=k
  .have g:qQ ((j',d)::kvs) k=some d:=by simp[qQ,hk]
   have g':rC ((j',v)::vs) k=some v:=by simp[rC,hk]
   rw[g,g'];exact⟨λd' z=>by cases z;exact⟨v,rfl,h1⟩,λz=>by cases z⟩
  .have g:qQ ((j',d)::kvs) k=qQ kvs k:=by simp[qQ,hk]
   have g':rC ((j',v)::vs) k=rC vs k:=by simp[rC,hk]
   rw[g,g'];exact ih
def Er(x y:D)(M:Mp)(Q:DK):Prop:=match x,y with
 | .ref a,.str k=>(vS M a).elim False λkvs=>(qQ kvs (.inr k)).elim False λd=>Q d M
 | _,_=>False
def Jh(td tk:T3):T3:=λU M Q=>td U M λx M1=>tk U M1 λy M2=>Er x y M2 Q
def FM(hu:X.A.units+9<cLine)(ho:E3 X o td)(hi:E3 X i tk)(hs:tJ i:=by exact λ_ _=>rfl):E3 X (.Subscript o i pos) (Jh td tk):=by
 refine PE.mono (Bg (r:=R3 X.K Er) (λvalue Mo Mf s Y H vx vy v u Q' I rx ry h hs=>?_) ho hi hs) zb;obtain⟨x,y,M,Q,hx,hy,hm,q,k⟩:=h;unfold Er at q;split at q
 .rename_i a0 k0;obtain⟨kvs,e1,q⟩:=nH q;obtain⟨d,e2,q⟩:=nH q;cases hx.lm;cases hy.str_inv;obtain⟨vs,h1,h2,h3⟩:=zT hm e1;obtain⟨w,e3,hw⟩:=(xA h2 h3).1 d e2;refine BJ (by lia) value Mo Mf s Y H _ _ v u Q' I rx ry ⟨_,w,rfl,?_,k _ _ _ _ hw hm .refl q⟩ hs;have g:=Ao.k (k:=Sum.inr k0) h1;rw[e3]at g;exact g
 .exact q.elim
noncomputable def qe:T0 D->Option (T0 (nZ×D))
 | []=>some []
 | .tup [.str k,d]::r=>(qe r).map ((.inr k,d)::·)
 | _::_=>none
theorem xm{K:m9}{H:Hp}:∀{es:T0 D} {kvs:T0 (nZ×D)} {xs:T0 V},qe es=some kvs->mS K H es xs->∃(ts:QXQ) (vs:T0 (nZ×V)),xs=ts.map V.ref/\ts.length=vs.length/\vs.map (·.1)=kvs.map (·.1)/\mS K H (kvs.map (·.2)) (vs.map (·.2))/\
  ∀(j:Nat) (t:Addr) (p:nZ×V),ts[j]?=some t->vs[j]?=some p->p9 K H t [kV p.1,p.2]
 | [],_,_,e,h=>by cases e;exact⟨[],[],h.nil_inv,rfl,rfl,.nil,λj t p z=>by simp at z⟩
 | d::es,kvs,xs,e,h=>by
  obtain⟨x,r,rfl,h1,h2⟩:=h.inv;unfold qe at e;split at e
  .rename_i z;cases z
  .rename_i k d' r' z;cases z;cases q:qe es with
   | none=>rw[q]at e;cases e
   | some kvs'=>
    rw[q]at e;cases e;obtain⟨ts,vs,e1,e2,e3,e4,e5⟩:=xm q h2;obtain⟨a,ys,rfl,g1,g2⟩:=h1.lw;obtain⟨y,r1,rfl,g3,g4⟩:=g2.inv;obtain⟨w,r2,rfl,g5,g6⟩:=g4.inv;cases g6.nil_inv;cases g3.str_inv;refine⟨a::ts,(.inr k,w)::vs,by rw[e1];rfl,by simpa using e2,by rw[b6,b6,e3],.cons g5 e4,λj t p z1 z2=>?_⟩;cases j with
    | zero=>
     have z1':a=t:=by simpa using z1
     have z2':(Sum.inr k,w)=p:=by simpa using z2
     subst z1' z2';exact g1
    | succ j=>exact e5 j t p (by simpa using z1) (by simpa using z2)
  .cases e
def Hh(ds:T0 D)(M:Mp)(Q:DK):Prop:=match ds with
 | [.ref a]=>(ma M a).elim False λes=>(qe es).elim False λkvs=>(kvs.map (·.1)).Nodup/\∀p,M p=none->Q (.ref p) (mL M p (.dk kvs))
 | _=>False
def u5(hc:X.calm=true):C3 X (.type "dict") Hh:=by
 intro Mf s Y H vs us Q' I rv h;obtain⟨ds,M,Q,hd,hm,q,k⟩:=h;unfold Hh at q;split at q
 .obtain⟨es,e1,q⟩:=nH q;obtain⟨kvs,e2,OR,q⟩:=nH q;obtain⟨v,rfl,hv⟩:=oJ hd;cases hv.lm;obtain⟨xs,h1,h2,_⟩:=mR hm e1;obtain⟨ts,ws,rfl,f2,f3,f4,f5⟩:=xm e2 h2;refine Ak hc Mf s Y H _ us Q' I rv ⟨_,ts,ws,rfl,h1,f2,f5,by rw[f3];exact OR,λd hd=>?_⟩;have e:nF X.K H (upd H d (.dK ws)):=.new hd;exact k _ _ _ _ .ref (hm.new (c:=.dk kvs) hd ⟨_,m7,f3,f4.mono e⟩) e (q d (hm.fresh hd))
 .exact q.elim
def Dx:bootBuiltins "set"=some (.type "set"):=by decide+kernel
noncomputable def um:T0 D->Option (QQQ)
 | []=>some []
 | .str x::r=>(um r).map (x::·)
 | _::_=>none
theorem tN:∀ss:QQQ,um (ss.map D.str)=some ss
 | []=>rfl
 | x::r=>by show(um (r.map D.str)).map (x::·)=_;rw[tN r];rfl
theorem wc{K:m9}{H:Hp}:∀{ds:T0 D} {ss:QQQ} {xs:T0 V},um ds=some ss->mS K H ds xs->xs=ss.map V.str
 | [],_,_,e,h=>by cases e;exact h.nil_inv
 | d::ds,_,_,e,h=>by
  obtain⟨x,r,rfl,h1,h2⟩:=h.inv;cases d with
  | str z=>
   unfold um at e;cases q:um ds with
   | none=>rw[q]at e;cases e
   | some ss=>rw[q]at e;cases e;rw[h1.str_inv,wc q h2];rfl
  | _=>cases e
def Jv(ta:T3):T3:=λU M Q=>ta U M λx M1=>(Ab M1 x).elim False λes=>(um es).elim False λss=>ss.length<4000/\Q (.int (nE ss).length) M1
def CQ{p2 MO:Pos}(hc:X.calm=true)(he:E3 X e ta)(O5:Gl X "len")(Mh:X.mg "len"=none)(NN:Gl X "set")(Mz:X.mg "set"=none)(b1:bootBuiltins "len"=some (.builtin "len"))(b2:bootBuiltins "set"=some (.type "set")) (hs:starEach [e] X.env=[(false,eval e X.env)]:=by rfl):E3 X (.Call (.Name "len" p) [.Call (.Name "set" p2) [e] [] MO] [] pos) (Jv ta):=
 PE.mono (Ce hc he O5 Mh NN Mz b1 b2 hs) λY H Q' zz=>x7 zz λU M Q hs hm ht k=>⟨U,M,_,hs,hm,ht,λv H1 d M1 hd Mh e1 q1=>by
  obtain⟨es,e2,q1⟩:=nH q1;obtain⟨ss,e3,hz,q1⟩:=nH q1;obtain⟨a,xs,rfl,h1,h2⟩:=u6 Mh hd e2;rw[wc e3 h2]at h1;have z:scanBound=4096:=rfl;exact⟨a,ss,rfl,h1,by lia,k _ _ _ _ .int Mh e1 q1⟩⟩
def Hy(x:D)(ds:T0 D)(M:Mp)(Q:DK):Prop:=match x,ds with
 | .ref a,[y]=>(ma M a).elim False λes=>es.length<sizeLine/\Q .lB (mL M a (.lst (es++[y])))
 | _,_=>False
def mZ{M:Mp}{a:Addr}{es:T0 D}(h:ma M a=some es):M a=some (.lst es):=by
 unfold ma at h;split at h
 .rename_i e;rw[e];cases h;rfl
 .cases h
def yH{K:m9}{H:Hp}{M:Mp}{a:Addr}{es:T0 D}(hm:HM K H M)(h:ma M a=some es):∃xs,H a=some (.lst xs)/\mS K H es xs:=hm a _ (mZ h)
def B0:M3 X "list.append" Hy:=by
 intro Mf s Y H vx vs v us Q' I rx rv h;obtain⟨x,ds,M,Q,hx,hd,hm,q,k⟩:=h;unfold Hy at q;split at q
 .obtain⟨es,e1,hz,q⟩:=nH q;obtain⟨w,rfl,hw⟩:=oJ hd;cases hx.lm;obtain⟨xs,h1,h2⟩:=yH hm e1;refine CB Mf s Y H _ _ v us Q' I rx rv ⟨_,xs,w,rfl,rfl,h1,by rw[<-h2.length];exact hz,?_⟩;obtain⟨Mz,ex⟩:=hm.put (c:=.lst (es++[_])) (mZ e1) λex=>⟨_,m7,(h2.mono ex).snoc (hw.mono ex)⟩;exact k _ _ _ _ .lB Mz ex q
 .exact q.elim
def IF(x:D)(ds:T0 D)(M:Mp)(Q:DK):Prop:=match x,ds with
 | .ref a,[.ref b]=>(ma M a).elim False λes=>(ma M b).elim False λfs=>es.length+fs.length<=sizeLine/\Q .lB (mL M a (.lst (es++fs)))
 | _,_=>False
def B8:M3 X "list.extend" IF:=by
 intro Mf s Y H vx vs v us Q' I rx rv h;obtain⟨x,ds,M,Q,hx,hd,hm,q,k⟩:=h;unfold IF at q;split at q
 .obtain⟨es,e1,q⟩:=nH q;obtain⟨fs,e2,hz,q⟩:=nH q;obtain⟨w,rfl,hw⟩:=oJ hd;cases hx.lm;cases hw.lm;obtain⟨xs,h1,h2⟩:=yH hm e1;obtain⟨ys,g1,g2⟩:=yH hm e2;refine CC Mf s Y H _ _ v us Q' I rx rv ⟨_,_,xs,ys,rfl,rfl,h1,g1,by rw[<-h2.length,<-g2.length];exact hz,?_⟩;obtain⟨Mz,ex⟩:=hm.put (c:=.lst (es++fs)) (mZ e1) λex=>⟨_,m7,(h2.mono ex).append (g2.mono ex)⟩;exact k _ _ _ _ .lB Mz ex q
 .exact q.elim
def pL(ho:E3 X o ta)(ha:A3 X (e::es) t)(MJ:attributeBase o "append" X.env (eval o X.env)=eval o X.env:=by rfl)
  (Nx:((backTo pos (starEach (e::es) X.env)).all (λx=>!x.1)&&(backToKw pos (keywordEach [] X.env)).all (λx=>x.1.isSome)&&decide ((e::es).length+([]:T0 Keyword).length+(if ([]:T0 Keyword).isEmpty then 0 else 1)<30))=true:=by rfl)
  (MK:(Mj.endLine==pos.line)=true:=by rfl) (hs:xG X e es:=by rfl) (MC:yL X pos es:=by rfl):
  E3 X (.Call (.Attribute o "append" Mj) (e::es) [] pos) (KF Hy ta t):=GZ PySem.F.slot_list_append PySem.F.type_list_append B0 ho ha MJ Nx MK hs MC
def qZ(ho:E3 X o ta)(ha:A3 X (e::es) t)(MJ:attributeBase o "extend" X.env (eval o X.env)=eval o X.env:=by rfl)
  (Nx:((backTo pos (starEach (e::es) X.env)).all (λx=>!x.1)&&(backToKw pos (keywordEach [] X.env)).all (λx=>x.1.isSome)&&decide ((e::es).length+([]:T0 Keyword).length+(if ([]:T0 Keyword).isEmpty then 0 else 1)<30))=true:=by rfl)
  (MK:(Mj.endLine==pos.line)=true:=by rfl) (hs:xG X e es:=by rfl) (MC:yL X pos es:=by rfl):
  E3 X (.Call (.Attribute o "extend" Mj) (e::es) [] pos) (KF IF ta t):=GZ PySem.F.slot_list_extend PySem.F.type_list_extend B8 ho ha MJ Nx MK hs MC
def nW.none{M M2:Mp}{q:Addr}(s:nW M M2)(h:M2 q=none):M q=none:=by
 cases e:M q with
 | none=>rfl
 | some c=>rw[s q c e]at h;cases h
def nW.upd{M M2:Mp}{q:Addr}{c:qg}(s:nW M M2):nW (mL M q c) (mL M2 q c):=λx d h=>by
 by_cases e:x=q
 .subst e;rw[mN]at h ⊢;exact h
 .rw[nw e]at h ⊢;exact s x d h
def nW.dk{M M':Mp}{a:Addr}{ds:T0 (nZ×D)}(s:nW M M')(h:vS M a=some ds):vS M' a=some ds:=by
 unfold vS at h ⊢;cases e:M a with
 | none=>rw[e]at h;cases h
 | some c=>rw[s a c e];rw[e]at h;exact h
def rR(p:Addr)(M M':Mp):Prop:=∀b c,b≠p->M b=some c->M' b=some c
def nW.keep{M M':Mp}{p:Addr}(s:nW M M'):rR p M M':=λb c _ h=>s b c h
def rR.trans{M M1 M2:Mp}{p:Addr}(a:rR p M M1)(b:rR p M1 M2):rR p M M2:=λx c n h=>b x c n (a x c n h)
def rR.put{M:Mp}{p:Addr}{c:qg}:rR p M (mL M p c):=λb d n h=>by rw[nw n];exact h
def rR.lst{M M':Mp}{p a:Addr}{ds:T0 D}(k:rR p M M')(n:a≠p)(h:ma M a=some ds):ma M' a=some ds:=by have:=k a _ n (mZ h);unfold ma;rw[this]
def rR.dk{M M':Mp}{p a:Addr}{ds:T0 (nZ×D)}(k:rR p M M')(n:a≠p)(h:vS M a=some ds):vS M' a=some ds:=by
 unfold vS at h ⊢;cases e:M a with
 | none=>rw[e]at h;cases h
 | some c=>rw[k a c n e];rw[e]at h;exact h
def nM{M:Mp}{a p C:Addr}{ds:T0 D}{fs:T0 (Str×D)}(h:ma M a=some ds)(hp:M p=some (.ins C fs)):a≠p:=λz=>by subst z;rw[mZ h]at hp;cases hp
def Jq{M:Mp}{a p C:Addr}{ds:T0 (nZ×D)}{fs:T0 (Str×D)}(h:vS M a=some ds)(hp:M p=some (.ins C fs)):a≠p:=λz=>by subst z;unfold vS at h;rw[hp]at h;cases h
def pA{M:Mp}{p:Addr}{ds:T0 D}(h:M p=some (.lst ds)):ma M p=some ds:=by unfold ma;rw[h]
def rG{M:Mp}{p:Addr}{ds:T0 (nZ×D)}(h:M p=some (.dk ds)):vS M p=some ds:=by unfold vS;rw[h]
def sh{N:Mp}{p q C:Addr}{fs fs':T0 (Str×D)}{c:qg}(hp:N p=some (.ins C fs))(hq:N q=none):
  q≠p/\mL N q c p=some (.ins C fs)/\rR p N (mL (mL N q c) p (.ins C fs'))/\mL (mL N q c) p (.ins C fs') q=some c/\mL (mL N q c) p (.ins C fs') p=some (.ins C fs'):=by
 have n:p≠q:=IG hp hq;refine⟨bR n,by rw[nw n];exact hp,(nW.new hq).keep.trans .put,by rw[nw (bR n),mN],mN⟩
theorem tH{g:yJ}{te:T3}{ok:Mp->Prop}{Q:DK}(all:T0 D)(J:T0 D->T0 D->qz->Mp->Prop)(lC:∀p acc U M,J p acc U M->ok M):∀(ds pre acc:T0 D) (U:qz) (M:Mp),pre++ds=all->acc.length+ds.length<=sizeLine->J pre acc U M->
  (∀pre d post,pre++d::post=all->∀acc U M,J pre acc U M->∀k:qz->DK,(∀δ2 y M4,J (pre++[d]) (acc++[y]) δ2 M4->k δ2 y M4)->g d U M λδ2 M2=>te δ2 M2 (k δ2))->
  (∀acc U M,J all acc U M->∀p,M p=none->Q (.ref p) (mL M p (.lst acc)))->rk g xk te ok Q ds acc U M
 | [],pre,acc,U,M,e,hl,j,_,hq=>⟨by simpa using hl,hq acc U M (by rw[<-e,bY];exact j)⟩
 | d::r,pre,acc,U,M,e,hl,j,ht,hq=>by rw[bT]at hl;refine⟨by lia,?_⟩;refine ht pre d r e acc U M j (λδ2 y M4=>ok M4/\rk g xk te ok Q r (acc++[y]) δ2 M4) λδ2 y M4 j'=>⟨lC _ _ _ _ j',tH all J lC r (pre++[d]) (acc++[y]) δ2 M4 (by rw[<-e,cc];rfl) ?_ j' ht hq⟩;rw[bz,cF];lia
noncomputable def tX:Nat->D->Bool
 | _,.lB=>true
 | _,.bl _=>true
 | _,.int _=>true
 | _,.str _=>true
 | n+1,.tup ds=>ds.all (tX n)
 | _,_=>false
theorem sT{f:D->D->Option Bool}:∀ds:T0 D,(∀d∈ds,f d d=some true)->og f ds ds=some true
 | [],_=>rfl
 | d::r,h=>by show(f d d).bind (λp=>(og f r r).map λq=>p&&q)=some true;rw[h d bG,sT r λe he=>h e (bK _ he)];rfl
theorem vQ{M:Mp}:∀(n:Nat) (d:D),tX n d=true->sA M (n+1) d d=some true
 | _,.lB,_=>rfl
 | _,.bl _,_=>by simp[sA]
 | _,.int _,_=>by simp[sA]
 | _,.str _,_=>by simp[sA]
 | n+1,.tup ds,h=>by have h:ds.all (tX n)=true:=h;show(og (sA M (n+1)) ds ds).map (λp=>p&&ds.length==ds.length)=some true;rw[sT ds λd hd=>vQ n d (ck.mp h d hd)];simp
 | 0,.tup _,h=>by cases h
 | 0,.ref _,h=>by cases h
 | _+1,.ref _,h=>by cases h
 | 0,.ty _,h=>by cases h
 | _+1,.ty _,h=>by cases h
 | 0,.rl _,h=>by cases h
 | _+1,.rl _,h=>by cases h
def xg{M:Mp}{n:Nat}{a b:Addr}{ds:T0 D}(ha:ma M a=some ds)(hb:ma M b=some ds)(h:∀d∈ds,sA M n d d=some true):sA M (n+1) (.ref a) (.ref b)=some true:=by show(ma M a).bind (λi=>(ma M b).bind λj=>if i.length=j.length then og (sA M n) i j else some false)=some true;rw[ha,hb];show(if ds.length=ds.length then og (sA M n) ds ds else some false)=some true;rw[bw rfl];exact sT ds h
section
variable {a:Expr}
def KW(ta:T3):T3:=λU M Q=>ta U M λx M1=>match x with|.int i=>Q (.int (-i)) M1|_=>False
def Iq(ha:E3 X a ta):E3 X (.UnaryOp .USub a pos) (KW ta):=PE.mono (Jx HI ha) λY H Q' zz=>x7 zz λU M Q hs hm ht k=>
 ⟨U,M,_,hs,hm,ht,λv H1 d M1 hd Mh e1 q1=>by
  cases d with
  | int i=>cases hd.int_inv;exact⟨i,rfl,k _ H1 _ M1 .int Mh e1 q1⟩
  | _=>exact q1.elim⟩
end
end L3
namespace L2
open PySem.W
variable {prog:Pg}{w:Wo}{A:Ar}{E:QQX}{s:Sd}
def ug:bootBuiltins "sorted"=some (.builtin "sorted"):=by decide+kernel
end L2
namespace L3
open L2
variable {X:Cx}{pos:Pos}{a b o i:Expr}{ta tb ti to:T3}
end L3
namespace L2
variable {prog:Pg}{w:Wo}{A:Ar}{E:QQX}{s:Sd}{X:Cx}
end L2
namespace L3
open L2
variable {X:Cx}{pos Mj p:Pos}{a b o e i value:Expr}{es:T0 Expr}{ta tb ti to tv td tk:T3}{t:rX}
def xZ{M:Mp}{a:Addr}{kvs:T0 (nZ×D)}(h:vS M a=some kvs):M a=some (.dk kvs):=by
 unfold vS at h;split at h
 .rename_i e;rw[e];cases h;rfl
 .cases h
variable {Mf:T0 (Addr × Obj)}{Y:St}{H:Hp}{s:Sd}
def xx{a b:Addr}{xs:T0 V}(I:Inv X Mf Y H s)(f:ui X Mf H b)(q:rA X.K H a xs):a≠b:=by
 rintro rfl
 rcases q with q|⟨o,its,n,hk,_⟩
 .have z:=f.1;rcases q with q|⟨u,q⟩<;>(rw[q]at z;cases z)
 .have e:=I.mod.ml a o hk;rcases f.2.2.2.1 with z|z
  .exact I.ok.l6 a o e z
  .exact absurd (bO (bD e) (bQ I.ok.md z)) (cM _)
noncomputable def Hj(K:m9)(a b:Addr):It:=
 ⟨λi H=>∃xs ys x y,rA K H a xs/\rA K H b ys/\xs[i]?=some x/\ys[i]?=some y,λi H v H'=>∃p x y,v=.ref p/\H p=none/\H'=upd H p (.tup [x,y])/\(∀xs,rA K H a xs->xs[i]?=some x)/\(∀ys,rA K H b ys->ys[i]?=some y),λi H=>∃xs ys,rA K H a xs/\rA K H b ys/\i=min xs.length ys.length⟩
def B5{P:Pg}{w:Wo}{K:m9}{MP:T0 Expr}{n:Nat}{tp:Pos}(a b z TI TO i1 i2:Addr)(a1:TI≠z)(a2:TO≠z)(a3:i1≠z)(a4:i2≠z)(a5:TI≠TO)(a6:TI≠i1)(a7:TI≠i2)(a8:TO≠i1)(a9:TO≠i2)(mG:i1≠i2):
  yb P w K (.Tuple MP n tp) (Hj K a b) [z,TI,TO,i1,i2] z (λi h=>IsZip h z TI TO .none/\IsPair h TI (.ref i1) (.ref i2)/\(∃u v,IsPair h TO u v)/\h.IsListIter i1 a i/\h.IsListIter i2 b i) where
 mem:=by simp
 obj:=λi h st c hc=>by
  obtain⟨h1,h2,⟨u,v,h3⟩,⟨o4,h4,_,d4⟩,⟨o5,h5,_,d5⟩⟩:=st;simp only[br,bC,bX]at hc;rcases hc with rfl|rfl|rfl|rfl|rfl
  .exact⟨_,h1,λv z=>by cases z⟩
  .exact⟨_,h2,λv z=>by cases z⟩
  .exact⟨_,h3,λv z=>by cases z⟩
  .exact⟨_,h4,λv z=>by rw[d4]at z;cases z⟩
  .exact⟨_,h5,λv z=>by rw[d5]at z;cases z⟩
 keep:=λi h h' st k=>by obtain⟨h1,h2,⟨u,v,h3⟩,⟨o4,h4,c4⟩,⟨o5,h5,c5⟩⟩:=st;exact⟨k z (by simp) _ h1,k TI (by simp) _ h2,⟨u,v,k TO (by simp) _ h3⟩,⟨o4,k i1 (by simp) _ h4,c4⟩,⟨o5,k i2 (by simp) _ h5,c5⟩⟩
 item:=by
  intro X hP hw hK hc i Mf s Y H E I hf st hg;subst hP hw hK;obtain⟨xs,ys,x,y,hx,hy,ex,ey⟩:=hg;obtain⟨its,rx,px,_⟩:=I.list hx;obtain⟨Nn,ry,py,_⟩:=I.list hy;obtain⟨u,eu,ru⟩:=rx.get ex;obtain⟨v,ev,rv⟩:=ry.get ey;obtain⟨h1,h2,⟨p,q,h3⟩,h4,h5⟩:=st;have hh:X.A.in1.handled=none:=I.ok.hd hc;have fa:∀c∈[z,TI,TO,i1,i2],a≠c:=λc hc=>xx I (hf c hc) hx;have fb:∀c∈[z,TI,TO,i1,i2],b≠c:=λc hc=>xx I (hf c hc) hy;have Mu:rZ z TI TO i1 i2 [i1,a] [i2,b]:=⟨a1,a2,a3,a4,a5,a6,a7,a8,a9,mG,by
   simp only[br,bC,bX,cA];exact⟨bR a3,bR (fa z (by simp))⟩,by
   simp only[br,bC,bX,cA];exact⟨a8,bR (fa TO (by simp))⟩,by
   simp only[br,bC,bX,cA];exact⟨bR mG,bR (fa i2 (by simp))⟩,by
   simp only[br,bC,bX,cA];exact⟨bR a4,bR (fb z (by simp))⟩,by
   simp only[br,bC,bX,cA];exact⟨a9,bR (fb TO (by simp))⟩,by
   simp only[br,bC,bX,cA];exact⟨mG,bR (fb i1 (by simp))⟩⟩
  have l1:i<its.toArray.size:=by
   have:=(bL.mp eu).1
   simpa using this
  have l2:i<Nn.toArray.size:=by
   have:=(bL.mp ev).1
   simpa using this
  refine uy (jp hh i1 a (fa i1 (by simp)) its.toArray) (jp hh i2 b (fb i2 (by simp)) Nn.toArray) Mu h1 h2 h3 ⟨h4,px.isList⟩ ⟨h5,py.isList⟩ l1 l2 λx' y' g tk e1 e2 z1 o1 s1 s2 t1 sz kp=>?_;have e1':x'=u:=by
   have:its[i]?=some x':=by simpa using e1
   rw[eu]at this;exact(bJ this).symm
  have NU:y'=v:=by
   have:Nn[i]?=some y':=by simpa using e2
   rw[ev]at this;exact(bJ this).symm
  subst e1' NU;refine⟨_,rfl,iz z1 λg2 z2 sb=>?_⟩;have zlt:z<s.heap.objs.size:=bD h1;have kk:∀c o,c∉[z,TI,TO,i1,i2]->s.heap.get? c=some o->g2.get? c=some o:=λc o hc e=>by simp only[br,bC,bX,cA]at hc;exact(sb.2 c hc.1).trans (kp c o hc.1 hc.2.2.1 hc.2.2.2.1 hc.2.2.2.2 e)
  have t2:g2.get? s.heap.objs.size=some {cls:=.type "tuple",data:=.seq #[x',y']}:=(sb.2 _ (cU zlt)).trans t1;have OA:H s.heap.objs.size=none:=I.lC.fresh (bB _);have I2:=I.drawn (ch:=[z,TI,TO,i1,i2]) (T:=s.heap.objs.size) (xs:=[x,y]) (its:=[x',y']) (h':=g2) (tk:=tk) hf kk (bB _) (by show 2<=sizeLine;decide) (.cons ru (.cons rv .nil)) ⟨_,t2,rfl,⟨_,rfl⟩,rfl⟩;refine⟨.ref s.heap.objs.size,_,I2,rfl,⟨_,x,y,rfl,OA,rfl,λxs' hx'=>by rw[I.lN hx' hx];exact ex,λys' hy'=>by rw[I.lN hy' hy];exact ey⟩,?_,λc hc=>?_⟩
  .obtain⟨o4,g4,c4⟩:=s1.1;obtain⟨o5,g5,c5⟩:=s2.1;exact⟨z2,(sb.2 _ a1).trans (kp _ _ a1 a5 a6 a7 h2),⟨_,_,(sb.2 _ a2).trans o1⟩,⟨o4,(sb.2 _ a3).trans g4,c4⟩,⟨o5,(sb.2 _ a4).trans g5,c5⟩⟩
  .have n0:=(hf c hc).1;obtain⟨o,eo⟩:∃o,s.heap.get? c=some o:=by
    obtain⟨o4,g4,_⟩:=h4;obtain⟨o5,g5,_⟩:=h5;simp only[br,bC,bX]at hc;rcases hc with rfl|rfl|rfl|rfl|rfl
    .exact⟨_,h1⟩
    .exact⟨_,h2⟩
    .exact⟨_,h3⟩
    .exact⟨_,g4⟩
    .exact⟨_,g5⟩
   rw[nh (bH (bD eo))];exact n0
 done:=by
  intro X hP hw hK hc i Mf s Y H E I hf st hg;subst hP hw hK;obtain⟨xs,ys,hx,hy,hi⟩:=hg;obtain⟨its,rx,px,_⟩:=I.list hx;obtain⟨Nn,ry,py,_⟩:=I.list hy;obtain⟨h1,h2,⟨p,q,h3⟩,h4,h5⟩:=st;have hh:X.A.in1.handled=none:=I.ok.hd hc;have fa:∀c∈[z,TI,TO,i1,i2],a≠c:=λc hc=>xx I (hf c hc) hx;have fb:∀c∈[z,TI,TO,i1,i2],b≠c:=λc hc=>xx I (hf c hc) hy;have Mu:rZ z TI TO i1 i2 [i1,a] [i2,b]:=⟨a1,a2,a3,a4,a5,a6,a7,a8,a9,mG,by
   simp only[br,bC,bX,cA];exact⟨bR a3,bR (fa z (by simp))⟩,by
   simp only[br,bC,bX,cA];exact⟨a8,bR (fa TO (by simp))⟩,by
   simp only[br,bC,bX,cA];exact⟨bR mG,bR (fa i2 (by simp))⟩,by
   simp only[br,bC,bX,cA];exact⟨bR a4,bR (fb z (by simp))⟩,by
   simp only[br,bC,bX,cA];exact⟨a9,bR (fb TO (by simp))⟩,by
   simp only[br,bC,bX,cA];exact⟨mG,bR (fb i1 (by simp))⟩⟩
  have e1:=rx.length;have e2:=ry.length;refine ro (jp hh i1 a (fa i1 (by simp)) its.toArray) (jp hh i2 b (fb i2 (by simp)) Nn.toArray) Mu h1 h2 h3 ⟨h4,px.isList⟩ ⟨h5,py.isList⟩ (by simp only[bA];lia) λg tk kp=>⟨rfl,?_⟩;have kk:∀c o,c∉[z,TI,TO,i1,i2]->s.heap.get? c=some o->g.get? c=some o:=λc o hc e=>by simp only[br,bC,bX,cA]at hc;exact kp c o hc.1 hc.2.2.1 hc.2.2.2.1 hc.2.2.2.2 e
  refine I.step (g':=s.gens) (d':=s.drawn) (t':=tk) (ch:=[z,TI,TO,i1,i2]) (λc hc=>⟨(hf c hc).2.2.2.1,(hf c hc).2.1,(hf c hc).2.2.2.2.1,(hf c hc).2.2.2.2.2⟩) ?_ ?_ (λc o _ e n=>n) ?_ (λ_ _ e=>e) (λ_ _ _ e=>e) (λc ps e=>⟨#[],by rw[e];simp⟩) ?_ ?_ I.bare
  .exact λc o _ _ hc e _=>kk c o hc e
  .exact λc o _ _ hc e _=>⟨o.slots,kk c o hc e⟩
  .exact λc o hc e=>⟨o,kk c o hc e⟩
  .intro m hm;obtain⟨o,es,ep,ho,r⟩:=hm;exact⟨o,es,ep,kk _ o (λy=>(hf _ y).2.1 rfl) ho,r⟩
  .intro c u e;refine(I.lC c u e).lT (λd v hd q=>kk d v (λy=>?_) q) (λ_ q=>q) λ_ _ q=>q;have n:=(hf d y).1;rcases hd with x|x
   .rw[x,e]at n;cases n
   .rw[x]at n;cases n
 self:=λ_ _ _ _ _ st h=>gD st.1 h
variable {tp:Pos}{MP:T0 Expr}{n:Nat}
def F4{a b:Expr}{ta:TA}(hg:Gl X "zip")(hm:X.mg "zip"=none)(ha:PA X [a,b] ta)(hs:starEach [a,b] X.env=[(false,eval a X.env),(false,eval b X.env)]:=by rfl)(Nk:starEach [b] X.env=[(false,eval b X.env)]:=by rfl):
  PI X (.Tuple MP n tp) (.Call (.Name "zip" p) [a,b] [] pos) (λY H R=>ta Y H λvs H1=>∃l m,vs=[.ref l,.ref m]/\(∃xs,rA X.K H1 l xs)/\(∃xs,rA X.K H1 m xs)/\R (Hj X.K l m) H1):=by
 intro Mf s Y H R I h;refine Call_ (qo I hg hm DR (cQ (pB (ha pos Mf s Y H _ I h) λus s1 zz=>x5 zz λvs H1 I1 r1 q1=>?_) (by rw[hs,Nk]) (by rw[Nk];rfl)));obtain⟨l,m,e,⟨xs,hx⟩,⟨ys,hy⟩,q⟩:=q1;subst e;obtain⟨u,v,rfl,ru,rv⟩:=A5 r1;cases ru;cases rv;obtain⟨its,_,px,_⟩:=I1.list hx;obtain⟨Nn,_,py,_⟩:=I1.list hy;refine call_zip_2 px.isList py.isList λg h1 h2 h3 h4 h5 _ hk=>gD h1 ?_;have I2:Inv X Mf Y H1 {s1 with heap:=g}:=I1.kept (t':=s1.toks) hk;refine⟨s1.heap.objs.size+4,[s1.heap.objs.size+4,s1.heap.objs.size+2,s1.heap.objs.size+3,s1.heap.objs.size,s1.heap.objs.size+1],_,_,H1,rfl,I2,B5 l m _ _ _ _ _ ?_ ?_ ?_ ?_ ?_ ?_ ?_ ?_ ?_ ?_,⟨h1,h2,⟨_,_,h3⟩,h4,h5⟩,λb hb=>?_,q⟩
 .exact λz=>by have z:s1.heap.objs.size+2=s1.heap.objs.size+4:=z;lia
 .exact λz=>by have z:s1.heap.objs.size+3=s1.heap.objs.size+4:=z;lia
 .exact λz=>by have z:s1.heap.objs.size=s1.heap.objs.size+4:=z;lia
 .exact λz=>by have z:s1.heap.objs.size+1=s1.heap.objs.size+4:=z;lia
 .exact λz=>by have z:s1.heap.objs.size+2=s1.heap.objs.size+3:=z;lia
 .exact λz=>by have z:s1.heap.objs.size+2=s1.heap.objs.size:=z;lia
 .exact λz=>by have z:s1.heap.objs.size+2=s1.heap.objs.size+1:=z;lia
 .exact λz=>by have z:s1.heap.objs.size+3=s1.heap.objs.size:=z;lia
 .exact λz=>by have z:s1.heap.objs.size+3=s1.heap.objs.size+1:=z;lia
 .exact λz=>by have z:s1.heap.objs.size=s1.heap.objs.size+1:=z;lia
 .have Nr:s1.heap.objs.size<=b:=by
   simp only[br,bC,bX]at hb;rcases hb with rfl|rfl|rfl|rfl|rfl
   .exact dJ _ _
   .exact dJ _ _
   .exact dJ _ _
   .exact bB _
   .exact dJ _ _
  exact I1.lX Nr (I1.lC.fresh Nr)
def Dz{K:m9}{H1:Hp}{a b:Addr}{ds es:T0 D}:xF K H1 (Hj K a b) (rB ds es) (λM=>ma M a=some ds/\ma M b=some es) where
 go:=λi H M hi hm ok _=>by rw[sd]at hi;obtain⟨xs,h1,h2,_⟩:=mR hm ok.1;obtain⟨ys,g1,g2,_⟩:=mR hm ok.2;obtain⟨x,e1,_⟩:=h2.get (bF (show i<ds.length by lia));obtain⟨y,e2,_⟩:=g2.get (bF (show i<es.length by lia));exact⟨xs,ys,x,y,h1,g1,e1,e2⟩
 mv:=λi d H M x H' hd hm ok _ y=>by
  obtain⟨xs,h1,h2,_⟩:=mR hm ok.1;obtain⟨ys,g1,g2,_⟩:=mR hm ok.2;obtain⟨p,u,v,rfl,hp,rfl,y1,y2⟩:=y;rw[L3.vg]at hd;cases e:ds[i]? with
  | none=>rw[e]at hd;cases hd
  | some d'=>
   cases e':es[i]? with
   | none=>rw[e,e']at hd;cases hd
   | some c'=>rw[e,e']at hd;cases hd;obtain⟨x',q1,hx⟩:=h2.get e;obtain⟨z',q2,hz⟩:=g2.get e';have w1:=y1 xs h1;have w2:=y2 ys g1;rw[q1]at w1;rw[q2]at w2;have v1:x'=u:=bJ w1;have v2:z'=v:=bJ w2;subst v1 v2;have ex:nF K H (upd H p (.tup [x',z'])):=.new hp;exact⟨.tup (.of m7) (.cons (hx.mono ex) (.cons (hz.mono ex) .nil)),hm.add hp,ex⟩
 stop:=λH M hm ok _=>by obtain⟨xs,h1,h2,_⟩:=mR hm ok.1;obtain⟨ys,g1,g2,_⟩:=mR hm ok.2;exact⟨xs,ys,h1,g1,by rw[sd,h2.length,g2.length]⟩
def Ja(t:rX):D9:=λU M R=>t U M λds M1=>match ds with
 | [.ref a,.ref b]=>(ma M1 a).elim False λxs=>(ma M1 b).elim False λys=>R (rB xs ys) (λM=>ma M a=some xs/\ma M b=some ys) M1
 | _=>False
def FG{a b:Expr}{ta:rX}(hg:Gl X "zip")(hm:X.mg "zip"=none)(ha:A3 X [a,b] ta)(hs:starEach [a,b] X.env=[(false,eval a X.env),(false,eval b X.env)]:=by rfl)(Nk:starEach [b] X.env=[(false,eval b X.env)]:=by rfl):
  I3 X (.Tuple MP n tp) (.Call (.Name "zip" p) [a,b] [] pos) (Ja ta):=
 PI.mono (F4 hg hm ha hs Nk) λY H R' zz=>x7 zz λU M R hs hm ht k=>⟨U,M,_,hs,hm,ht,λvs H1 ds M1 hd Mh e1 q1=>by
  split at q1
  .obtain⟨xs,f1,q1⟩:=nH q1;obtain⟨ys,f2,q1⟩:=nH q1;obtain⟨v,u,rfl,hv,hw⟩:=tM hd;cases hv.lm;cases hw.lm;obtain⟨us,h1,_⟩:=mR Mh f1;obtain⟨ws,g1,_⟩:=mR Mh f2;exact⟨_,_,rfl,⟨us,h1⟩,⟨ws,g1⟩,k _ H1 _ _ M1 Dz Mh e1 ⟨f1,f2⟩ q1⟩
  .exact q1.elim⟩
end L3
namespace L2
open Builtin Builtin.Str
variable {prog:Pg}{w:Wo}{A:Ar}{E:QQX}{s:Sd}{X:Cx}
end L2
namespace L3
open L2 Builtin Builtin.Str
variable {X:Cx}{pos Mj:Pos}{o e:Expr}{es:T0 Expr}{ta:T3}{t:rX}
@[irreducible] def SsI (X:Cx) (st:T0 Stmt) (t:ua):Prop:=En X st t
@[irreducible] def SI (X:Cx) (st:Stmt) (t:ua):Prop:=S3 X st t
@[irreducible] def EI (X:Cx) (e:Expr) (t:T3):Prop:=E3 X e t
@[irreducible] def AI (X:Cx) (es:T0 Expr) (t:rX):Prop:=A3 X es t
variable {prog:Pg}{w:Wo}{A:Ar}{E:QQX}{s:Sd}{Mf:T0 (Addr × Obj)}{Y:St}{H:Hp}{p tp:Pos}{MP:T0 Expr}{n:Nat}
end L3
namespace L2
end L2
namespace L3
open L2
end L3
namespace L2
end L2
namespace L3
open L2
variable {X:Cx}{pos p tp kpos:Pos}{MP:T0 Expr}{n:Nat}
end L3
namespace L2
variable {prog:Pg}{w:Wo}{A:Ar}{E:QQX}{s:Sd}{a:Addr}{U:Type}{k:Str}{tk:Tok}
section
variable {R:U→Vl→Prop}{D:T0 (Str × U)}
end
end L2
namespace L3
open L2
variable {X:Cx}{pos p:Pos}{x:Str}{d:D}{e o i:Expr}{ta tb td tk:T3}{F:T0 (Str × QQQ)}
end L3
namespace L2
variable {M:Model}{A:Ar}{s:Sd}{base:Heap}{env:Env}{outer:T0 Env}{L e:Addr}{cls:Vl}{dx:Option Addr}{Q:Unit→Sd→Prop}
section
variable {E:QQX}
end
variable {P:Pg}{w:Wo}{K:m9}{mg:QQZ}{N:QQQ}{qual:Str}{scope:Scope}{f:Addr}{cd:Vl}{s0:Sd}{H0:Hp}
section
variable {E:XK}
end
section
variable {E:XK}
end
end L2
namespace L3
open L2
variable {X:Cx}{x:Str}{p pos np Ms:Pos}{e:Expr}{es:T0 Expr}{t:rX}{k:Nat}{f C:Addr}{fd:FuncData}{ps:QQQ}{sp:Sp3x}{R:XR}{E:XK}{P:Pg}{w:Wo}{K:m9}{mg:QQZ}{base:Heap}{N:QQQ}{qual:Str}{scope:Scope}{cd:Vl}{A:Ar}{outer:T0 Env}{s0:Sd}{H0:Hp}{ta:rX}
end L3
namespace L2
variable {X:Cx}{Mf:T0 (Addr × Obj)}{Y σ':St}{H H1:Hp}{s s1:Sd}{ev:Vl}{E':QQX}{a:Addr}{k:Nat}{f C:Addr}{fd:FuncData}{ps:QQQ}{sp:Sp}{Nq:T0 V}{ds:T0 Vl}{m:Str}{p pos Mj:Pos}{e o:Expr}{es:T0 Expr}{t:TA}
section
variable {x:Str}
end
variable {prog:Pg}{w:Wo}{A:Ar}{E:QQX}{K:m9}{ox:Obj}
section
variable {x:Addr}
end
end L2
namespace L3
open L2
variable {X:Cx}{x:Str}{p pos np Ms:Pos}{e:Expr}{es:T0 Expr}{t:rX}{k:Nat}{f C:Addr}{fd:FuncData}{ps:QQQ}{sp:Sp3x}{b₀:Stmt}{suite:T0 Stmt}{cn n:Str}{cnp Pa Mj xpos:Pos}{Cc L:Addr}{outer:T0 Env}{i ix:Nat}{te:T3X}{th:ua}
end L3
namespace L2
end L2
namespace L3
open L2
end L3
namespace L2
variable {prog:Pg}{w:Wo}{A:Ar}{s:Sd}{K:m9}{x C:Addr}{ox:Obj}{own:QXQ}{name:Str}{v:Vl}
section
variable {E:QQX}{cd:ClassData}
end
variable {nm q:Str}{bs bm bmB:T0 Vl}{hdct:Bool}{sn:QQQ}{sub:T0 Vl}{ab:Bool}{col:Option Bool}{dd:Option Addr}{k0 k1 k2 k3 k5:Option Vl}{B Bn newId nid initId inN:String}{bmN:T0 Vl}{h:Heap}{g:Array GenState}{d:Drawn}{t:Nat}{os:OsState}
section
variable {E:QQX}{N:Addr}
end
variable {M:Model}{env:Env}
section
variable {E:QQX}{N:Addr}
end
variable {X:Cx}{Mf:T0 (Addr × Obj)}{Y σ':St}{H H1:Hp}{s1:Sd}{a:Addr}
section
variable {f:Str}
end
variable {qual:Str}{scope:Scope}{outer:T0 Env}{s0:Sd}{H0:Hp}{P:Pg}{mg:QQZ}{base:Heap}
section
variable {N:QQQ}{f:Addr}{cd:Vl}{E:XK}
end
end L2
namespace L3
open L2
variable {P:Pg}{w:Wo}{K:m9}{mg:QQZ}{base:Heap}{N:QQQ}{qual:Str}{scope:Scope}{f:Addr}{cd:Vl}{A:Ar}{outer:T0 Env}{s0:Sd}{H0:Hp}{E:XK}{x:Str}{np Ms pos:Pos}{e:Expr}{C fI:Addr}{fdI:FuncData}{ps:QQQ}{fl:Str}{k:Nat}{R:XR}{ta:rX}{X:Cx}{b₀:Stmt}{suite:T0 Stmt}{cn:Str}{cnp Pa epos:Pos}{Cc L:Addr}{te:T3X}{th:ua}
end L3
namespace L2
end L2
namespace L3
open L2
variable {X:Cx}{pos Mj:Pos}{o e:Expr}{es:T0 Expr}{ta:T3}{t:rX}
structure FA where
 f:Addr
 d:FuncData
 p:QQQ
structure DG(K:m9)(st:Stmt)(py qual:Str)(ps:QQQ)(x:FA):Prop where
 pe:x.p=ps
 fn:IT K py qual st x.f x.d
 b:qW K x.d x.p []
 ty:W.isFn K (.ref x.f)=true
structure TG(K:m9)(mg:QQZ)(st:Stmt)(py:Str)(ps:QQQ)(x:FA):Prop extends DG K st py py ps x where
 mg:mg py=some (.ref x.f)
structure MG(K:m9)(C:Addr)(st:Stmt)(py qual:Str)(ps:QQQ)(x:FA):Prop extends DG K st py qual ps x where
 at_:W.findIn K (.ref C) py=some (some (.ref x.f))
structure CG(K:m9)(mg:QQZ)(nm:Str)(C:Addr):Prop extends Cls K C where
 mg:mg nm=some (.ref C)
def DG.kp{K:m9}{st:Stmt}{py qual:Str}{ps:QQQ}{x:FA}(h:DG K st py qual ps x):W.keepIn K (.ref x.f)=true:=h.fn.kp
def MG.l9{K:m9}{C:Addr}{st:Stmt}{py qual:Str}{ps:QQQ}{x:FA}(h:MG K C st py qual ps x):sW K C py x.f:=⟨h.at_,h.ty,h.toDG.kp⟩
def uT(K:m9)(C:Addr)(fs:QQQ):Prop:=∀f,fs.contains f=true->pV K C f
def pJ{K:m9}{C:Addr}:uT K C []:=λf h=>by simp at h
def mQ{K:m9}{C:Addr}{g:Str}{fs:QQQ}(h:W.findIn K (.ref C) g=some none)(r:uT K C fs):uT K C (g::fs):=λf q=>by
 rw[List.contains_cons,kI]at q;rcases q with q|q
 .rw[eq_of_beq q];exact h
 .exact r f q
abbrev Fq(P:Pg)(w:Wo)(K:m9)(mg:QQZ)(base:Heap)(k:Nat)(x:FA)(sp:pP):Prop:=GH P w K mg base k x.f x.d x.p sp
noncomputable def HD(N P:QQQ)(sc:Scope):Bool:=sc.kind==.function&&(!sc.isCoroutine&&(!sc.isGenerator&&(decide N.Nodup&&(decide (N.take P.length=P)&&((P.all λx=>sc.names.lookup x==some .local||sc.names.lookup x==some .cell)&&sc.names.all λy=>!(y.2==.free))))))
def L5{N P:QQQ}{sc:Scope}(h:HD N P sc=true):pX N P sc:=by
 unfold HD at h;simp only[cO,Bool.not_eq_true',fG,fv]at h;obtain⟨h1,h2,h3,h4,h5,h6,h7⟩:=h;refine⟨h1,h2,h3,h4,h5,λx hx=>?_,λy hy e=>?_⟩
 .have:=ck.mp h6 x hx
  simpa using this
 .have:=ck.mp h7 y hy;rw[e]at this;simp at this
variable {P:Pg}{w:Wo}{K:m9}{mg:QQZ}{base:Heap}
def Ls{x qual:Str}{st:Stmt}{fa:FA}{N ps:QQQ}{k:Nat}{sp:pP}(F:DG K st x qual ps fa)(S:pX N ps (ng st))(len:∀ds M Q,sp ds M Q->ds.length=ps.length) (MH:∀(Mv:Vl) (A:Ar) (outer:T0 Env) (s:Sd) (H:Hp) (E:XK),oO k (A.deeper (envOfC qual (ng st) s.heap.objs.size fa.f Mv))->
   ∃t,En (xY E4 P w K mg base N qual (ng st) fa.f Mv A outer s H E).mf (oK st) t/\∀ds M Q,sp ds M Q->t {nx:=λ_ M'=>∃Mw,nW Mw M'/\Q .lB Mw,rt:=λd M'=>∃Mw,nW Mw M'/\Q d Mw} (uj N ds) M):Fq P w K mg base (k+1) fa sp:=by
 unfold Fq;rw[F.pe];exact JN F.fn S len MH
variable {k n:Nat}{f C:Addr}{fa:FA}{st:Stmt}{qual:Str}{ps:QQQ}{sp:pP}{x m:Str}{p:Pos}
def mM(F:Fq X.prog X.w X.K X.mg X.base k fa sp)(hr:oO n X.A)(T:TG X.K X.mg st x ps fa)(ha:A3 X (e::es) t)(hn:k<=n:=by first|decide|lia)(hg:Gl X x:=by rfl)
  (ME:va x:=by decide) (he:xG X e es:=by rfl) (MA:yL X pos es:=by rfl):
  E3 X (.Call (.Name x p) (e::es) [] pos) (wM sp t):=F9 F (hr.mono hn) hg T.mg T.toDG.kp T.b ha ME he MA
def re(F:Fq X.prog X.w X.K X.mg X.base k fa sp)(hr:oO n X.A)(c:CG X.K X.mg x C)(i:Mk X.K C fa.f)(T:DG X.K st m qual ps fa)(ha:A3 X (e::es) t)(hn:k+1<=n:=by first|decide|lia)(hg:Gl X x:=by rfl)
  (ME:va x:=by decide) (he:xG X e es:=by rfl) (MA:yL X pos es:=by rfl):
  E3 X (.Call (.Name x p) (e::es) [] pos) (G8 C sp t):=Fm c.toCls i F (hr.mono hn) hg c.mg T.b ha ME he MA
def BG{pl:Sem Bool}(he:E3 X o ta)(c:Cls X.K C)(T:MG X.K C st m qual ps fa)(F:Fq X.prog X.w X.K X.mg X.base k fa sp)(hr:oO n X.A)(hn:k<=n:=by first|decide|lia)
  (ht:eval (.Call (.Attribute o m Mj) [] [] pos) X.env=(do
   let ov<-eval o X.env
   standAt Mj.atName
   let(f,first)<-holding [ov] (getMethod ov m pl)
   callWith pos f first (backTo pos (starEach [] X.env)) (backToKw pos (keywordEach [] X.env))):=by rfl):
  E3 X (.Call (.Attribute o m Mj) [] [] pos) (ER m (λD s=>D=C/\s=sp) ta vq):=
 rK (R:=λD s=>D=C/\s=sp) he (λD s ⟨e1,e2⟩=>by subst e1 e2;exact⟨c,_,_,_,T.l9,F,T.b⟩) (hr.mono hn) ht
def sZ{pl:Sem Bool}(cm:Dk X.K C m fa.f)(F:Fq X.prog X.w X.K X.mg X.base k fa sp)(hr:oO n X.A)(c:CG X.K X.mg x C)(T:DG X.K st m qual ps fa)(ha:A3 X (e::es) t)(hn:k<=n:=by first|decide|lia)(hg:Gl X x:=by rfl)
  (ME:va x:=by decide) (MT:xG X e es:=by rfl) (MA:yL X pos es:=by rfl)
  (ht:eval (.Call (.Attribute (.Name x p) m Mj) (e::es) [] pos) X.env=(do
   let ov<-eval (.Name x p) X.env
   standAt Mj.atName
   let(f,first)<-holding [ov] (getMethod ov m pl)
   callWith pos f first (backTo pos (starEach (e::es) X.env)) (backToKw pos (keywordEach [] X.env))):=by rfl):
  E3 X (.Call (.Attribute (.Name x p) m Mj) (e::es) [] pos) (wM sp t):=GG cm F (hr.mono hn) hg c.mg T.kp T.b ha ME MT MA ht
variable {h:Heap}{py:Str}{od an:Option Addr}{sl:Array (Option Vl)}{kv dc pm cd ct:Vl}
def BO{fd:FuncData}{oc:Vl}(l:K.lookup f=some ⟨oc,od,.func fd,sl⟩):W.keepIn K (.ref f)=true:=by unfold W.keepIn;simp only;rw[l]
def E7{fd:FuncData}(l:K.lookup f=some ⟨.type "function",od,.func fd,sl⟩):W.isFn K (.ref f)=true:=by unfold W.isFn W.typeIn;simp only;rw[l];rfl
abbrev AO(py qual:Str)(st:Stmt)(ps:QQQ):Prop:=∀(kV MX pm:Vl) (an:Option Addr) (Mv ct:Vl) (us:T0 Vl),us.length=ps.length->bindArgs (W.fnOf py qual (pE st) (oK st) (ng st) .none kV MX pm an Mv ct) ⟨us,[]⟩=pure (ps.zip us)
def G'(l:K.lookup f=some ⟨.type "function",od,.func (W.fnOf py qual (pE st) (oK st) (ng st) .none kv dc pm an cd ct),sl⟩)(k:W.codeIn K cd qual=true)(hb:AO py qual st ps):
  DG K st py qual ps ⟨f,W.fnOf py qual (pE st) (oK st) (ng st) .none kv dc pm an cd ct,ps⟩:=⟨rfl,DU l k (BO l),(DU l k (BO l)).binds hb,E7 l⟩
def oU(X:K.In h)(G:h.Ns mainGlobals mg)(a:W.nsIn K mainGlobals py=some (some (.ref f)))(l:K.lookup f=some ⟨.type "function",od,.func (W.fnOf py py (pE st) (oK st) (ng st) .none kv dc pm an cd ct),sl⟩)(k:W.codeIn K cd py=true)(hb:AO py py st ps):
  TG K mg st py ps ⟨f,W.fnOf py py (pE st) (oK st) (ng st) .none kv dc pm an cd ct,ps⟩:=⟨G' l k hb,W.mg_of X G a⟩
def oW(a:W.findIn K (.ref C) py=some (some (.ref f)))(l:K.lookup f=some ⟨.type "function",od,.func (W.fnOf py qual (pE st) (oK st) (ng st) .none kv dc pm an cd ct),sl⟩)(k:W.codeIn K cd qual=true)(hb:AO py qual st ps):
  MG K C st py qual ps ⟨f,W.fnOf py qual (pE st) (oK st) (ng st) .none kv dc pm an cd ct,ps⟩:=⟨G' l k hb,a⟩
def rL(X:K.In h)(G:h.Ns mainGlobals mg)(a:W.nsIn K mainGlobals py=some (some (.ref C)))(h1:W.plainGet K C Str.empty=true)(h2:W.hasDictIn K C=true)(h3:W.plainOver K C=true)(h4:W.findIn K (.ref C) "__setattr__"=some (some (.builtin "object.__setattr__"))):CG K mg py C:=⟨⟨h1,h2,h3,h4⟩,W.mg_of X G a⟩
def Fs{x:Str}{a:Addr}{es:T0 DictEntry}{ep:Nat}{T:T0 (Str×QQQ)}(h:mg x=some (.ref a))(s:(a==sysModules)=false)(l:K.lookup a=some ⟨.type "dict",none,.dict es.toArray ep,#[]⟩) (r:KTD.Rows (λ(ss:QQQ) v=>∃t,v=Value.ref t/\p9 K (λ_=>none) t (ss.map V.str)) es T):DT K mg x T:=⟨a,_,_,_,h,s,l,⟨rfl,rfl,rfl⟩,rfl,by simpa using r⟩
variable {a b:Expr}{tb:T3}
end L3
namespace L2
variable {prog:Pg}{w:Wo}{A:Ar}{E:QQX}{s:Sd}{K:m9}{x C:Addr}{ox od:Obj}{f:Str}{v:Vl}{X:Cx}{e:Expr}{pos:Pos}{ta:TE}
end L2
namespace L3
open L2
variable {X:Cx}{cn n x:Str}{e:Expr}{cnp Pa pos Mj xpos p1 p2 p3 p4:Pos}{Cc L:Addr}{outer:T0 Env}{i ix:Nat}{te:T3X}{fl:Str}
end L3
namespace L2
variable {prog:Pg}{w:Wo}{A:Ar}{E:QQX}{s:Sd}
end L2
namespace L3
open L2
variable {X:Cx}{pos:Pos}
def AK{K:m9}(h:X.K=K):C3 X (.builtin "isinstance") (DF K):=by subst h;exact wO
variable {cn n x:Str}{e:Expr}{cnp Pa Mj p1 p2 p4:Pos}{Cc L:Addr}{outer:T0 Env}{i ix:Nat}{te:T3X}{ta:T3}{fl f:Str}
end L3
namespace L2
section
variable {prog:Pg}{w:Wo}{A:Ar}{E:QQX}{s:Sd}{κ:Type}[DecidableEq κ]{knd:PySem.KeyKind prog w κ}
def LM(w:Wo)(t:SetTable)(l:T0 (Int×Vl)):Prop:=w.params.followText "set-order"=false->t.led=true/\(t.plain=true->∀e∈l,plainKind e.2=true)
def sR(knd:PySem.KeyKind prog w κ)(h:Heap)(a:Addr)(S:κ->Bool)(n:Nat):Prop:=∃o es ep t,h.get? a=some o/\o.ExactSet/\o.data=.set es ep t/\ElemsOf knd es.toList/\(∀k,S k=true↔∃e∈es.toList,knd.is k e.2=true)/\es.size<scanBound/\t.fits es.size=true/\es.size=n/\LM w t es.toList
def Gi(t:SetTable)(es:Array (Int×Vl))(h:Int)(x:Vl):(layNew t es h x).2.1.led=t.led/\((layNew t es h x).2.1.plain=true->t.plain=true):=by
 unfold layNew SetTable.put SetTable.orStandIn SetTable.standIn;split
 .dsimp only
  repeat' split
  all_goals exact⟨rfl,by simp⟩
 .simp
def Cg(t:SetTable)(es:Array (Int×Vl))(n:Nat):(relayAll t es n).2.1.led=t.led/\((relayAll t es n).2.1.plain=true->t.plain=true):=by
 unfold relayAll SetTable.relaid SetTable.laid SetTable.standIn;split
 .rename_i e;dsimp only;split
  .simp only[Option.bind_eq_bind,Option.bind_eq_some_iff,Option.pure_def,iq,Prod.mk.injEq]at e;obtain⟨_,_,rfl,_⟩:=e;exact⟨rfl,id⟩
  .simp
 .simp
def Dy{a:Addr}{o:Obj}{es MW:Array (Int×Vl)}{ep:Nat}{t t':SetTable}{Q:Unit->Sd->Prop}(ho:s.heap.get? a=some o)(hd:o.data=.set es ep t)(hb:MW.size<scanBound) (h:∀h',Heap.SameBut a s.heap h'->h'.get? a=some {o with data:=.set MW (ep+1) t'}->Q () {s with heap:=h'}):wpAny (model prog w) A (storeSet a MW t') Q E s:=
 wpAny_storeSet_of ho hd (h _ (dG ..) (by
  have:=di (Obj.putSet MW t') ho (by rw[putSet_of MW t' hd];rfl)
  rwa [putSet_of MW t' hd]at this)) (iu hb)
def Li{a:Addr}{S:κ->Bool}{n:Nat}{k:κ}{x:Vl}{Q:Bool->Sd->Prop}(Nv:knd.is k x=true)(hsc:x.scannable=true)(hS:sR knd s.heap a S n)(hroom:n+1<scanBound) (h:∀h',Heap.SameBut a s.heap h'->sR knd h' a (λk'=>S k'||decide (k'=k)) (if S k then n else n+1)->Q (!S k) {s with heap:=h'}):wpAny (model prog w) A (setAddHashed a x (knd.hash k)) Q E s:=by
 obtain⟨o,es,ep,t,ho,hex,hd,Pb,NA,hb,hf,hn,hl⟩:=hS;unfold setAddHashed setAddHashedIn;refine cB (bh (eK ho hd hf ?_));dsimp only;rw[byScan_of hsc hb Pb,bw rfl];unfold setAddByScan;refine bh (bh (dI (bh (wpAny_setScan_of Nv ho hd hf Pb ?_))));cases hr:List.findIdx? (λe=>knd.is k e.2) es.toList with
 | some j=>
  obtain⟨hj,hpj,_⟩:=List.findIdx?_eq_some_iff_getElem.mp hr;have hSk:S k=true:=(NA k).mpr ⟨es.toList[j],gB hj,hpj⟩;have:=h s.heap (gm a s.heap) ⟨o,es,ep,t,ho,hex,hd,Pb,λk'=>by
   rw[kI,fv,<-NA k'];exact⟨λz=>z.elim id λe=>e ▸ hSk,.inl⟩,hb,hf,by rw[hSk];exact hn,hl⟩
  rw[hSk]at this;exact bj (bj this)
 | none=>
  have hSk:S k=false:=dD.mpr λz=>by obtain⟨e,he,hp⟩:=(NA k).mp z;have:=List.findIdx?_eq_none_iff.mp hr e he;rw[hp]at this;exact Bool.noConfusion this
  have fin:∀h' MW OH t',Heap.SameBut a s.heap h'->h'.get? a=some {o with data:=.set MW OH t'}->MW.toList.Perm (es.toList++[(knd.hash k,x)])->t'.fits MW.size=true->t'.led=t.led->(t'.plain=true->t.plain=true/\plainKind x=true)->Q true {s with heap:=h'}:=by
   intro h' MW OH t' sb g p f l pl;have sz:MW.size=n+1:=by
    have:=p.length_eq
    simpa [hn]using this
   have:=h h' sb ⟨_,MW,OH,t',g,hex,rfl,(Pb.push Nv hsc).perm p,mem_push_iff Nv NA p,by lia,f,by rw[hSk];simpa using sz,λz=>⟨l.trans (hl z).1,λz2 e he=>?_⟩⟩
   .rw[hSk]at this;exact this
   .rcases bS.mp (p.mem_iff.mp he)with q|q
    .exact(hl z).2 (pl z2).1 e q
    .rw[bP]at q;subst q;exact(pl z2).2
  dsimp only;have MZ:=layNew_perm t es (knd.hash k) x;have NI:=layNew_fits t es (knd.hash k) x;obtain⟨Of,Om⟩:=Gi t es (knd.hash k) x;generalize layNew t es (knd.hash k) x=L at MZ NI Of Om ⊢;obtain⟨Oi,t1,dm,gv⟩:=L;dsimp only at MZ NI Of Om ⊢;rw[c7]at MZ;have gw:∀(b:Bool) {s₁:Sd} {Q':Unit->Sd->Prop},Q' () s₁->wpAny (model prog w) A (match b with|true=>rule "set.scan.the-table-gave-way"|false=>pure ()) Q' E s₁:=
   λb _ _ q=>by cases b<;>first|exact bj q|exact dI q
  refine bh (gw _ ?_);have sz1:Oi.size<scanBound:=by have:=MZ.length_eq;simp at this;lia
  have tt:∀b:Bool,(b=true->t1.plain=true->plainKind x=true)->∃t2:SetTable,(if b=true then t1 else{t1 with plain:=false})=t2/\t2.fits Oi.size=true/\t2.led=t.led/\(t2.plain=true->t.plain=true/\plainKind x=true):=by
   intro b hb2;refine⟨_,rfl,?_⟩;split
   .rename_i z;exact⟨NI,Of,λp=>⟨Om p,hb2 z p⟩⟩
   .exact⟨SetTable.fits_plain_off NI,Of,λp=>Bool.noConfusion p⟩
  rw[hashByValue_scannable 8 hsc];split
  all_goals
   rename_i z;refine bh (bj ?_)
   first|(obtain⟨t2,e2,f2,l2,p2⟩:=tt (plainKind x) λz _=>z;rw[e2])|(obtain⟨t2,e2,f2,l2,p2⟩:=tt true λ_ p=>absurd p z;rw[e2])
   refine bh (Dy ho hd sz1 λh1 NH g1=>?_);split
   .have rp:=relayAll_perm t2 Oi (SetTable.grown Oi.size);have rf:=relayAll_fits t2 Oi (SetTable.grown Oi.size);obtain⟨r1,r2⟩:=Cg t2 Oi (SetTable.grown Oi.size);generalize relayAll t2 Oi (SetTable.grown Oi.size)=L at rp rf r1 r2 ⊢;obtain⟨es3,t3,gv3⟩:=L;dsimp only at rp rf r1 r2 ⊢;refine bh (gw _ ?_);refine bh (Dy g1 rfl (by have:=rp.length_eq;simp at this;lia) λh2 Nf g2=>?_);exact bj (bj (fin _ _ _ _ (NH.trans Nf) g2 (rp.trans MZ) rf (r1.trans l2) λz=>p2 (r2 z)))
   .exact bj (bj (fin _ _ _ _ NH g1 MZ f2 l2 p2))
end
section
variable {prog:Pg}{w:Wo}{A:Ar}{E:QQX}{s:Sd}{κ:Type}[DecidableEq κ]{knd:PySem.KeyKind prog w κ}
def Au{h:Heap}{a:Addr}{S S':κ->Bool}{n n':Nat}(H:sR knd h a S n)(e:∀k,S k=S' k)(e2:n=n'):sR knd h a S' n':=by obtain rfl:S=S':=funext e;subst e2;exact H
def Aq{h:Heap}{a:Addr}{led:Bool}(hl:led=!w.params.followText "set-order")(ho:h.get? a=some {cls:=.type "set",dict:=none,data:=.set #[] 0 (.fresh 0 0 led)}):sR knd h a (λx=>decide (x∈nE (([]:List κ)))) 0:=
 ⟨_,#[],0,_,ho,⟨rfl,rfl,rfl⟩,rfl,λe he=>by simp at he,λk=>by simp[nE],by decide,by rfl,rfl,λz=>⟨by rw[z]at hl;exact hl,λ_ e he=>by simp at he⟩⟩
def D8(a:Vl){Q₁:QQX}(h:Q₁ (.ref s.heap.objs.size) {s with heap:=s.heap.push {cls:=.type "set",dict:=none,data:=.set #[] 0 (.fresh 0 0 (!w.params.followText "set-order"))}}):
  codeAny (model prog w) A (.call (.builtin "set.__new__") ⟨[.type "set",a],[]⟩) (wants Q₁ E) s:=by
 refine gN ?_;show wpAny _ A.in1 (checkBuiltinCall "set.__new__" ⟨[.type "set",a],[]⟩>>=λ_=>again (.builtin "set.__new__" ⟨[.type "set",a],[]⟩)) _ _ s;refine bh (kc (F.newCall_set_1 a) (bj ⟨dX kJ _,cN F.entry_set_new ?_⟩));rw[cK kJ _];unfold Builtin.«set.__new__» Builtin.Frozenset.newClass;have Ny:=sub_set_self;obtain⟨hp,g,d,tk,os⟩:=s
 wp_walk
 refine eR (bj ?_);simp only[newObj];exact bh (wpAny_alloc (bj (bj h)))
end
section
variable {prog:Pg}{w:Wo}{A:Ar}{E:QQX}{R:Result→Sd→Prop}{κ:Type}[DecidableEq κ][BEq κ][LawfulBEq κ]{knd:PySem.KeyKind prog w κ}
 {I:Addr} {fp wr:QXQ} {G:Array GenState->Array GenState->Prop} {P:Nat->Vl->Prop} {St:Nat->Sd->Prop}
def wQ{all:List κ}(W:WalksS prog w A.in1 I fp wr G all.length P St)(S:Addr)(hSf:S∉fp)(OZ:∀i v k,P i v->all[i]?=some k->knd.is k v=true/\v.scannable=true)(hb:all.length+1<scanBound):
  ∀(n i:Nat) (s:Sd),all.length - i=n->i<=all.length->St i s->sR knd s.heap S (λx=>decide (x∈nE (all.take i))) (nE (all.take i)).length->
   (∀s',Moved (S::wr) G s s'->sR knd s'.heap S (λx=>decide (x∈nE all)) (nE all).length->R (.ok (.ret .none)) s')->codeAny (model prog w) A (.builtin "set.update.loop" ⟨[.ref S,.ref I],[]⟩) R s:=by
 have hSw:S∉wr:=λh=>hSf (W.sub _ h);have up:∀b∈wr,b∈S::wr:=λb hb=>bK _ hb;have kept:∀{s s':Sd} {T:κ->Bool} {m:Nat},Moved wr G s s'->sR knd s.heap S T m->sR knd s'.heap S T m:=λhm ⟨o,es,ep,t,ho,Mn⟩=>⟨o,es,ep,t,hm.heap S _ hSw ho,Mn⟩;intro n;induction n with
 | zero=>
  intro i s h0 hi MT hS hR;obtain rfl:i=all.length:=by lia
  refine cN dt ?_;rw[cK cD _];rw[dq]at hS;exact bh (W.done s _ _ MT λs' hm=>bj (hR s' (hm.mono up) (kept hm hS)))
 | succ n ih=>
  intro i s h0 hi MT hS hR;have Mr:i<all.length:=by lia
  have MU:all[i]?=some all[i]:=bF Mr;refine cN dt ?_;rw[cK cD _];refine bh (W.item i s _ _ Mr MT λv s' hP NZ hm=>?_);obtain⟨k1,k2⟩:=OZ i v _ hP MU;have Nh:=kept hm hS;show wpAny _ A.in1 (holding [v] (setAdd S v)>>=_) _ _ s';refine bh (cB ?_);unfold setAdd;refine cB (bh (knd.pyHash k1 ?_));have O0:(nE (all.take i)).length+1<scanBound:=by have h1:=uW (all.take i);rw[cV]at h1;lia
  refine Li (knd:=knd) (s:={s' with toks:=s'.toks+1}) k1 k2 Nh O0 λh' O1 O2=>?_;have et:all.take (i+1)=all.take i++[all[i]]:=by rw[eJ,MU];rfl
  have hSi:sR knd h' S (λx=>decide (x∈nE (all.take (i+1)))) (nE (all.take (i+1))).length:=by
   refine Au O2 (λx=>?_) ?_
   .rw[et];by_cases Mh:all[i]∈nE (all.take i)
    .rw[qh,bw Mh];by_cases hx:x=all[i]
     .subst hx;simp[Mh]
     .simp[hx]
    .rw[qh,bq Mh];by_cases hx:x=all[i]
     .subst hx;simp
     .simp[hx]
   .rw[et,qh];by_cases Mh:all[i]∈nE (all.take i)
    .rw[bw Mh];simp[Mh]
    .rw[bq Mh];simp[Mh]
  refine bj ⟨dX cD _,ih (i+1) _ (by lia) Mr (W.frame _ s' _ _ NZ (dQ _) λb hb o e=>?_) hSi λOj N0 O4=>?_⟩
  .rw[O1.2 b (λz:b=S=>hSf (z ▸ hb))];exact e
  .refine hR Oj (kb W.gtrans ((hm.mono up).then_heap (dQ _) λb o hb e=>?_) N0) O4;rw[O1.2 b (λz:b=S=>hb (by rw[z];exact bG))];exact e
end
section
variable {prog:Pg}{w:Wo}{A:Ar}{E:QQX}{κ:Type}[DecidableEq κ][BEq κ][LawfulBEq κ]{knd:PySem.KeyKind prog w κ}{s:Sd}
set_option maxHeartbeats 4000000 in
def xl{l:Addr}{Mg:Array Vl}{all:List κ}{Q:QQX}(hh:A.handled=none)(hl:s.heap.IsList l Mg\/s.heap.IsTuple l Mg)(hn:Mg.size=all.length)(hi:∀(i:Nat) (v:Vl) (k:κ),Mg[i]?=some v->all[i]?=some k->knd.is k v=true/\v.scannable=true)(hb:all.length+1<scanBound) (h:∀(h':Heap) (tk:Nat),sR knd h' s.heap.objs.size (λx=>decide (x∈nE all)) (nE all).length->(∀b o,s.heap.get? b=some o->h'.get? b=some o)->Q (.ref s.heap.objs.size) {s with heap:=h',toks:=tk}):
  wpAny (model prog w) A (call (.type "set") [.ref l]) Q E s:=by
 obtain⟨c,tl,hmro⟩:=b9.mro;have OP:=b9.made;have Ny:=b9.sub;refine gK (gN ?_);show wpAny _ _ (callAny (.type "set") _) _ _ _;refine bj ⟨hU _ (by decide+kernel),cN io ?_⟩;rw[hV (gF "set" [.ref l] []) rfl];have h1:=b9.notType;have h2:=b9.canCreate;have hct:=iI (.ref l)
 repeat (any_goals(first|assumption|wp_step))
 have fresh:∀led:Bool,(s.heap.push {cls:=.type "set",dict:=none,data:=.set #[] 0 (.fresh 0 0 led)}).get? s.heap.objs.size=some {cls:=.type "set",dict:=none,data:=.set #[] 0 (.fresh 0 0 led)}:=λled=>bE _ rfl;refine dR (D8 (.ref l) (E:=E) (Q₁:=λobj s₁=>∃led:Bool,led=(!w.params.followText "set-order")/\obj=Value.ref s.heap.objs.size/\s₁={s with heap:=s.heap.push {cls:=.type "set",dict:=none,data:=.set #[] 0 (.fresh 0 0 led)}}) ⟨_,rfl,rfl,rfl⟩) λr s₁ hr=>?_;cases r with
 | error e=>exact hr
 | ok fl=>
  cases fl with
  | ret obj=>
   obtain⟨led,hld,rfl,rfl⟩:=hr;have hS:=fresh led;have hT:Shared.TypeIs {s with heap:=s.heap.push {cls:=.type "set",dict:=none,data:=.set #[] 0 (.fresh 0 0 led)}} (.ref s.heap.objs.size) "set":=⟨_,hS,rfl⟩;have hli:=b9.init.lookup;have hbi:=b9.init.bind (.ref s.heap.objs.size)
   repeat (any_goals(first|assumption|wp_step))
   refine dR (fH (R:=wants (λr s₂=>r=.none/\∃h' tk,s₂={s with heap:=h',toks:=tk}/\sR knd h' s.heap.objs.size (λx=>decide (x∈nE all)) (nE all).length/\(∀b o,s.heap.get? b=some o->h'.get? b=some o)) E) b9.init.plain iJ (iK hT ?_)) λr₂ s₂ N7=>?_
   .rcases hl with⟨ol,Ou,Ov,nl,Ow⟩|⟨ol,Ou,Ov,nl,Ow⟩
    all_goals
     obtain⟨ocls,NG,OQ,Nd⟩:=ol;simp only at Ov Ow;subst Ov;subst Ow;have Nm:=bp {cls:=.type "set",dict:=none,data:=.set #[] 0 (.fresh 0 0 led)} Ou;have hsls:=tL;have hslf:=rm;have htls:=sF;have htlf:=qS;have OR:(Value.type "list"==Value.type "dict")=false:=by decide
     have hnt:(Value.type "tuple"==Value.type "dict")=false:=by decide
     unfold Builtin.«set.__init__» noKeywords Builtin.Frozenset.updateFrom;generalize hPI:pyIter=PI
     wp_walk
     subst hPI
     first|refine fu ⟨_,Nm,rfl,nl,rfl⟩ ?_|refine fj ⟨_,Nm,rfl,nl,rfl⟩ ?_
     refine bh (gZ ?_);have lS:l<s.heap.objs.size:=bD Ou;have hh3:A.in1.in1.in1.handled=none:=by simp[hh]
     have lI:l≠(s.heap.push {cls:=.type "set",dict:=none,data:=.set #[] 0 (.fresh 0 0 led)}).objs.size:=by rw[b8];exact bH (cZ lS)
     first
     | refine wQ (hn ▸ (jn (prog:=prog) (w:=w) hh3 _ l lI Mg).toS) s.heap.objs.size ?hf (λi v k e1 e2=>hi i v k e1 e2) hb all.length 0 _ (by lia) (cu _) ⟨⟨_,bE _ rfl,rfl,rfl⟩,_,bp _ Nm,rfl,nl,rfl⟩ ?h0 ?hR
     | refine wQ (hn ▸ (lc (prog:=prog) (w:=w) hh3 _ l lI Mg).toS) s.heap.objs.size ?hf (λi v k e1 e2=>hi i v k e1 e2) hb all.length 0 _ (by lia) (cu _) ⟨⟨_,bE _ rfl,rfl,rfl⟩,_,bp _ Nm,rfl,nl,rfl⟩ ?h0 ?hR
     case hf=>rw[b8];simp only[br,bC,bX,cA];exact⟨bH (d9 _),cU lS⟩
     case h0=>exact Aq (by rw[hld]) (bp _ hS)
     case hR=>intro s' hm Nh;obtain⟨h',g',d',tk',OT⟩:=s';have eg:g'=s.gens:=hm.gens;have ed:d'=s.drawn:=hm.drawn;have eo:OT=s.os:=hm.os;subst eg;subst ed;subst eo;refine bj ?_;show wpAny _ _ (ret Value.none) _ _ _;refine bj ⟨rfl,h',tk',rfl,Nh,λb o e=>?_⟩;have hb:=bD e;refine hm.heap b o ?_ (bp _ (bp _ e));rw[b8];simp only[br,bC,bX,cA];exact⟨bH hb,bH (cZ hb)⟩
   .cases r₂ with
    | error e=>exact N7
    | ok fl₂=>
     cases fl₂ with
     | ret r=>
      obtain⟨rfl,h',tk,rfl,Nh,OX⟩:=N7
      repeat (any_goals(first|assumption|wp_step))
      exact h _ _ Nh OX
     | _=>exact N7.elim
  | _=>exact hr.elim
end
open Sem (wp)
namespace SI
def slot_next:Slot "set_iterator" "__next__" "set_iterator.__next__":=
 .of (owner:="set_iterator") (n:="__next__") (by rw[fS,eE];kernel_rfl) (by decide+kernel) (by decide+kernel) (by decide+kernel)
  (by first|exact .inl (by decide+kernel)|exact .inr (by decide+kernel)) (by rw[eQ];kernel_rfl)
def slot_iter:Slot "set_iterator" "__iter__" "set_iterator.__iter__":=
 .of (owner:="set_iterator") (n:="__iter__") (by rw[fS,eE];kernel_rfl) (by decide+kernel) (by decide+kernel) (by decide+kernel)
  (by first|exact .inl (by decide+kernel)|exact .inr (by decide+kernel)) (by rw[eQ];kernel_rfl)
def y6:Manifest.owners.lookup (String.ofList ['r','o','t','a','r','e','t','i','_','t','e','s'].reverse)=some Manifest.sig_set_iterator:=by kernel_rfl
def args_next(a:Vl):argsOk "set_iterator.__next__" ⟨[a],[]⟩:=by unfold argsOk;rw[signature?_of (id:="set_iterator.__next__") (n:=['_','_','t','x','e','n','_','_']) (o:=['r','o','t','a','r','e','t','i','_','t','e','s']) (by kernel_rfl) y6];kernel_rfl
def args_iter(a:Vl):argsOk "set_iterator.__iter__" ⟨[a],[]⟩:=by unfold argsOk;rw[signature?_of (id:="set_iterator.__iter__") (n:=['_','_','r','e','t','i','_','_']) (o:=['r','o','t','a','r','e','t','i','_','t','e','s']) (by kernel_rfl) y6];kernel_rfl
def entry_next:entryFor table "set_iterator.__next__"=some Builtin.«set_iterator.__next__»:=iH (by kernel_rfl)
def entry_set_iter:entryFor table "set.__iter__"=some Builtin.«frozenset.__iter__»:=entryFor_alias (id':="frozenset.__iter__") (by kernel_rfl) rfl (by decide+kernel) (by kernel_rfl)
def len_set:typeLookup (.type "set") "__len__"=pure (some (.builtin "set.__len__")):=by rw[fS,eE];kernel_rfl
end SI
theorem sY{α:Type}:∀(l:List α) (i:Nat) (h:i<l.length),(l[i]::l.eraseIdx i).Perm l
 | x::l,0,_=>.refl _
 | x::l,i+1,h=>(List.Perm.swap _ _ _).trans ((sY l i (fm h)).cons x)
theorem Bj{α:Type}(f:Nat->Nat):∀(n k:Nat) (l:List α) (out:Array α),l.length=n->(pickOrder.go f n k l out).toList.Perm (out.toList++l)
 | 0,_,l,out,h=>by obtain rfl:=dY.mp h;simp[pickOrder.go]
 | n+1,k,l,out,h=>by
  unfold pickOrder.go;have hp:0<l.length:=by lia
  have lt:=Nat.mod_lt (f k) hp;rw[bF lt];refine(Bj f n (k+1) _ _ (by rw[ik lt];lia)).trans ?_;rw[c7,cc];exact ji _ (sY _ _ lt)
def Ct{α:Type}(f:Nat->Nat)(xs:Array α):(pickOrder f xs).toList.Perm xs.toList:=by
 have:=Bj f xs.size 0 xs.toList #[] (by simp)
 simpa [pickOrder]using this
variable {it S:Addr}{es:Array (Int × Vl)}{ep:Nat}{t:SetTable}{vs:T0 Vl}{oS:Obj}
section
variable {prog:Pg}{w:Wo}{A:Ar}{E:QQX}{s:Sd}
def Ef{src:Source}{n:Nat}{Q:Nat->Sd->Prop}(hn:0<n)(h:∀i d,i<n->Q i {s with drawn:=d}):wpAny (model prog w) A (choose src n) Q E s:=λΓ p _=>by show wp _ _ (.choose src n .pure) _ _ p s;rw[Sem.wp_choose];exact⟨cU hn,h _ _ (Nat.mod_lt _ hn)⟩
theorem Bl{α:Type}:∀(n:Nat) (xs:List α) (s:Sd) (Q:List α->Sd->Prop),xs.length=n->(∀ys d,ys.Perm xs->Q ys {s with drawn:=d})->wpAny (model prog w) A (drawOrder n xs) Q E s
 | 0,[],s,Q,_,h=>bj (h [] s.drawn .nil)
 | n+1,x::xs,s,Q,hl,h=>by unfold drawOrder;refine bh (Ef (iM _) λi d hi=>?_);rw[bF hi];refine bh (Bl n _ _ _ (by rw[ik hi];lia) λys d p=>bj (h _ _ ((p.cons _).trans (sY _ _ hi))))
def qu{α:Type}{c:Prop}[Decidable c]{a b:Sem α}{Q:α->Sd->Prop}{M:Model}(h:¬c)(k:wpAny M A b Q E s):wpAny M A (if c then a else b) Q E s:=by rwa [bq h]
def vU{α:Type}{c:Prop}[Decidable c]{a b:Sem α}{Q:α->Sd->Prop}{M:Model}(h:c)(k:wpAny M A a Q E s):wpAny M A (if c then a else b) Q E s:=by rwa [bw h]
inductive BC(w:Wo)(S:Addr)(es:Array (Int×Vl))(ep:Nat)(t:SetTable)(vs:List Vl)(h:Heap):Nat->Vl->Prop
 | text (i sl:Nat):w.params.followText "set-order"=true->vs=(pickOrder (w.params.setOrder S ep) es).toList.map (·.2)->BC w S es ep t vs h i (.int sl 0)
 | one (i:Nat):w.params.followText "set-order"=false->t.led=true->es.size<=1->vs=es.toList.map (·.2)->BC w S es ep t vs h i (.int ((if i=0 then 0 else t.place.getD 0 0+1:Nat):Int) 0)
 | drawn (i:Nat) (tp:Addr) (ot:Obj) (c:Nat) (ord:List Nat):w.params.followText "set-order"=false->h.get? tp=some ot->ot.data=.seq (ord.map λ(j:Nat)=>rawInt j).toArray c->(∀j∈ord,j<es.size)->vs=ord.map (λj=>(es[j]?.getD (0,.none)).2)->BC w S es ep t vs h i (.ref tp)
def A2{sl g:Nat}{Q:Option (Vl×Nat)->Sd->Prop}(b:w.params.followText "set-order"=true)(hS:s.heap.get? S=some oS)(qj:oS.data=.set es ep t)(hf:t.fits es.size=true) (h:Q (((pickOrder (w.params.setOrder S ep) es)[g]?).map λe=>(e.2,sl)) s):wpAny (model prog w) A (setNext S sl g ep) Q E s:=by
 unfold setNext;refine bh (eK hS qj hf (bh (bh (eR (bj ?_)))));refine vU b (qu (by simp) (bh ?_));unfold setWalk;refine bh (eK hS qj hf (bh (bh (eR (bj ?_)))));exact vU b (bh (eR (bj (bj h))))
def EQ{sl g:Nat}{Q:Option (Vl×Nat)->Sd->Prop}(b:w.params.followText "set-order"=false)(l:t.led=true)(sz:es.size<=1)(hS:s.heap.get? S=some oS)(qj:oS.data=.set es ep t)(hf:t.fits es.size=true) (h:Q (match es[SetTable.below t.place sl]?,t.place[SetTable.below t.place sl]? with|some (_,x),some j=>some (x,j+1)|_,_=>none) s):wpAny (model prog w) A (setNext S sl g ep) Q E s:=by
 unfold setNext;refine bh (eK hS qj hf (bh (bh (eR (bj ?_)))));refine qu (by show ¬w.params.followText "set-order"=true;simp[b]) (qu (show ¬(!t.plain&&decide (es.size>1))=true by simp;lia) (bh (qu (show ¬(!t.led&&!es.isEmpty)=true by simp[l]) (bj (bj h)))))
def ED{j:Nat}{x:Vl}{Q:QQX}(hx:(es[j]?.map (·.2))=some x)(hS:s.heap.get? S=some oS)(qj:oS.data=.set es ep t)(hf:t.fits es.size=true)(h:Q x s):wpAny (model prog w) A (setNextDrawn S j ep) Q E s:=by obtain⟨⟨_,y⟩,e,rfl⟩:=eh.mp hx;unfold setNextDrawn;refine bh (eK hS qj hf (qu (by simp) ?_));rw[e];exact bj h
def CK{i:Nat}{o:Obj}{first v:Vl}{Q:Fin->Sd->Prop}(ho:s.heap.get? it=some o)(hd:o.data=.fields #[first,.int i 0,.ref S,.int es.size 0,.int ep 0])(hS:s.heap.get? S=some oS)(qj:oS.data=.set es ep t)(hf:t.fits es.size=true) (F:BC w S es ep t vs s.heap i first) (hv:vs[i]?=some v) (hn:vs.length=es.size) (h:∀h' MQ,Heap.SameBut it s.heap h'->(∃o',h'.get? it=some o'/\o'.cls=o.cls/\o'.data=.fields #[MQ,.int (i+1:Nat) 0,.ref S,.int es.size 0,.int ep 0])->BC w S es ep t vs s.heap (i+1) MQ->(∀a,MQ=.ref a->first=.ref a)->Q (.done (.ret v)) {s with heap:=h'}):
  wpAny (model prog w) A (Builtin.«set_iterator.__next__» ⟨[.ref it],[]⟩) Q E s:=by
 show wpAny _ _ (fieldsOf (.ref it)>>=_) _ _ s;refine bh (wpAny_fieldsOf ho hd ?_);show wpAny _ _ (setEntries S>>=_) _ _ s;refine bh (gW hS qj hf ?_);refine qu (by simp) ?_;have set1:∀(h1:Heap) (o1:Obj) (f1:Vl),Heap.SameBut it s.heap h1->h1.get? it=some o1->o1.cls=o.cls->o1.data=.fields #[f1,.int i 0,.ref S,.int es.size 0,.int ep 0]->BC w S es ep t vs s.heap (i+1) f1->(∀a,f1=.ref a->first=.ref a)->
   wpAny (model prog w) A (setField (.ref it) 1 (rawInt ((i:Int)+1))>>=λ_=>ret v) Q E {s with heap:=h1}:=by
  intro h1 o1 f1 sb e1 c1 d1 F1 F2;refine bh (fB e1 d1 (by simp) (bj (h _ f1 (sb.trans (dG ..)) ⟨_,di _ e1 (fC (dv d1 _)),(ip ..).trans c1,?_⟩ F1 F2)));rw[dv d1];simp[rawInt]
 have set0:∀(sl:Int),BC w S es ep t vs s.heap (i+1) (.int sl 0)->
   wpAny (model prog w) A (setField (.ref it) 0 (rawInt sl)>>=λ_=>setField (.ref it) 1 (rawInt ((i:Int)+1))>>=λ_=>ret v) Q E s:=by
  intro sl F1;refine bh (fB ho hd (by simp) (set1 _ _ (.int sl 0) (dG ..) (di _ ho (fC (dv hd _))) (ip ..) ?_ F1 λ_ z=>nomatch z));rw[dv hd];simp[rawInt]
 cases F with
 | text sl b e=>refine bh (A2 b hS qj hf ?_);subst e;rw[bM]at hv;obtain⟨p,e1,rfl⟩:=eh.mp hv;simp only[dS];rw[<-cw,e1];exact set0 sl (.text _ sl b rfl)
 | one b l sz e=>
  refine bh (EQ b l sz hS qj hf ?_);have i0:i=0:=by have:=(bL.mp hv).1;lia
  subst i0;have fs:t.place.size=es.size:=by simp only[SetTable.fits,cO,fG]at hf;exact hf.1
  subst e;have e1:es.size=1:=by have:=(bL.mp hv).1;lia
  obtain⟨x,rfl⟩:∃x,es=#[x]:=fD.mp e1;obtain⟨j,ej⟩:∃j,t.place=#[j]:=fD.mp (fs.trans e1);have bl:SetTable.below t.place (Int.toNat ((if (0:Nat)=0 then 0 else t.place.getD 0 0+1:Nat):Int))=0:=by rw[ej];simp[SetTable.below,SetTable.below.go]
  rw[bl,ej];simp at hv;subst hv;refine set0 ((j+1:Nat):Int) ?_;have:=BC.one (w:=w) (S:=S) (es:=#[x]) (ep:=ep) (t:=t) (h:=s.heap) 1 b l (by simp) rfl;rw[ej]at this
  simpa using this
 | drawn tp ot c ord b eo eot Mr e=>
  show wpAny _ _ (seqItems? (.ref tp)>>=_) _ _ s;refine bh (dB eo eot ?_);subst e;rw[bM]at hv;obtain⟨j,e1,rfl⟩:=eh.mp hv;have e2:(ord.map λ(j:Nat)=>rawInt j).toArray[(i:Int).toNat]?=some (.int j 0):=by simp[e1,rawInt]
  dsimp only;rw[e2];have lt:=Mr j (cJ e1);refine bh (ED (x:=(es[j]?.getD (0,.none)).2) ?_ hS qj hf (set1 _ _ _ (gm ..) ho rfl hd (.drawn _ tp ot c ord b eo eot Mr rfl) λ_ z=>z));rw[dS,eM lt];rfl
def Ew{o:Obj}{first:Vl}{Q:Fin->Sd->Prop}(hh:A.handled=none)(ho:s.heap.get? it=some o)(hd:o.data=.fields #[first,.int es.size 0,.ref S,.int es.size 0,.int ep 0])(hS:s.heap.get? S=some oS)(qj:oS.data=.set es ep t)(hf:t.fits es.size=true) (F:BC w S es ep t vs s.heap es.size first) (hn:vs.length=es.size) (h:∀h' e,Heap.ExtBut it s.heap h'->(∃o,h'.get? e=some o/\o.cls=.type "StopIteration")->E (.ref e) {s with heap:=h'}):
  wpAny (model prog w) A (Builtin.«set_iterator.__next__» ⟨[.ref it],[]⟩) Q E s:=by
 show wpAny _ _ (fieldsOf (.ref it)>>=_) _ _ s;refine bh (wpAny_fieldsOf ho hd ?_);show wpAny _ _ (setEntries S>>=_) _ _ s;refine bh (gW hS qj hf ?_);refine qu (by simp) ?_;have stop:∀(h1:Heap) (o1:Obj) (fs:Array Vl),Heap.SameBut it s.heap h1->h1.get? it=some o1->o1.data=.fields fs->2<fs.size->
   wpAny (model prog w) A (setField (.ref it) 2 .none>>=λ_=>newExc (.type "StopIteration") []>>=raiseNew (α:=Fin)) Q E {s with heap:=h1}:=by
  intro h1 o1 fs sb e1 d1 l1;refine bh (fB e1 d1 l1 ?_);refine bh ?_;simp only[newExc,newTuple];refine bh (cR ?_ (by size_fits));refine bh (m:=firstArgMember _ _) (kc (a:=Value.none) (by first|rfl|(simp only[firstArgMember];rfl)) ?_);refine cR ?_ (by size_fits);simp only[raiseNew];refine bh (wpAny_handled ?_);rw[hh];refine bh (bj (wpAny_throw ?_));exact h _ _ (((sb.trans (dG ..)).extBut.push _).push _) ⟨_,bE _ rfl,rfl⟩
 cases F with
 | text sl b e=>refine bh (A2 b hS qj hf ?_);subst e;simp only[dS];rw[<-cw,dh (by simp at hn ⊢;lia)];exact stop _ _ _ (gm ..) ho hd (by simp)
 | one b l sz e=>
  refine bh (EQ b l sz hS qj hf ?_);have fs:t.place.size=es.size:=by simp only[SetTable.fits,cO,fG]at hf;exact hf.1
  have e0:es[SetTable.below t.place (Int.toNat ((if es.size=0 then 0 else t.place.getD 0 0+1:Nat):Int))]?=none:=by
   rcases iN 0 es.size with z|z
   .obtain⟨x,rfl⟩:∃x,es=#[x]:=fD.mp (by lia);obtain⟨j,ej⟩:∃j,t.place=#[j]:=fD.mp fs;rw[ej];simp[SetTable.below,SetTable.below.go]
   .rw[jc];lia
  rw[e0];exact stop _ _ _ (gm ..) ho hd (by simp)
 | drawn tp ot c ord b eo eot Mr e=>
  show wpAny _ _ (seqItems? (.ref tp)>>=_) _ _ s;refine bh (dB eo eot ?_);have e2:(ord.map λ(j:Nat)=>rawInt j).toArray[(es.size:Int).toNat]?=none:=by subst e;rw[jc];simp at hn ⊢;lia
  dsimp only;rw[e2];refine bh (fB ho hd (by simp) (stop _ _ _ (dG ..) (di _ ho (fC (dv hd _))) (dv hd _) (by simp)))
end
namespace SI
def entry_iter:entryFor table "set_iterator.__iter__"=some Builtin.«dict_keyiterator.__iter__»:=entryFor_alias (id':="dict_keyiterator.__iter__") (by kernel_rfl) rfl (by decide+kernel) (by kernel_rfl)
end SI
variable {tp:Addr}
section
variable {prog:Pg}{w:Wo}{A:Ar}{E:QQX}{s:Sd}
def LK(w:Wo)(it S tp:Addr)(es:Array (Int×Vl))(ep:Nat)(t:SetTable)(vs:T0 Vl)(oS:Obj)(i:Nat)(s:Sd):Prop:=
 s.heap.get? S=some oS/\∃o first,s.heap.get? it=some o/\o.cls=.type "set_iterator"/\o.data=.fields #[first,.int i 0,.ref S,.int es.size 0,.int ep 0]/\BC w S es ep t vs s.heap i first/\∀a,first=.ref a->a=tp
def BC.keep{h h':Heap}{i:Nat}{first:Vl}(F:BC w S es ep t vs h i first)(k:∀a o,first=.ref a->h.get? a=some o->h'.get? a=some o):BC w S es ep t vs h' i first:=by
 cases F with
 | text sl b e=>exact .text _ sl b e
 | one b l sz e=>exact .one _ b l sz e
 | drawn tp ot c ord b eo eot Mr e=>exact .drawn _ tp ot c ord b (k _ _ rfl eo) eot Mr e
def B2(hh:A.handled=none)(hn:vs.length=es.size)(Np:it≠S)(hi2:it≠tp)(qj:oS.data=.set es ep t)(hf:t.fits es.size=true):WalksS prog w A it [it,S,tp] [it] Eq es.size (λi v=>vs[i]?=some v) (LK w it S tp es ep t vs oS) where
 sub:=λb hb=>by simp at hb;simp[hb]
 grefl:=λ_=>rfl
 gtrans:=λ_ _ _=>Eq.trans
 frame:=λi s h' tk ⟨a,o,first,e1,e2,e3,F,e4⟩ _ k=>⟨k S (by simp) _ a,o,first,k it (by simp) _ e1,e2,e3,F.keep λb o' eb e=>k b (by simp[e4 b eb]) _ e,e4⟩
 item:=λi s Q E hi ⟨a,o,first,e1,e2,e3,F,e4⟩ h=>by
  have T:s.TypeIs (.ref it) "set_iterator":=⟨o,e1,e2⟩;obtain⟨v,hv⟩:∃v,vs[i]?=some v:=⟨_,bF (by lia)⟩;unfold pyNext;refine bh (gz (cG (name:=Str.ofString "__next__") T SI.slot_next (cy SI.slot_next T SI.entry_next ?_ (SI.args_next _))));refine CK e1 e3 a qj hf F hv hn λh' MQ sb ⟨o',g1,g2,g3⟩ F' F2=>⟨v,rfl,bj (h v _ hv ⟨(sb.2 S (bR Np)).trans a,o',MQ,g1,g2.trans e2,g3,F'.keep λb ob eb e=>?_,?_⟩ ⟨λb o hb e=>?_,rfl,rfl,rfl,bB _⟩)⟩
  .exact(sb.2 b λz=>hi2 (z.symm.trans (e4 b (F2 b eb)))).trans e
  .exact λb eb=>e4 b (F2 b eb)
  .exact(sb.2 b (by simpa using hb)).trans e
 done:=λs Q E ⟨a,o,first,e1,e2,e3,F,e4⟩ h=>by have T:s.TypeIs (.ref it) "set_iterator":=⟨o,e1,e2⟩;unfold pyNext;refine bh (gz (cG (name:=Str.ofString "__next__") T SI.slot_next (cy SI.slot_next T SI.entry_next ?_ (SI.args_next _))));refine Ew (by exact hh) e1 e3 a qj hf F hn λh' e sb ⟨o',g1,g2⟩=>?_;refine bh (gC (T:="StopIteration") (b:=true) ⟨_,g1,g2⟩ isSubtype_stop ?_);exact bj (h _ ⟨λb o hb e=>sb b o (by simpa using hb) e,rfl,rfl,rfl,bB _⟩)
 self:=λi s Q E ⟨a,o,first,e1,e2,e3,F,e4⟩ h=>by have T:s.TypeIs (.ref it) "set_iterator":=⟨o,e1,e2⟩;refine jX T SI.slot_iter (cy SI.slot_iter T SI.entry_iter ?_ (SI.args_iter _));show wpAny _ _ (ret (.ref it)) _ _ s;exact bj ⟨_,rfl,"set_iterator",_,T,SI.slot_next.lookup,h⟩
def DP{Q:QQX}(hS:s.heap.get? S=some oS)(hc:oS.cls=.type "set")(qj:oS.data=.set es ep t)(hf:t.fits es.size=true)(hl:LM w t es.toList)(np:∀e∈es.toList,plainKind e.2=false)(hb:es.size<=sizeLine) (h:∀it tp vs s',LK w it S tp es ep t vs oS 0 s'->vs.Perm (es.toList.map (·.2))->it≠S->it≠tp->s.heap.objs.size<=it->(tp=S\/s.heap.objs.size<=tp)->(∀b o,s.heap.get? b=some o->s'.heap.get? b=some o)->s'.gens=s.gens->s'.os=s.os->s.toks<=s'.toks->Q (.ref it) s'):wpAny (model prog w) A (pyIter (.ref S)) Q E s:=by
 have T:s.TypeIs (.ref S) "set":=⟨oS,hS,hc⟩;have lS:=bD hS;refine jX T kK (cy kK T SI.entry_set_iter ?_ (F.args_set_iter_1 _));show wpAny _ _ (Builtin.Frozenset.sizeOf S>>=_) _ _ s;refine bh ?_;unfold Builtin.Frozenset.sizeOf;refine bh (gW hS qj hf (bj ?_));unfold setDrawn;refine bh (bh (eK hS qj hf (bh (bh (eR (bj (bj ?_)))))));have fin:∀(first:Vl) (s1:Sd) (tp:Addr) (vs:T0 Vl),(∀b o,s.heap.get? b=some o->s1.heap.get? b=some o)->s1.gens=s.gens->s1.os=s.os->s.toks<=s1.toks->BC w S es ep t vs s1.heap 0 first->(∀a,first=.ref a->a=tp)->tp<s1.heap.objs.size->(tp=S\/s.heap.objs.size<=tp)->s.heap.objs.size<=s1.heap.objs.size->vs.Perm (es.toList.map (·.2))->
   wpAny (model prog w) A.in1 (setEpoch S>>=λe=>newFields "set_iterator" [first,rawInt 0,.ref S,rawInt es.size,rawInt e]>>=λr=>ret r) (λfin s'=>∃v,fin=.done (.ret v)/\∃T' r,s'.TypeIs v T'/\typeLookup (.type T') "__next__"=pure (some r)/\Q v s') E s1:=by
  intro first s1 tp vs k g o l F e4 lt lt2 le p
  refine bh (wpAny_setEpoch_of (k S oS hS) qj hf (bh (cR (bj ⟨_,rfl,"set_iterator",_,⟨_,bE _ rfl,rfl⟩,SI.slot_next.lookup,?_⟩))));refine h _ tp vs _ ⟨bp _ (k S oS hS),_,first,bE _ rfl,rfl,by simp[rawInt],F.keep λ_ _ _ z=>bp _ z,e4⟩ p (cU (bO lS le)) (cU lt) le lt2 (λb o e=>bp _ (k b o e)) g o l
 rcases Bool.eq_false_or_eq_true (w.params.followText "set-order")with b|b
 .refine qu (by show ¬(!w.params.followText "set-order"&&_)=true;simp[b]) (bh (bj ?_));exact fin _ s S _ (λ_ _ e=>e) rfl rfl (bB _) (.text 0 0 b rfl) (λ_ z=>nomatch z) lS (.inl rfl) (bB _) ((Ct _ _).map _)
 .obtain⟨l1,l2⟩:=hl b;by_cases z:1<es.size
  .have pl:t.plain=false:=dD.mpr λz2=>by have m:es.toList[0]'(by simp;lia)∈es.toList:=gB _;have:=l2 z2 _ m;rw[np _ m]at this;exact Bool.noConfusion this
   refine vU (by show(!w.params.followText "set-order"&&(!t.plain&&decide (es.size>1)))=true;simp[b,pl,z]) ?_;refine bh (Bl es.size (List.range es.size) s _ (cS) λord d p=>?_);have lo:ord.length=es.size:=p.length_eq.trans cS;refine bh (jh ?_ (by rw[bi,lo];exact hb));refine fin _ _ s.heap.objs.size (ord.map λj=>(es[j]?.getD (0,.none)).2) (λ_ _ e=>bp _ e) rfl rfl (bB _) (.drawn 0 _ _ _ ord b (bE _ rfl) rfl (λj hj=>dA.mp (p.mem_iff.mp hj)) rfl) (λ_ z=>(Value.ref.inj z).symm) (by rw[b8];exact d9 _) (.inr (bB _)) (by rw[b8];exact dQ _) ((p.map _).trans (.of_eq ?_));refine iv λi=>?_;rw[bM,bM];rcases iN i es.size with q|q
   .rw[gU q,bF (show i<es.toList.length by simpa using q)];simp[eM q]
   .rw[dh (by simpa using q),dh (by simpa using q)];rfl
  .refine qu (by show ¬(!w.params.followText "set-order"&&(!t.plain&&decide (es.size>1)))=true;simp;intro _ _;lia) (bh (bj ?_));exact fin _ s S _ (λ_ _ e=>e) rfl rfl (bB _) (.one 0 b l1 (by lia) rfl) (λ_ z=>nomatch z) lS (.inl rfl) (bB _) (.refl _)
def ze{κ:Type}[DecidableEq κ]{knd:PySem.KeyKind prog w κ}{φ:κ->Bool}{n:Nat}{Q:T0 Vl->Sd->Prop}(hh:A.handled=none)(H:sR knd s.heap S φ n)(np:∀k v,knd.is k v=true->plainKind v=false) (h:∀vs s',(∀b o,s.heap.get? b=some o->s'.heap.get? b=some o)->s'.gens=s.gens->s'.os=s.os->s.toks<=s'.toks->s.heap.objs.size<=s'.heap.objs.size->vs.length=n->(∀v∈vs,∃k,knd.is k v=true/\φ k=true)->(∀k,φ k=true->∃v∈vs,knd.is k v=true)->Q vs s'):wpAny (model prog w) A (collect (.ref S)) Q E s:=by
 obtain⟨oS,es,ep,t,hS,hex,qj,Pb,NA,hb,hf,hn,hl⟩:=H;unfold collect;refine bh (gZ (cN F.entry_proto_collect ?_));rw[cK F.plain_proto_collect _];show wpAny _ A.in1 (newList []>>=λl=>again (.builtin "list.__iadd__" ⟨[l,.ref S],[]⟩)) _ _ s;refine bh (cR ?_);refine bj ⟨dX jY _,cN F.entry_list_iadd ?_⟩;rw[cK jY _];show wpAny _ A.in1 (Builtin.List.listExtendWith (.ref s.heap.objs.size) (.ref S) (.ref s.heap.objs.size)) _ _ _;have lS:=bD hS;have hS1:=bp {cls:=.type "list",data:=.seq ([]:T0 Vl).toArray} hS;have hL:(s.heap.push {cls:=.type "list",data:=.seq ([]:T0 Vl).toArray}).get? s.heap.objs.size=some {cls:=.type "list",data:=.seq ([]:T0 Vl).toArray}:=bE _ rfl;unfold Builtin.List.listExtendWith;refine bh (fA (T:="set") ⟨oS,hS1,hex.1⟩ ?_);have h1:Builtin.List.listSameRef (.ref s.heap.objs.size) (.ref S)=false:=by simp[Builtin.List.listSameRef,cU lS]
 have h2:(Value.type "set"==Value.type "list")=false:=by decide
 have h3:(Value.type "set"==Value.type "tuple")=false:=by decide
 simp only[h1,h2,h3,kU,fY,gY];refine bh (DP hS1 hex.1 qj hf hl (λe he=>by obtain⟨⟨k,hk,_⟩,_⟩:=Pb e he;exact np k _ hk) (iu hb) λit tp vs s1 st p i1 i2 i3 i4 k g o l=>?_);have hL1:=k _ _ hL;have O2:=k _ _ hS1;refine bh (cB ?_);unfold Builtin.List.listLengthHint;refine bh (gO (T:="set") ⟨oS,O2,hex.1⟩ SI.len_set ?_);have sp:splitId "set.__len__"=some ("set","__len__"):=by decide+kernel
 simp only[sp];refine bh (gC (T:="set") (b:=true) ⟨oS,O2,hex.1⟩ sub_set_self ?_);refine qu (by decide) (vU (by decide+kernel) (bh (fA (T:="set") ⟨oS,O2,hex.1⟩ (bj ?_))));refine vU (by decide+kernel) (bh (dI (bh ?_)));show wpAny _ A.in1 (updateSeq s.heap.objs.size (·.push .none)>>=λ_=>updateSeq s.heap.objs.size (·.pop)) _ _ _;refine bh (wpAny_updateSeq hL1 rfl ?_);have hL2:=di (Obj.mapSeq (·.push Value.none)) hL1 rfl;refine wpAny_updateSeq hL2 rfl ?_;have hL3:=di (Obj.mapSeq (·.pop)) hL2 rfl;have ni:s.heap.objs.size≠it:=λz=>by rw[b8]at i3;lia
 have oth:∀b o,b≠s.heap.objs.size->s1.heap.get? b=some o->((s1.heap.update s.heap.objs.size (Obj.mapSeq (·.push Value.none))).update s.heap.objs.size (Obj.mapSeq (·.pop))).get? b=some o:=
  λb o hb e=>(gq _ _ (bR hb)).trans ((gq _ _ (bR hb)).trans e)
 have nf:s.heap.objs.size∉[it,S,tp]:=by
  have i5:tp=S\/s.heap.objs.size+1<=tp:=by rw[b8]at i4;exact i4
  simp only[br,bC,bX,cA];exact⟨ni,cU lS,λz=>i5.elim (λq=>cU lS (z.trans q)) λq=>Nat.not_succ_le_self _ (z ▸ q)⟩
 have lv:vs.length=es.size:=by rw[p.length_eq];simp
 have W:=B2 (prog:=prog) (A:=A.in1) (by exact hh) lv i1 i2 qj hf (w:=w) (ep:=ep) (oS:=oS);refine bj ⟨dX F.plain_extend_loop _,codeAny_extend_loopS (W:=W) (iu hb) _ nf _ es.size 0 _ _ _ rfl (cu _) (W.frame 0 s1 _ s1.toks st (bB _) λb hb o e=>oth b o (λz=>nf (z ▸ hb)) e) hL3 (ItemsOf.nil _) λs' acc c hm Nh NW=>?_⟩;show wpAny _ A (load s.heap.objs.size>>=_) _ _ s';refine bh (wpAny_load Nh (bj ?_));have ev:acc.toList=vs:=iv λi=>by
  rcases iN i es.size with q|q
  .obtain⟨v,e⟩:∃v,acc[i]?=some v:=⟨_,eM (by rw[NW.1];exact q)⟩;rw[cw,e,NW.2 i v e]
  .rw[dh (by simp[NW.1];exact q),dh (by lia)]
 rw[ev];refine h vs s' (λb o e=>hm.heap b o ?_ (oth b o (bH (bD e)) (k b o (bp _ e)))) (hm.gens.symm.trans g) (hm.os.trans o) (bQ l hm.toks) ?_ (lv.trans hn) (λv hv=>?_) λk' hk=>?_
 .have:=bD e;rw[b8]at i3;simp only[br,bC,bX,cA];exact⟨bH this,bH (bO this (Nat.le_of_succ_le i3))⟩
 .exact fT (bD Nh)
 .obtain⟨e,he,rfl⟩:=bI.mp (p.mem_iff.mp hv);obtain⟨⟨k',hk,_⟩,_⟩:=Pb e he;exact⟨k',hk,(NA k').mpr ⟨e,he,hk⟩⟩
 .obtain⟨e,he,q⟩:=(NA k').mp hk;exact⟨e.2,p.mem_iff.mpr (jA he),q⟩
end
def Bo{κ:Type}[DecidableEq κ]:∀l:List κ,(nE l).Nodup:=by
 have go:∀(l acc:List κ),acc.Nodup->(l.foldl (λacc k=>if k∈acc then acc else acc++[k]) acc).Nodup:=by
  intro l;induction l with
  | nil=>exact λ_ h=>h
  | cons x l ih=>
   intro acc h;refine ih _ ?_;show(if x∈acc then acc else acc++[x]).Nodup;split
   .exact h
   .rename_i z;exact cC.mpr ⟨h,by simp,λa ha b hb=>by rw[bP]at hb;subst hb;exact λe=>z (e ▸ ha)⟩
 exact λl=>go l [] df
theorem ut{κ:Type}[DecidableEq κ]:∀(l ms:List κ),l.Nodup->(∀x∈l,x∈ms)->ms.length<=l.length->ms.Perm l
 | [],ms,_,_,h=>by obtain rfl:=dY.mp (Nat.le_zero.mp h);exact .nil
 | x::l,ms,nd,sub,h=>by
  have hx:=sub x bG;have p:=jq hx;obtain⟨n1,n2⟩:=cp.mp nd;refine p.trans ((ut l _ n2 (λy hy=>?_) ?_).cons x)
  .exact(jr (λe:y=x=>n1 (e ▸ hy))).mpr (sub y (bK _ hy))
  .have:=p.length_eq;simp at this h;lia
section
variable {prog:Pg}{w:Wo}{A:Ar}{E:QQX}{s:Sd}
def Ax{all:QQQ}{Q:QQX}(hh:A.handled=none)(H:sR (PySem.strKind prog w) s.heap S (λx=>decide (x∈nE all)) (nE all).length)(h64:all.length<64) (h:∀l vs' (ms:QQQ) s' e,s.heap.objs.size<=l->(∀b o,s.heap.get? b=some o->s'.heap.get? b=some o)->s'.gens=s.gens->s'.os=s.os->s.toks<=s'.toks->s'.heap.get? l=some (seqObj "list" vs'.toArray e)->StrsAre vs' ms->ms.Perm (nE all)->sortedS ms=true->Q (.ref l) s'):
  wpAny (model prog w) A (call (.builtin "sorted") [.ref S]) Q E s:=by
 refine iA kind_sorted plain_sorted entry_sorted (args_sorted1 _) ?_;unfold Builtin.«sorted»;refine bh (m:=checkCount "sorted" 1 1 _) (bj ?_);refine bh (ze (by exact hh) H ?_ λvs s1 k g o l lz ln h1 h2=>?_)
 .intro k v hk;cases v<;>first|rfl|(simp[PySem.strKind,Value.isStrOf]at hk)
 have hs:∀v∈vs,∃x t,v=.str x t:=λv hv=>by obtain⟨x,hx,_⟩:=h1 v hv;cases v<;>first|exact⟨_,_,rfl⟩|(simp[PySem.strKind,Value.isStrOf]at hx)
 have hS:=strsAre_map vs hs;have l64:vs.length<64:=by have:=uW all;lia
 refine bh (jw ?_);have OJ:(s1.heap.push (seqObj "list" vs.toArray 0)).get? s1.heap.objs.size=some (seqObj "list" vs.toArray 0):=bE _ rfl;refine bh (cB (cy slot_list_sort ⟨_,OJ,rfl⟩ entry_list_sort (list_sort_treeK strKind_oneLt OJ hS.keysOf (λv₁ v₂ Mn e=>keyKind_strs (by rw[<-e];exact hS)) l64 λMi a1 a2=>⟨_,rfl,?_⟩) (args_list_sort _)));obtain⟨ms,b1,b2,b3⟩:=sorted_out_str hS a1 a2;obtain⟨e,he⟩:=sortedHeap_at (h:=s1.heap.push (seqObj "list" vs.toArray 0)) (out:=(arrOf Mi).map (·.2)) OJ;refine bj ⟨_,rfl,h _ ((arrOf Mi).map (·.2)).toList ms _ e lz (λb o z=>?_) g o l he b1 ?_ b3⟩
 .have z1:=k b o z;have z2:=bD z1;rw[sortedHeap_old (bH z2) (by rw[kL];exact cZ z2)];exact bp _ z1
 .refine b2.trans (ut _ _ (Bo all) (λx hx=>?_) (by rw[bi,ln];exact bB _));obtain⟨v,hv,hk⟩:=h2 x (by simpa using hx);refine bI.mpr ⟨v,hv,?_⟩;obtain⟨y,t,rfl⟩:=hs v hv;simp[PySem.strKind,Value.isStrOf]at hk;exact hk
end
variable {X:Cx}{Mf:T0 (Addr × Obj)}{Y:St}{H:Hp}{e:Expr}{te:TE}
section
variable {s:Sd}
def Inv.dr{d:Drawn}(I:Inv X Mf Y H s):Inv X Mf Y H {s with drawn:=d}:=⟨I.ok,I.os,I.bare,I.base,I.loc,I.cell,I.free,I.lK,I.pin,I.lC,I.len⟩
def Fd(K:m9)(te:TE):TE:=λY H Q=>te Y H λx H1=>∃a,∃ss:QQQ,x=.ref a/\(rA K H1 a (ss.map V.str)\/p9 K H1 a (ss.map V.str))/\ss.length<64/\∀l (ms:QQQ),H1 l=none->ms.Perm (nE ss)->sortedS ms=true->Q (.ref l) (upd H1 l (.lst (ms.map V.str)))
def Et{P:Pg}{w:Wo}{ss:QQQ}{us:T0 Vl}(r:nv (ss.map V.str) us):us.length=ss.length/\∀(i:Nat) (v:Vl) (k:Str),us[i]?=some v->ss[i]?=some k->(PySem.strKind P w).is k v=true/\v.scannable=true:=by refine⟨by rw[<-r.length,bi],λi v k e1 e2=>?_⟩;obtain⟨u,e3,t,rfl⟩:=r.get (i:=i) (x:=V.str k) (by rw[bM,e2];rfl);rw[e1]at e3;cases e3;exact⟨kM P w k t,rfl⟩
theorem wC:∀{ss:QQQ} {its:T0 Vl},StrsAre its ss->nv (ss.map V.str) its
 | _,_,.nil=>.nil
 | _,_,.cons _ t h=>.cons ⟨t,rfl⟩ (wC h)
def B4{p p2 pos MO:Pos}(hc:X.calm=true)(he:PE X e te)(O5:Gl X "sorted")(Mh:X.mg "sorted"=none)(NN:Gl X "set")(Mz:X.mg "set"=none)(b1:bootBuiltins "sorted"=some (.builtin "sorted"))(b2:bootBuiltins "set"=some (.type "set")) (hs:starEach [e] X.env=[(false,eval e X.env)]:=by rfl):PE X (.Call (.Name "sorted" p) [.Call (.Name "set" p2) [e] [] MO] [] pos) (Fd X.K te):=by
 intro Mf s Y H Q I h;refine dn (qo I O5 Mh b1 ?_);refine fi ?_ rfl rfl;show wpAny _ _ (spliced ((false,eval (.Call (.Name "set" p2) [e] [] MO) X.env)::backTo pos (starEach [] X.env))) _ _ s;refine fh ?_;refine dn (qo I NN Mz b2 ?_);refine cQ ?_ hs rfl;rw[hs];show wpAny _ _ (spliced ((false,eval e X.env)::backTo MO (starEach [] X.env))) _ _ s;refine fh (pB (he Mf s Y H _ I h) λu s1 ⟨x,H1,I1,r1,a,ss,ex,hq,hb,q⟩=>ft ?_);subst ex;obtain rfl:u=Value.ref a:=r1;have fin:∀(h':Heap) (tk:Nat),sR (PySem.strKind X.prog X.w) h' s1.heap.objs.size (λx=>decide (x∈nE ss)) (nE ss).length->(∀b o,s1.heap.get? b=some o->h'.get? b=some o)->
   wpAny (model X.prog X.w) X.A (spliced (backTo pos (starEach [] X.env))) (λvs s₁=>wpAny (model X.prog X.w) X.A (call (.builtin "sorted") (.ref s1.heap.objs.size::vs)) (EP X Mf Y Q) X.xe s₁) X.xe {s1 with heap:=h',toks:=tk}:=λh' tk hS keep=>by
  refine ft ?_;refine Ax (I1.ok.hd hc) hS hb λl vs' ms s' e hl k g o _ he hv hp hsr=>?_;obtain⟨h2,g2,d2,t2,o2⟩:=s';cases g;cases o;have I2:=(I1.kept (t':=tk) keep).dr (d:=d2);refine⟨.ref l,_,I2.laid (t':=t2) (a:=l) k hl (show oo X.prog X.w _ _ _ (.lst (ms.map V.str))from⟨?_,vs',e,wC hv,he⟩),rfl,q l ms (I2.lC.fresh hl) hp hsr⟩;rw[bi,hp.length_eq];have:=uW ss;have:=cb;lia
 have Nr:ss.length+1<scanBound:=by have:scanBound=4096:=rfl;lia
 rcases hq with hq|hq
 .obtain⟨its,r,pl,hz⟩:=I1.list hq;obtain⟨k1,k2⟩:=Et (P:=X.prog) (w:=X.w) r;exact L2.xl (knd:=PySem.strKind X.prog X.w) (all:=ss) (I1.ok.hd hc) (.inl pl.isList) (by rw[bA,k1]) (λi v k e1 e2=>k2 i v k (by simpa using e1) e2) Nr fin
 .obtain⟨its,r,pl,hz⟩:=I1.tuple hq;obtain⟨k1,k2⟩:=Et (P:=X.prog) (w:=X.w) r;exact L2.xl (knd:=PySem.strKind X.prog X.w) (all:=ss) (I1.ok.hd hc) (.inr pl) (by rw[bA,k1]) (λi v k e1 e2=>k2 i v k (by simpa using e1) e2) Nr fin
end
end L2
namespace L3
open L2
variable {X:Cx}{e:Expr}{ta:T3}
theorem xj{K:m9}{H:Hp}:∀ns:QQQ,mS K H (ns.map D.str) (ns.map V.str)
 | []=>.nil
 | _::ns=>.cons .str (xj ns)
def JC(ta:T3):T3:=λU M Q=>ta U M λx M1=>(Ab M1 x).elim False λes=>(um es).elim False λss=>ss.length<64/\∀p (ms:QQQ),M1 p=none->ms.Perm (nE ss)->sortedS ms=true->Q (.ref p) (mL M1 p (.lst (ms.map D.str)))
def CO{p p2 pos MO:Pos}(hc:X.calm=true)(he:E3 X e ta)(O5:Gl X "sorted")(Mh:X.mg "sorted"=none)(NN:Gl X "set")(Mz:X.mg "set"=none)(b1:bootBuiltins "sorted"=some (.builtin "sorted"))(b2:bootBuiltins "set"=some (.type "set")) (hs:starEach [e] X.env=[(false,eval e X.env)]:=by rfl):E3 X (.Call (.Name "sorted" p) [.Call (.Name "set" p2) [e] [] MO] [] pos) (JC ta):=
 PE.mono (B4 hc he O5 Mh NN Mz b1 b2 hs) λY H Q' zz=>x7 zz λU M Q hs hm ht k=>⟨U,M,_,hs,hm,ht,λv H1 d M1 hd Mh e1 q1=>by
  obtain⟨es,e2,q1⟩:=nH q1;obtain⟨ss,e3,hz,q1⟩:=nH q1;obtain⟨a,xs,rfl,h1,h2⟩:=u6 Mh hd e2;rw[wc e3 h2]at h1;exact⟨a,ss,rfl,h1,hz,λl ms hl p1 p2=>k _ _ _ _ .ref (Mh.new (c:=.lst (ms.map D.str)) hl ⟨_,m7,xj ms⟩) (e1.trans (.new hl)) (q1 l ms (Mh.fresh hl) p1 p2)⟩⟩
end L3
namespace L2
def sD(x y:Str):Bool:=decide (x.cps.toList<y.cps.toList)
def su:QQQ->QQQ->Bool
 | _,[]=>false
 | [],_::_=>true
 | x::xs,y::ys=>if x=y then su xs ys else sD x y
def C6{x y:Str}(h:sD x y=true):sD y x=false:=by simp only[sD,fv,gk]at *;exact kh.mpr (List.le_of_lt h)
def yG{x y:Str}(h:x≠y):sD x y=true\/sD y x=true:=by simp only[sD,fv];refine Classical.byContradiction λz=>h ?_;have z1:=kh.mp λq=>z (.inl q);have z2:=kh.mp λq=>z (.inr q);have:=List.le_antisymm z2 z1;cases x;cases y;simp at this;rw[this]
def xu(x:Str):sD x x=false:=by simp only[sD,gk];exact List.lt_irrefl _
def HA{x y z:Str}(h1:sD x y=true)(h2:sD y z=true):sD x z=true:=by simp only[sD,fv]at *;exact List.lt_trans h1 h2
theorem Ek:∀{a b:QQQ},su a b=true->su b a=false
 | _,[],h=>by simp[su]at h
 | [],_::_,_=>rfl
 | x::xs,y::ys,h=>by
  simp only[su]at *;by_cases e:x=y
  .rw[bw e]at h;rw[bw e.symm];exact Ek h
  .rw[bq e]at h;rw[bq (bR e)];exact C6 h
theorem EL:∀{a b c:QQQ},su b a=false->su c b=false->su c a=false
 | [],_,_,_,_=>by simp[su]
 | a::as,[],c,h1,_=>by simp[su]at h1
 | a::as,b::bs,[],_,h2=>by simp[su]at h2
 | a::as,b::bs,c::cs,h1,h2=>by
  simp only[su]at *;by_cases e1:b=a
  .subst e1;rw[bw rfl]at h1;by_cases e2:c=b
   .subst e2;rw[bw rfl]at *;exact EL h1 h2
   .rw[bq e2]at *;exact h2
  .rw[bq e1]at h1;have Nz:=(yG e1).resolve_left (by rw[h1];exact bN);by_cases e2:c=b
   .subst e2;rw[bq e1];exact h1
   .rw[bq e2]at h2;have h2':=(yG e2).resolve_left (by rw[h2];exact bN);have h3:=HA Nz h2';by_cases e3:c=a
    .subst e3;rw[xu]at h3;exact Bool.noConfusion h3
    .rw[bq e3];exact C6 h3
variable {prog:Pg}{w:Wo}{A:Ar}{E:QQX}{s:Sd}{R:Result→Sd→Prop}
def xX:entryFor table "list.__eq__.loop"=some Builtin.«list.__eq__.loop»:=iH (by kernel_rfl)
def ra:plainId "list.__eq__.loop"=true:=by decide+kernel
theorem xK:∀{vs:T0 Vl} {ss:QQQ},StrsAre vs ss->∀i:Nat,vs[i]?=none/\ss[i]?=none\/∃x t,vs[i]?=some (.str x t)/\ss[i]?=some x
 | _,_,.nil,i=>.inl ⟨by simp,by simp⟩
 | _,_,.cons x t h,0=>.inr ⟨x,t,by simp,by simp⟩
 | _,_,.cons x t h,i+1=>by simpa using xK h i
def Fl{a b:Addr}{vs us:T0 Vl}{xs ys:QQQ}(ha:s.heap.IsList a vs.toArray)(hb:s.heap.IsList b us.toArray)(hx:StrsAre vs xs)(hy:StrsAre us ys):∀(n i:Nat),xs.length - i<n->i<=xs.length->R (.ok (.ret (.bool (su (xs.drop i) (ys.drop i))))) s->
  codeAny (model prog w) A (.builtin "list.__eq__.loop" ⟨[.ref a,.ref b,rawInt i,rawInt 0],[]⟩) R s:=by
 have lx:=hx.length;have ly:=hy.length;obtain⟨oa,ha,_,na,da⟩:=ha;obtain⟨ob,hb,_,nb,db⟩:=hb;intro n;induction n with
 | zero=>exact λi h=>absurd h (i6 _)
 | succ n ih=>
  intro i hi hi2 h;refine cN xX ?_;rw[cK ra _];show wpAny _ A.in1 (Builtin.List.listItems (.ref a)>>=_) _ _ s;refine bh (eC ha da (bh (eC hb db ?_)));simp only[dS,gG];have fin:(xs[i]?=none\/ys[i]?=none)->wpAny (model prog w) A.in1 (do ret (.bool (decide (vs.toArray.size<us.toArray.size)))) (λfin s'=>match fin with|Fin.done f=>R (.ok f) s'|Fin.again c'=>c'.quiet=true/\codeAny (model prog w) A c' R s') (λe s'=>R (.error e) s') s:=by
   intro z;refine bj ?_;show R _ s;have:decide (vs.toArray.size<us.toArray.size)=su (xs.drop i) (ys.drop i):=by
    rw[bA,bA,lx,ly];rcases z with z|z
    .have z:=iB.mp z;rw[gu z];have:i=xs.length:=by lia
     rcases iN xs.length ys.length with q|q
     .rw[dg (by lia:i<ys.length)];simp[su,q]
     .rw[gu (by lia)];simp[su];exact q
    .have z:=iB.mp z;rw[gu z];simp only[su,gk];lia
   rw[this];exact h
  rcases xK hx i with⟨e1,e2⟩|⟨x,t,e1,e2⟩
  .rw[e1];exact bh (eC ha da (bh (eC hb db (fin (.inl e2)))))
  rcases xK hy i with⟨e3,e4⟩|⟨y,u,e3,e4⟩
  .rw[e1,e3];exact bh (eC ha da (bh (eC hb db (fin (.inr e4)))))
  rw[e1,e3];obtain⟨q1,e5⟩:=bL.mp e2;obtain⟨q2,e6⟩:=bL.mp e4;rw[dg q1,dg q2,e5,e6,su]at h;refine bh ((PySem.strKind prog w).eqBool (a:=x) (b:=y) (kM prog w x t) (kM prog w y u) ?_);by_cases e:x=y
  .rw[bw e]at h;refine vU (by simpa using e) (bj ⟨dX ra _,?_⟩);exact ih (i+1) (by lia) (by lia) h
  .rw[bq e]at h;refine qu (by simpa using e) ?_;refine bh (eC ha da (bh (eC hb db ?_)));simp only[gG];rw[e1,e3];exact bh (jd (T:="str") (id:="str.__lt__") (gj s x t) (gj s y u) slot_str_lt (call_str_lt ⟨by simp,bj h⟩))
def AB{a b:Addr}{vs us:T0 Vl}{xs ys:QQQ}{Q:Bool->Sd->Prop}(hu:A.units<cLine)(ha:s.heap.IsList a vs.toArray)(hb:s.heap.IsList b us.toArray)(hx:StrsAre vs xs)(hy:StrsAre us ys)(h:Q (su xs ys) s):wpAny (model prog w) A (oneLt' true (.ref a) (.ref b)) Q E s:=by rw[oneLt'_eq];simp only[gi];refine bh (wpAny_cRoomFor hu ?_);have Ta:s.TypeIs (.ref a) "list":=ha.typeIs;have Tb:s.TypeIs (.ref b) "list":=hb.typeIs;refine bh (wpAny_callSpecialIfBound?_slot Ta jj (gK (fH jj.plain F.entry_list_lt (jj.check _ _ _ _ _ _ _ _ Ta (F.args_list_lt_2 _ _) ?_))));show wpAny _ _ (isInstance (.ref b) (.type "list")>>=_) _ _ s;refine bh (gC (T:="list") (b:=true) Tb (by rw[eQ];kernel_rfl) ?_);refine qu (by decide) (qu (by decide) (bj ⟨dX ra _,?_⟩));refine Fl ha hb hx hy (xs.length+1) 0 (by lia) (cu _) ?_;exact cY h
end L2
namespace Srt
open PySem PyProof.Rows
structure Ord(lt:Keyed->Keyed->Bool):Prop where
 as:∀a b,lt a b=true->lt b a=false
 tr:∀a b c,lt b a=false->lt c b=false->lt c a=false
def Ord.ir{lt:Keyed->Keyed->Bool}(o:Ord lt)(a:Keyed):lt a a=false:=by
 cases h:lt a a with
 | false=>rfl
 | true=>exact h.symm.trans (o.as a a h)
def Ord.ll{lt:Keyed->Keyed->Bool}(o:Ord lt){a b c:Keyed}(h:lt a b=true)(g:lt c b=false):lt a c=true:=by
 cases e:lt a c with
 | true=>rfl
 | false=>exact((o.tr _ _ _ g e).symm.trans h)
def X(xs:Array Keyed)(i:Nat):Keyed:=(xs[i]?).getD (.none,.none)
def So(lt:Keyed->Keyed->Bool)(xs:Array Keyed)(lo hi:Nat):Prop:=∀i j,lo<=i->i<=j->j<hi->lt (X xs j) (X xs i)=false
def Fx(lo hi:Nat)(xs ys:Array Keyed):Prop:=ys.Perm xs/\∀k,k<lo\/hi<=k->ys[k]?=xs[k]?
def Fx.refl{lo hi:Nat}{xs:Array Keyed}:Fx lo hi xs xs:=⟨.refl _,λ_ _=>rfl⟩
def Fx.trans{lo hi:Nat}{xs ys zs:Array Keyed}(h:Fx lo hi xs ys)(g:Fx lo hi ys zs):Fx lo hi xs zs:=⟨g.1.trans h.1,λk hk=>(g.2 k hk).trans (h.2 k hk)⟩
def zf{xs ys:Array Keyed}{i j:Nat}(h:xs[i]?=ys[j]?):X xs i=X ys j:=by unfold X;rw[h]
def Fx.x{lo hi:Nat}{xs ys:Array Keyed}(h:Fx lo hi xs ys){k:Nat}(hk:k<lo\/hi<=k):X ys k=X xs k:=zf (h.2 k hk)
def sJ{xs:Array Keyed}{i j:Nat}(hj:j<=xs.size)(k:Nat):X (mirror xs i j ((j - i) / 2)) k=if i<=k/\k<j then X xs (i+j - 1 - k)else X xs k:=by
 have e:=jB (i:=i) hj k;split<;>rename_i h
 .rw[bw h]at e;exact zf e
 .rw[bq h]at e;exact zf e
def GS{xs:Array Keyed}{i d:Nat}(hi:i<xs.size)(hd:d<=i)(k:Nat):X (bubble xs i d) k=if k=i - d then X xs i else if i - d<k/\k<=i then X xs (k - 1)else X xs k:=by
 have e:=getElem?_bubble hi d hd k;split
 .rename_i h;rw[bw h]at e;exact zf e
 .rename_i h;rw[bq h]at e;split
  .rename_i h;rw[bw h]at e;exact zf e
  .rename_i h;rw[bq h]at e;exact zf e
def Fx.mj{lo hi:Nat}{xs:Array Keyed}{i j:Nat}(hj:j<=xs.size)(h1:lo<=i)(h2:j<=hi):Fx lo hi xs (mirror xs i j ((j - i) / 2)):=⟨mirror_perm _ _ _ _,λk hk=>by rw[jB hj,bq (by lia)]⟩
def Fx.bub{lo hi:Nat}{xs:Array Keyed}{i d:Nat}(Oz:i<xs.size)(hd:d<=i)(h1:lo<=i - d)(h2:i<hi):Fx lo hi xs (bubble xs i d):=⟨bubble_perm _ _ _,λk hk=>by rw[getElem?_bubble Oz d hd,bq (by lia),bq (by lia)]⟩
variable {na nb:Nat}{out:Array Keyed}{ia ib k:Nat}{a b:Array Keyed}{prog:Pg}{w:Wo}{A:Ar}{E:QQX}{s:Sd}{a₀:Array Keyed}{κ:SortKind}{lt:Keyed→Keyed→Bool}{P:Keyed→Prop}
def Cmp(prog:Pg)(w:Wo)(A:Ar)(s:Sd)(κ:SortKind)(lt:Keyed->Keyed->Bool)(P:Keyed->Prop):Prop:=∀x y,P x->P y->∀(Q:Bool->Sd->Prop) (E:QQX),Q (lt x y) s->wpAny (model prog w) A (keyLt' κ x.1 y.1) Q E s
structure Bs(κ:SortKind)(P:Keyed->Prop)(a₀:Array Keyed)(st:SortSt):Prop where
 k:kindOf st=κ
 f:failedOf st=none
 p:(arrOf st).Perm a₀
 all:∀x∈a₀.toList,P x
def Bs.set{st:SortSt}(b:Bs κ P a₀ st){xs:Array Keyed}(h:xs.Perm (arrOf st)):Bs κ P a₀ (setArr st xs):=⟨b.k,b.f,h.trans b.p,b.all⟩
def Bs.sz{st:SortSt}(b:Bs κ P a₀ st):(arrOf st).size=a₀.size:=b.p.size_eq
def Bs.at_{st:SortSt}(b:Bs κ P a₀ st){i:Nat}(hi:i<a₀.size):(arrOf st)[i]?=some (X (arrOf st) i)/\P (X (arrOf st) i):=by
 have Oz:i<(arrOf st).size:=by rw[b.sz];exact hi
 have e:(arrOf st)[i]?=some (arrOf st)[i]:=dH _ i Oz;have ex:X (arrOf st) i=(arrOf st)[i]:=by unfold X;rw[e];rfl
 rw[ex];exact⟨e,b.all _ ((eH.mp b.p).mem_iff.mp (by simp))⟩
def zm{st:SortSt}(C:Cmp prog w A s κ lt P)(hk:kindOf st=κ){x y:Keyed}{Q:Option Bool->SortSt->Prop}(hx:P x)(hy:P y)(h:Q (some (lt x y)) st):wpS (model prog w) A E s (lt' x y) Q st:=by rw[lt'_eq];refine bu (eY ?_);rw[hk];exact bu (hG (gz (C x y hx hy _ _ ⟨rfl,bv h⟩)))
def vp{st:SortSt}(C:Cmp prog w A s κ lt P)(b:Bs κ P a₀ st){i j:Nat}{Q:Option Bool->SortSt->Prop}(hi:i<a₀.size)(hj:j<a₀.size)(h:Q (some (lt (X (arrOf st) i) (X (arrOf st) j))) st):wpS (model prog w) A E s (ltAt' i j) Q st:=by obtain⟨e1,p1⟩:=b.at_ hi;obtain⟨e2,p2⟩:=b.at_ hj;rw[ltAt'_eq];refine bu (eY ?_);show wpS _ _ _ _ (do let x<-elem' (arrOf st) i;let y<-elem' (arrOf st) j;lt' x y) Q st;rw[elem'_eq,elem'_eq,e1,e2];exact bu (bv (bu (bv (zm C b.k p1 p2 h))))
def By{st:SortSt}{i j:Nat}{Q:Unit->SortSt->Prop}(h:Q () (setArr st (mirror (arrOf st) i j ((j - i) / 2)))):wpS (model prog w) A E s (reverseSlice' i j) Q st:=by rw[reverseSlice'_eq];exact dC h
def J3{st:SortSt}{i j:Nat}{Q:Unit->SortSt->Prop}(h:Q () (setArr st (bubble (arrOf st) i (i - j)))):wpS (model prog w) A E s (moveDown' i j) Q st:=by rw[moveDown'_eq];exact dC h
def So.snoc(o:Ord lt){xs:Array Keyed}{lo n:Nat}(hs:So lt xs lo n)(h:lo<n->lt (X xs n) (X xs (n - 1))=false):So lt xs lo (n+1):=λi j hi MS hj=>by
 by_cases hjn:j<n
 .exact hs i j hi MS hjn
 .obtain rfl:j=n:=by lia
  by_cases e:i=j
  .subst e;exact o.ir _
  .exact o.tr _ _ _ (hs i (j - 1) hi (by lia) (by lia)) (h (by lia))
def Si(lt:Keyed->Keyed->Bool)(xs:Array Keyed)(lo hi:Nat):Prop:=∀i j,lo<=i->i<=j->j<hi->lt (X xs i) (X xs j)=false
def Si.snoc(o:Ord lt){xs:Array Keyed}{lo n:Nat}(hs:Si lt xs lo n)(h:lo<n->lt (X xs (n - 1)) (X xs n)=false):Si lt xs lo (n+1):=λi j hi MS hj=>by
 by_cases hjn:j<n
 .exact hs i j hi MS hjn
 .obtain rfl:j=n:=by lia
  by_cases e:i=j
  .subst e;exact o.ir _
  .exact o.tr _ _ _ (h (by lia)) (hs i (j - 1) hi (by lia) (by lia))
def So.one(o:Ord lt){xs:Array Keyed}{lo:Nat}:So lt xs lo (lo+1):=λi j h1 h2 h3=>by
 obtain rfl:i=j:=by lia
 exact o.ir _
abbrev AS:=Option (Option Nat)×Nat
def FW(lo:Nat)(_:Nat)(c:AS):StateT SortSt Sem (ForInStep AS):=do
 let x<-ltAt' (lo+c.2) (lo+c.2 - 1)
 match x with
 | some smaller=>if smaller=true then pure (.done (none,c.2))else pure (.yield (none,c.2+1))
 | _=>pure (.done (some none,c.2))
def Hb(o:Ord lt)(C:Cmp prog w A s κ lt P){st:SortSt}(b:Bs κ P a₀ st){lo a Ml:Nat}{Q:AS->SortSt->Prop}(ha:1<=a)(h1:a<=Ml)(hn:lo+Ml<=a₀.size)(hs:So lt (arrOf st) lo (lo+a)) (h:∀n,a<=n->n<=Ml->So lt (arrOf st) lo (lo+n)->(n=Ml\/lt (X (arrOf st) (lo+n)) (X (arrOf st) (lo+n - 1))=true)->Q (none,n) st):wpS (model prog w) A E s (forIn [a:Ml] ((none,a):AS) (FW lo)) Q st:=by
 refine cI (I:=λx c Mi=>Mi=st/\c=(none,x)/\So lt (arrOf st) lo (lo+x)) ?_ ?_ ⟨rfl,rfl,hs⟩
 .rintro x c _ hx1 hx2 ⟨rfl,rfl,hs⟩
  refine bu (vp C b (by lia) (by lia) ?_);dsimp only;cases e:lt (X (arrOf _) (lo+x)) (X (arrOf _) (lo+x - 1))with
  | true=>exact bv (h x hx1 (by lia) hs (.inr e))
  | false=>exact bv ⟨rfl,rfl,hs.snoc o λ_=>e⟩
 .rintro c _ ⟨rfl,rfl,hs⟩
  rw[show max a Ml=Ml by lia]at hs ⊢;exact h _ h1 (bB _) hs (.inl rfl)
abbrev DS:=Option (Option Nat)×Nat×Nat
def Ho(lo:Nat)(_:Nat)(c:DS):StateT SortSt Sem (ForInStep DS):=do
 let x<-ltAt' (lo+c.2.1) (lo+c.2.1 - 1)
 match x with
 | some smaller=>
  if smaller=true then
   if c.2.2>0 then do
    reverseSlice' (lo+c.2.1 - (c.2.2+1)) (lo+c.2.1)
    pure (.yield (none,c.2.1+1,0))
   else pure (.yield (none,c.2.1+1,0))
  else do
   let x<-ltAt' (lo+c.2.1 - 1) (lo+c.2.1)
   match x with
   | some larger=>if larger=true then pure (.done (none,c.2.1,c.2.2))else pure (.yield (none,c.2.1+1,c.2.2+1))
   | _=>pure (.done (some none,c.2.1,c.2.2))
 | _=>pure (.done (some none,c.2.1,c.2.2))
def Si.mj(o:Ord lt){xs:Array Keyed}{lo n q:Nat}(hs:Si lt xs lo (lo+n))(hz:lo+n<=xs.size)(hq:q+1<=n)(he:∀i j,lo+n - (q+1)<=i->i<=j->j<lo+n->lt (X xs j) (X xs i)=false)(i j:Nat)(MS:i<=j)(hi:lo<=i)(hj:j<lo+n):lt (X (mirror xs (lo+n - (q+1)) (lo+n) ((lo+n - (lo+n - (q+1))) / 2)) i) (X (mirror xs (lo+n - (q+1)) (lo+n) ((lo+n - (lo+n - (q+1))) / 2)) j)=false:=by
 rw[sJ hz,sJ hz];split<;>split
 .exact he _ _ (by lia) (by lia) (by lia)
 .omega
 .exact hs _ _ hi (by lia) (by lia)
 .exact hs _ _ hi MS hj
def JE(o:Ord lt)(C:Cmp prog w A s κ lt P){st:SortSt}(b:Bs κ P a₀ st){lo a Ml:Nat}{Q:DS->SortSt->Prop}(ha:1<=a)(h1:a<=Ml)(hn:lo+Ml<=a₀.size)(hs:Si lt (arrOf st) lo (lo+a)) (h:∀n q xs,Fx lo (lo+Ml) (arrOf st) xs->a<=n->n<=Ml->Si lt xs lo (lo+n)->q+1<=n->(∀i j,lo+n - (q+1)<=i->i<=j->j<lo+n->lt (X xs j) (X xs i)=false)->Q (none,n,q) (setArr st xs)):wpS (model prog w) A E s (forIn [a:Ml] ((none,a,0):DS) (Ho lo)) Q st:=by
 refine cI (I:=λx c Mi=>∃q xs,Mi=setArr st xs/\c=(none,x,q)/\Fx lo (lo+Ml) (arrOf st) xs/\Si lt xs lo (lo+x)/\q+1<=x/\∀i j,lo+x - (q+1)<=i->i<=j->j<lo+x->lt (X xs j) (X xs i)=false) ?_ ?_ ⟨0,arrOf st,rfl,rfl,.refl,hs,ha,λi j h1 h2 h3=>(show i=j by lia) ▸ o.ir _⟩
 .rintro x c _ hx1 hx2 ⟨q,xs,rfl,rfl,fx,hs,hq,he⟩
  have b':Bs κ P a₀ (setArr st xs):=b.set fx.1;have hz:xs.size=a₀.size:=b'.sz;unfold Ho;dsimp only;refine bu (vp C b' (by lia) (by lia) ?_);dsimp only;cases e:lt (X xs (lo+x)) (X xs (lo+x - 1))with
  | true=>
   rw[bw rfl];have one:∀ys:Array Keyed,∀i j,lo+(x+1) - (0+1)<=i->i<=j->j<lo+(x+1)->lt (X ys j) (X ys i)=false:=λys i j h1 h2 h3=>by
    obtain rfl:i=j:=by lia
    exact o.ir _
   split
   .refine bu (By (bv ⟨0,_,rfl,rfl,fx.trans (.mj (by show _<=xs.size;lia) (by lia) (by lia)),?_,by lia,one _⟩));refine Si.snoc (n:=lo+x) o (λi j hi MS hj=>Si.mj o hs (by lia) hq he i j MS hi hj) λ_=>?_;show lt (X (mirror xs _ _ _) _) (X (mirror xs _ _ _) _)=false;rw[sJ (by lia),sJ (by lia),bw (by lia),bq (by lia)];exact o.tr _ _ _ (o.as _ _ e) (hs _ _ (by lia) (by lia) (by lia))
   .exact bv ⟨0,xs,rfl,rfl,fx,hs.snoc o λ_=>o.as _ _ e,by lia,one _⟩
  | false=>
   rw[bq (by exact Bool.noConfusion)];refine bu (vp C b' (by lia) (by lia) ?_);dsimp only;cases e2:lt (X xs (lo+x - 1)) (X xs (lo+x))with
   | true=>exact bv (h x q xs fx hx1 (by lia) hs hq he)
   | false=>
    refine bv ⟨q+1,xs,rfl,rfl,fx,hs.snoc o λ_=>e2,by lia,λi j h1 h2 h3=>?_⟩;by_cases hj:j<lo+x
    .exact he i j (by lia) h2 hj
    .obtain rfl:j=lo+x:=by lia
     by_cases hi:i=lo+x
     .subst hi;exact o.ir _
     .exact o.tr _ _ _ (he i (lo+x - 1) (by lia) (by lia) (by lia)) e
 .rintro c _ ⟨q,xs,rfl,rfl,fx,hs,hq,he⟩
  rw[show max a Ml=Ml by lia]at hs hq he ⊢;exact h _ _ _ fx h1 (bB _) hs hq he
def Gf(o:Ord lt)(C:Cmp prog w A s κ lt P){st:SortSt}(b:Bs κ P a₀ st){lo Ml:Nat}{Q:Option Nat->SortSt->Prop}(h1:1<=Ml)(hn:lo+Ml<=a₀.size) (h:∀m xs,Fx lo (lo+Ml) (arrOf st) xs->1<=m->m<=Ml->So lt xs lo (lo+m)->Q (some m) (setArr st xs)):wpS (model prog w) A E s (countRun' lo Ml) Q st:=by
 have fin:∀(K:AS->StateT SortSt Sem (Option Nat)) n xs,(∀m st,Q (some m) st->wpS (model prog w) A E s (K (none,m)) Q st)->Fx lo (lo+Ml) (arrOf st) xs->1<=n->n<=Ml->Si lt xs lo (lo+n)->wpS (model prog w) A E s (do
   reverseSlice' lo (lo+n)
   let c<-forIn [n:Ml] ((none,n):AS) (FW lo)
   K c) Q (setArr st xs):=λK n xs hK fx n1 n2 hs=>by
  have hz:xs.size=a₀.size:=(b.set fx.1).sz;have f2:Fx lo (lo+Ml) xs (mirror xs lo (lo+n) ((lo+n - lo) / 2)):=.mj (by lia) (by lia) (by lia);refine bu (By (bu (Hb o C (b.set (f2.1.trans fx.1)) n1 n2 hn (λi j hi MS hj=>?_) λm m1 m2 hm _=>hK _ _ (h m _ (fx.trans f2) (by lia) m2 hm))));show lt (X (mirror xs _ _ _) _) (X (mirror xs _ _ _) _)=false;rw[sJ (by lia),sJ (by lia),bw (by lia),bw (by lia)];exact hs _ _ (by lia) (by lia) (by lia)
 have NM:∀(K K':AS->StateT SortSt Sem (Option Nat)) m q ys,(∀m st,Q (some m) st->wpS (model prog w) A E s (K (none,m)) Q st)->(∀m st,Q (some m) st->wpS (model prog w) A E s (K' (none,m)) Q st)->Fx lo (lo+Ml) (arrOf st) ys->1<=m->m<=Ml->Si lt ys lo (lo+m)->q+1<=m->(∀i j,lo+m - (q+1)<=i->i<=j->j<lo+m->lt (X ys j) (X ys i)=false)->wpS (model prog w) A E s (if q>0 then do
   reverseSlice' (lo+m - (q+1)) (lo+m)
   reverseSlice' lo (lo+m)
   let c<-forIn [m:Ml] ((none,m):AS) (FW lo)
   K c
  else do
   reverseSlice' lo (lo+m)
   let c<-forIn [m:Ml] ((none,m):AS) (FW lo)
   K' c) Q (setArr st ys):=λK K' m q ys hK hK' fy m1 m2 hm hq he=>by
  have hz:ys.size=a₀.size:=(b.set fy.1).sz;split
  .have f2:Fx lo (lo+Ml) ys (mirror ys (lo+m - (q+1)) (lo+m) ((lo+m - (lo+m - (q+1))) / 2)):=.mj (by lia) (by lia) (by lia);exact bu (By (fin K m _ hK (fy.trans f2) (by lia) m2 λi j hi MS hj=>Si.mj o hm (by lia) hq he i j MS hi hj))
  .exact fin K' m ys hK' fy (by lia) m2 hm
 have dsc:∀(K:DS->StateT SortSt Sem (Option Nat)) n xs,(∀m q ys,Fx lo (lo+Ml) (arrOf st) ys->1<=m->m<=Ml->Si lt ys lo (lo+m)->q+1<=m->(∀i j,lo+m - (q+1)<=i->i<=j->j<lo+m->lt (X ys j) (X ys i)=false)->wpS (model prog w) A E s (K (none,m,q)) Q (setArr st ys))->Fx lo (lo+Ml) (arrOf st) xs->n+1<=Ml->Si lt xs lo (lo+n+1)->wpS (model prog w) A E s (do
   liftM (rule "list.sort.descending-run")
   let c<-forIn [n+1:Ml] ((none,n+1,0):DS) (Ho lo)
   K c) Q (setArr st xs):=λK n xs hK fx n2 hs=>
  bu (hG (dI ⟨rfl,bu (JE o C (b.set fx.1) (by lia) n2 hn hs λm q ys fy m1 m2 hm hq he=>hK m q ys (fx.trans fy) (by lia) m2 hm hq he)⟩))
 rw[countRun'_eq];refine bu (Hb o C b (bB 1) h1 hn (So.one o) λn n1 n2 hs hor=>?_);dsimp only;by_cases hnn:n=Ml
 .rw[bw (by simpa using hnn)];exact bv (h n _ .refl n1 n2 hs)
 rw[bq (by simpa using hnn)];have e:=hor.resolve_left hnn;split
 .refine bu (vp C b (by lia) (by lia) ?_);dsimp only;cases er:lt (X (arrOf st) lo) (X (arrOf st) (lo+n - 1))with
  | true=>exact bv (h n _ .refl n1 n2 hs)
  | false=>
   have hz:=b.sz;have fx:Fx lo (lo+Ml) (arrOf st) (mirror (arrOf st) lo (lo+n) ((lo+n - lo) / 2)):=.mj (by lia) (by lia) (by lia);have hsi:Si lt (mirror (arrOf st) lo (lo+n) ((lo+n - lo) / 2)) lo (lo+n+1):=Si.snoc o (λi j hi MS hj=>by
    rw[sJ (by lia),sJ (by lia),bw (by lia),bw (by lia)];exact hs _ _ (by lia) (by lia) (by lia)) λ_=>by
    rw[sJ (by lia),sJ (by lia),bw (by lia),bq (by lia),show lo+(lo+n) - 1 - (lo+n - 1)=lo by lia];exact o.tr _ _ _ (o.as _ _ e) er
   exact bu (By (dsc _ n _ (λm q ys fy m1 m2 hm hq he=>NM _ _ m q ys (λm st q=>bv q) (λm st q=>bv q) fy m1 m2 hm hq he) fx (by lia) hsi))
 .obtain rfl:n=1:=by lia
  exact dsc _ 1 _ (λm q ys fy m1 m2 hm hq he=>NM _ _ m q ys (λm st q=>bv q) (λm st q=>bv q) fy m1 m2 hm hq he) .refl (by lia) (Si.snoc o (λi j hi MS hj=>(show i=j by lia) ▸ o.ir _) λ_=>o.as _ _ e)
def JP(o:Ord lt)(C:Cmp prog w A s κ lt P){st:SortSt}(b:Bs κ P a₀ st){lo n ok:Nat}{Q:Bool->SortSt->Prop}(hn:lo+n<=a₀.size)(h1:1<=ok)(h2:ok<=n)(hs:So lt (arrOf st) lo (lo+ok)) (h:∀xs,Fx lo (lo+n) (arrOf st) xs->So lt xs lo (lo+n)->Q true (setArr st xs)):wpS (model prog w) A E s (binarySort' lo n ok) Q st:=by
 rw[binarySort'_eq];refine bu (ee (cI (I:=λk c Mi=>c=(none,())/\∃xs,Mi=setArr st xs/\Fx lo (lo+n) (arrOf st) xs/\So lt xs lo (lo+min k n)) (Q:=λc Mi=>c=(none,())/\∃xs,Mi=setArr st xs/\Fx lo (lo+n) (arrOf st) xs/\So lt xs lo (lo+n)) ?_ ?_ ⟨rfl,_,rfl,.refl,?_⟩) ?_)
 .rintro k c _ hk1 M8 ⟨rfl,xs,rfl,fx,hs⟩
  rw[show min k n=k by lia]at hs;have b':Bs κ P a₀ (setArr st xs):=b.set fx.1;have hz:xs.size=a₀.size:=b'.sz;refine bu (ee (cI (I:=λx c Pc=>Pc=setArr st xs/\∃l r,c=(none,l,r)/\l<=r/\r<=k/\r - l<=k - x/\(∀i,i<l->lt (X xs (lo+k)) (X xs (lo+i))=false)/\(∀i,r<=i->i<k->lt (X xs (lo+k)) (X xs (lo+i))=true))
   (Q:=λc Pc=>Pc=setArr st xs/\∃l r,c=(none,l,r)/\l<=k/\(∀i,i<l->lt (X xs (lo+k)) (X xs (lo+i))=false)/\(∀i,l<=i->i<k->lt (X xs (lo+k)) (X xs (lo+i))=true)) ?_ ?_ ⟨rfl,0,k,rfl,by lia,by lia,by lia,λi hi=>by lia,λi h1 h2=>by lia⟩) ?_)
  .rintro x c _ _ hx ⟨rfl,l,r,rfl,hlr,hrk,hm,h3,h4⟩
   dsimp only;split
   .obtain rfl:l=r:=by lia
    exact bv ⟨rfl,l,l,rfl,hrk,h3,h4⟩
   .refine bu (vp C b' (by lia) (by lia) ?_);dsimp only;cases e:lt (X xs (lo+k)) (X xs (lo+(l+r) / 2))with
    | true=>exact bv ⟨rfl,l,(l+r) / 2,rfl,by lia,by lia,by lia,h3,λi h5 h6=>o.ll e (hs _ _ (by lia) (by lia) (by lia))⟩
    | false=>exact bv ⟨rfl,(l+r) / 2+1,r,rfl,by lia,by lia,by lia,λi h5=>o.tr _ _ _ (hs _ _ (by lia) (by lia) (by lia)) e,h4⟩
  .rintro c _ ⟨rfl,l,r,rfl,hlr,hrk,hm,h3,h4⟩
   obtain rfl:l=r:=by lia
   exact⟨rfl,l,l,rfl,hrk,h3,h4⟩
  .rintro c _ ⟨rfl,l,r,rfl,hlk,h3,h4⟩
   refine bu (J3 (bv ⟨rfl,_,rfl,fx.trans (.bub (by show _<xs.size;lia) (by lia) (by lia) (by lia)),?_⟩));rw[show min (k+1) n=k+1 by lia];intro i j hi MS hj;show lt (X (bubble xs _ _) j) (X (bubble xs _ _) i)=false;rw[GS (by lia) (by lia),GS (by lia) (by lia),show lo+k - (lo+k - (lo+l))=lo+l by lia];have g3:∀i,lo<=i->i<lo+l->lt (X xs (lo+k)) (X xs i)=false:=λi a b=>by have:=h3 (i - lo) (by lia);rwa [show lo+(i - lo)=i by lia]at this
   have g4:∀i,lo+l<=i->i<lo+k->lt (X xs (lo+k)) (X xs i)=true:=λi a b=>by have:=h4 (i - lo) (by lia) (by lia);rwa [show lo+(i - lo)=i by lia]at this
   repeat' split
   all_goals first
    | (exfalso;lia)
    | exact o.ir _
    | exact g3 _ hi (by lia)
    | exact o.as _ _ (g4 _ (by lia) (by lia))
    | exact hs _ _ (by lia) (by lia) (by lia)
 .rintro c _ ⟨rfl,xs,rfl,fx,hs⟩
  rw[show min (max (max ok 1) n) n=n by lia]at hs;exact⟨rfl,xs,rfl,fx,hs⟩
 .rw[show min (max ok 1) n=ok by lia];exact hs
 .rintro c _ ⟨rfl,xs,rfl,fx,hs⟩
  exact bv (h xs fx hs)
def Bz:Bool->Keyed->Array Keyed->Nat->Nat->Nat->StateT SortSt Sem (Option Nat):=sortPriv% PySem.Builtin.gallop
def pS(lt:Keyed->Keyed->Bool)(left:Bool)(key x:Keyed):Bool:=if left=true then lt x key else !(lt key x)
def rb{xs:Array Keyed}{i:Nat}(h:i<xs.size):xs[i]?=some (X xs i)/\X xs i∈xs.toList:=by
 have e:xs[i]?=some xs[i]:=dH _ i h;have ex:X xs i=xs[i]:=by unfold X;rw[e];rfl
 rw[ex];exact⟨e,by simp⟩
def pz{st:SortSt}{xs:Array Keyed}{i:Nat}{Q:Keyed->SortSt->Prop}(h:i<xs.size)(q:Q (X xs i) st):wpS (model prog w) A E s (elem' xs i) Q st:=by rw[elem'_eq,(rb h).1];exact bv q
def Bc(C:Cmp prog w A s κ lt P){st:SortSt}(hk:kindOf st=κ){left:Bool}{key:Keyed}{xs:Array Keyed}{i:Nat}{Q:Option Bool->SortSt->Prop}(hi:i<xs.size)(hp:∀x∈xs.toList,P x)(hy:P key)(q:Q (some (pS lt left key (X xs i))) st):
  wpS (model prog w) A E s (elem' xs i>>=λx=>if left=true then lt' x key else lt' key x>>=λr=>pure (r.map λb=>!b)) Q st:=by
 refine bu (pz hi ?_);have px:=hp _ (rb hi).2;unfold pS at q;cases left with
 | true=>exact zm C hk px hy q
 | false=>exact bu (zm C hk hy px (bv q))
abbrev BS:=Option (Option Nat)×Nat×Nat
def LJ(left:Bool)(key:Keyed)(xs:Array Keyed)(base:Nat)(_:Nat)(c:BS):StateT SortSt Sem (ForInStep BS):=if c.2.1>=c.2.2 then pure (.done (none,c.2.1,c.2.2))else
 (elem' xs (base+(c.2.1+(c.2.2 - c.2.1) / 2))>>=λx=>if left=true then lt' x key else lt' key x>>=λr=>pure (r.map λb=>!b))>>=λx=>match x with
  | some more=>if more=true then pure (.yield (none,c.2.1+(c.2.2 - c.2.1) / 2+1,c.2.2))else pure (.yield (none,c.2.1,c.2.1+(c.2.2 - c.2.1) / 2))
  | _=>pure (.done (some none,c.2.1,c.2.2))
def JB(C:Cmp prog w A s κ lt P){st:SortSt}(hk:kindOf st=κ){left:Bool}{key:Keyed}{xs:Array Keyed}{base n:Nat}{Q:BS->SortSt->Prop}(hb:base+n<=xs.size)(hp:∀x∈xs.toList,P x)(hy:P key) (mono:∀i j,i<=j->j<n->pS lt left key (X xs (base+j))=true->pS lt left key (X xs (base+i))=true) (no:∀i j,i<=j->j<n->pS lt left key (X xs (base+i))=false->pS lt left key (X xs (base+j))=false) {lo hi:Nat} (h1:lo<=hi) (h2:hi<=n) (h3:∀i,i<lo->pS lt left key (X xs (base+i))=true) (h4:∀i,hi<=i->i<n->pS lt left key (X xs (base+i))=false) (h:∀k,k<=n->(∀i,i<n->pS lt left key (X xs (base+i))=decide (i<k))->Q (none,k,k) st):wpS (model prog w) A E s (forIn [:n] ((none,lo,hi):BS) (LJ left key xs base)) Q st:=by
 have fin:∀k,k<=n->(∀i,i<k->pS lt left key (X xs (base+i))=true)->(∀i,k<=i->i<n->pS lt left key (X xs (base+i))=false)->Q (none,k,k) st:=λk hk h3 h4=>h k hk λi hi=>by
  by_cases e:i<k
  .rw[h3 i e,bV e]
  .rw[h4 i (by lia) hi,cE e]
 refine cI (I:=λx c Mi=>Mi=st/\∃lo hi,c=(none,lo,hi)/\lo<=hi/\hi<=n/\hi - lo<=n - x/\(∀i,i<lo->pS lt left key (X xs (base+i))=true)/\(∀i,hi<=i->i<n->pS lt left key (X xs (base+i))=false)) ?_ ?_ ⟨rfl,lo,hi,rfl,h1,h2,by lia,h3,h4⟩
 .rintro x c _ _ hx ⟨rfl,lo,hi,rfl,h1,h2,hm,h3,h4⟩
  unfold LJ;dsimp only;split
  .obtain rfl:lo=hi:=by lia
   exact bv (fin _ h2 h3 h4)
  .refine bu (Bc C hk (by lia) hp hy ?_);dsimp only;cases e:pS lt left key (X xs (base+(lo+(hi - lo) / 2)))with
   | true=>exact bv ⟨rfl,_,hi,rfl,by lia,h2,by lia,λi hi=>mono _ _ (by lia) (by lia) e,h4⟩
   | false=>exact bv ⟨rfl,lo,_,rfl,by lia,by lia,by lia,h3,λi h5 h6=>no _ _ h5 h6 e⟩
 .rintro c _ ⟨rfl,lo,hi,rfl,h1,h2,hm,h3,h4⟩
  obtain rfl:lo=hi:=by lia
  exact fin _ h2 h3 h4
def uz(C:Cmp prog w A s κ lt P){st:SortSt}(hk:kindOf st=κ){left:Bool}{key:Keyed}{xs:Array Keyed}{base n My:Nat}{Q:Option Nat->SortSt->Prop}(hb:base+n<=xs.size)(hp:∀x∈xs.toList,P x)(hy:P key)(hh:My<n) (mono:∀i j,i<=j->j<n->pS lt left key (X xs (base+j))=true->pS lt left key (X xs (base+i))=true) (h:∀k,k<=n->(∀i,i<n->pS lt left key (X xs (base+i))=decide (i<k))->Q (some k) st):wpS (model prog w) A E s (Bz left key xs base n My) Q st:=by
 unfold Bz;have no:∀i j,i<=j->j<n->pS lt left key (X xs (base+i))=false->pS lt left key (X xs (base+j))=false:=λi j h1 h2 h3=>by
  cases e:pS lt left key (X xs (base+j))with
  | false=>rfl
  | true=>exact((mono i j h1 h2 e).symm.trans h3)
 refine bu (Bc C hk (by lia) hp hy ?_);dsimp only;cases e:pS lt left key (X xs (base+My))with
 | true=>
  rw[bw rfl];refine bu (ee (cI (I:=λx c Mi=>Mi=st/\∃la of,c=(none,la,of)/\pS lt left key (X xs (base+(My+la)))=true/\My+la<n/\la<of/\x+1<=of) (Q:=λc Mi=>Mi=st/\∃la of,c=(none,la,of)/\pS lt left key (X xs (base+(My+la)))=true/\My+la<n/\la<of/\(n - My<=of\/(My+of<n/\pS lt left key (X xs (base+(My+of)))=false))) ?_ ?_ ⟨rfl,0,1,rfl,e,hh,by lia,by lia⟩) ?_)
  .rintro x c _ _ hx ⟨rfl,la,of,rfl,h1,h2,h3,h4⟩
   dsimp only;split
   .exact bv ⟨rfl,la,of,rfl,h1,h2,h3,.inl (by lia)⟩
   .refine bu (Bc C hk (by lia) hp hy ?_);dsimp only;cases e2:pS lt left key (X xs (base+(My+of)))with
    | true=>exact bv ⟨rfl,of,2*of+1,rfl,e2,by lia,by lia,by lia⟩
    | false=>exact bv ⟨rfl,la,of,rfl,h1,h2,h3,.inr ⟨by lia,e2⟩⟩
  .rintro c _ ⟨rfl,la,of,rfl,h1,h2,h3,h4⟩
   exact⟨rfl,la,of,rfl,h1,h2,h3,.inl (by lia)⟩
  .rintro c _ ⟨rfl,la,of,rfl,h1,h2,h3,h4⟩
   dsimp only;refine bu (JB C hk hb hp hy mono no (by lia) (by lia) (λi hi=>mono i _ (by lia) h2 h1) (λi h5 h6=>?_) λk k1 k2=>bv (h k k1 k2));rcases h4 with h4|⟨h4,h7⟩
   .omega
   .exact no _ _ (by lia) h6 h7
 | false=>
  rw[bq (by exact Bool.noConfusion)];refine bu (ee (cI (I:=λx c Mi=>Mi=st/\∃la of,c=(none,la,of)/\pS lt left key (X xs (base+(My - la)))=false/\la<=My/\la<of/\x+1<=of) (Q:=λc Mi=>Mi=st/\∃la of,c=(none,la,of)/\pS lt left key (X xs (base+(My - la)))=false/\la<=My/\la<of/\(My+1<=of\/(of<=My/\pS lt left key (X xs (base+(My - of)))=true))) ?_ ?_ ⟨rfl,0,1,rfl,e,by lia,by lia,by lia⟩) ?_)
  .rintro x c _ _ hx ⟨rfl,la,of,rfl,h1,h2,h3,h4⟩
   dsimp only;split
   .exact bv ⟨rfl,la,of,rfl,h1,h2,h3,.inl (by lia)⟩
   .refine bu (Bc C hk (by lia) hp hy ?_);dsimp only;cases e2:pS lt left key (X xs (base+(My - of)))with
    | true=>exact bv ⟨rfl,la,of,rfl,h1,h2,h3,.inr ⟨by lia,e2⟩⟩
    | false=>exact bv ⟨rfl,of,2*of+1,rfl,e2,by lia,by lia,by lia⟩
  .rintro c _ ⟨rfl,la,of,rfl,h1,h2,h3,h4⟩
   exact⟨rfl,la,of,rfl,h1,h2,h3,.inl (by lia)⟩
  .rintro c _ ⟨rfl,la,of,rfl,h1,h2,h3,h4⟩
   dsimp only;refine bu (JB C hk hb hp hy mono no (by lia) (by lia) (λi hi=>?_) (λi h5 h6=>no _ _ h5 h6 h1) λk k1 k2=>bv (h k k1 k2));rcases h4 with h4|⟨h4,h7⟩
   .omega
   .exact mono _ _ (by lia) (by lia) h7
def zO:Array Keyed->Array Keyed->StateT SortSt Sem (Array Keyed):=sortPriv% PySem.Builtin.mergeLo
abbrev sG(st:SortSt)(g:Nat):SortSt:=SortSt.mk' (kindOf st) (arrOf st) (pendingOf st) g (failedOf st)
abbrev Sl(lt:Keyed->Keyed->Bool)(l:T0 Keyed):Prop:=l.Pairwise λx y=>lt y x=false
def nz{α:Type}{st:SortSt}{c:Prop}[Decidable c]{t e:StateT SortSt Sem α}{Q:α->SortSt->Prop}(ht:c->wpS (model prog w) A E s t Q st)(he:¬c->wpS (model prog w) A E s e Q st):wpS (model prog w) A E s (if c then t else e) Q st:=by
 split
 .exact ht ‹_›
 .exact he ‹_›
structure MI(lt:Keyed->Keyed->Bool)(c out α β:List Keyed):Prop where
 p:(out++(α++β)).Perm c
 so:Sl lt out
 sa:Sl lt α
 sb:Sl lt β
 le:∀x∈out,∀y∈α++β,lt y x=false
def MI.ta{c out u α β:T0 Keyed}(m:MI lt c out (u++α) β)(h:∀x∈u,∀y∈β,lt y x=false):MI lt c (out++u) α β:=by
 obtain⟨s1,s2,s3⟩:=gR.mp m.sa;refine⟨by simpa using m.p,gR.mpr ⟨m.so,s1,λx hx y hy=>m.le x hx y (by simp[hy])⟩,s2,m.sb,λx hx y hy=>?_⟩;rcases bS.mp hx with hx|hx
 .exact m.le x hx y (by rcases bS.mp hy with z|z<;>simp[z])
 .rcases bS.mp hy with z|z
  .exact s3 x hx y z
  .exact h x hx y z
def MI.swap{c out α β:T0 Keyed}(m:MI lt c out α β):MI lt c out β α:=⟨(ji out List.perm_append_comm).trans m.p,m.so,m.sb,m.sa,λx hx y hy=>m.le x hx y (by simpa [or_comm]using hy)⟩
def MI.tb{c out u α β:T0 Keyed}(m:MI lt c out α (u++β))(h:∀x∈u,∀y∈α,lt y x=false):MI lt c (out++u) α β:=(m.swap.ta h).swap
def MI.fin{c out α:T0 Keyed}(m:MI lt c out α []):(out++α).Perm c/\Sl lt (out++α):=⟨by simpa using m.p,gR.mpr ⟨m.so,m.sa,λx hx y hy=>m.le x hx y (by simp[hy])⟩⟩
def wK(a:Array Keyed)(i:Nat):(a.extract i a.size).toList=a.toList.drop i:=by simp[cW];exact gy (by simp)
def G2(a:Array Keyed)(i k:Nat):(a.extract i (i+k)).toList=(a.toList.drop i).take k:=by simp[cW]
def vO{a:Array Keyed}{i:Nat}(h:i<a.size):a.toList.drop i=X a i::a.toList.drop (i+1):=by
 have e:X a i=a[i]:=by unfold X;rw[dH a i h];rfl
 rw[dg (by simpa using h),e];simp
def Fi{a:Array Keyed}{i k:Nat}{x:Keyed}(h:x∈(a.toList.drop i).take k):∃j,j<k/\i+j<a.size/\x=X a (i+j):=by obtain⟨j,hj,e⟩:=fP h;rw[cV,gA,b7]at hj;refine⟨j,by lia,by lia,?_⟩;rw[jZ,j3]at e;rw[<-e];unfold X;rw[dH a (i+j) (by lia)];simp
def Sl.x{a:Array Keyed}(s:Sl lt a.toList)(o:Ord lt){i j:Nat}(h:i<=j)(hj:j<a.size):lt (X a j) (X a i)=false:=by
 by_cases e:i=j
 .subst e;exact o.ir _
 .have:=dP.mp s i j (by simp;lia) (by simpa using hj) (by lia);unfold X;rw[dH a i (by lia),dH a j hj]
  simpa using this
def Fin(lt:Keyed->Keyed->Bool)(a b r:Array Keyed):Prop:=r.toList.Perm (a.toList++b.toList)/\Sl lt r.toList
abbrev J(lt:Keyed->Keyed->Bool)(a b out:Array Keyed)(ia ib:Nat):Prop:=MI lt (a.toList++b.toList) out.toList (a.toList.drop ia) (b.toList.drop ib)
def J.hb(m:J lt a b out ia ib)(o:Ord lt)(h:ib<b.size):∀y∈b.toList.drop ib,lt y (X b ib)=false:=λy hy=>by
 have s:=m.sb;rw[vO h]at s hy;rcases br.mp hy with rfl|hy
 .exact o.ir _
 .exact(fZ.mp s).1 y hy
def J.ha(m:J lt a b out ia ib)(o:Ord lt)(h:ia<a.size):∀y∈a.toList.drop ia,lt y (X a ia)=false:=λy hy=>by
 have s:=m.sa;rw[vO h]at s hy;rcases br.mp hy with rfl|hy
 .exact o.ir _
 .exact(fZ.mp s).1 y hy
def J.ak(m:J lt a b out ia ib)(o:Ord lt)(h2:ib<b.size)(h:∀i,i<k->ia+i<a.size->lt (X b ib) (X a (ia+i))=false):J lt a b (out++a.extract ia (ia+k)) (ia+k) ib:=by
 have hb:=m.hb o h2;have m:MI lt (a.toList++b.toList) out.toList ((a.toList.drop ia).take k++(a.toList.drop ia).drop k) (b.toList.drop ib):=by rw[dj];exact m
 have m2:=m.ta λx hx y hy=>by obtain⟨j,h3,h4,rfl⟩:=Fi hx;exact o.tr _ _ _ (h j h3 h4) (hb y hy)
 rw[hJ]at m2;unfold J;rw[bW,G2];exact m2
def J.bk(m:J lt a b out ia ib)(o:Ord lt)(h2:ia<a.size)(h:∀i,i<k->ib+i<b.size->lt (X b (ib+i)) (X a ia)=true):J lt a b (out++b.extract ib (ib+k)) ia (ib+k):=by
 have ha:=m.ha o h2;have m:MI lt (a.toList++b.toList) out.toList (a.toList.drop ia) ((b.toList.drop ib).take k++(b.toList.drop ib).drop k):=by rw[dj];exact m
 have m2:=m.tb λx hx y hy=>by obtain⟨j,h3,h4,rfl⟩:=Fi hx;exact o.as _ _ (o.ll (h j h3 h4) (ha y hy))
 rw[hJ]at m2;unfold J;rw[bW,G2];exact m2
def J.a1(m:J lt a b out ia ib)(o:Ord lt)(h1:ia<a.size)(h2:ib<b.size)(h:lt (X b ib) (X a ia)=false):J lt a b (out.push (X a ia)) (ia+1) ib:=by have hb:=m.hb o h2;unfold J at m;rw[vO h1]at m;unfold J;rw[c7];exact MI.ta (u:=[X a ia]) m λx hx y hy=>by rw[bP.mp hx];exact o.tr _ _ _ h (hb y hy)
def J.b1(m:J lt a b out ia ib)(o:Ord lt)(h1:ia<a.size)(h2:ib<b.size)(h:lt (X b ib) (X a ia)=true):J lt a b (out.push (X b ib)) ia (ib+1):=by have ha:=m.ha o h1;unfold J at m;rw[vO h2]at m;unfold J;rw[c7];exact MI.tb (u:=[X b ib]) m λx hx y hy=>by rw[bP.mp hx];exact o.as _ _ (o.ll h (ha y hy))
def J.fb(m:J lt a b out ia ib)(h:ib=b.size):Fin lt a b (out++a.extract ia a.size++b.extract ib b.size):=by
 subst h;unfold J at m;have e:b.toList.drop b.size=[]:=by simp
 rw[e]at m;unfold Fin;rw[bW,bW,wK,wK,e,bY];exact m.fin
def J.fa(m:J lt a b out ia ib)(h:ia=a.size):Fin lt a b (out++a.extract ia a.size++b.extract ib b.size):=by
 subst h;unfold J at m;have e:a.toList.drop a.size=[]:=by simp
 rw[e]at m;unfold Fin;rw[bW,bW,wK,wK,e,bY];exact m.swap.fin
def J.fl(m:J lt a b out ia ib)(o:Ord lt)(h:ia+1=a.size)(h2:∀y∈b.toList,lt y (X a (a.size - 1))=true):Fin lt a b (out++b.extract ib b.size++a.extract ia a.size):=by
 unfold J at m;have e:a.toList.drop ia=[X a ia]:=by rw[vO (by lia),h];simp
 rw[e]at m;unfold Fin;rw[bW,bW,wK,wK,e];have m2:MI lt (a.toList++b.toList) out.toList [X a ia] (b.toList.drop ib++[]):=by rw[bY];exact m
 have:=(m2.tb λx hx y hy=>by
  rw[bP.mp hy,show ia=a.size - 1 by lia];exact o.as _ _ (h2 x (List.mem_of_mem_drop hx))).fin
 exact this
def Ord.me{lt:Keyed->Keyed->Bool}(o:Ord lt){a b c:Keyed}(h:lt b a=false)(g:lt b c=true):lt a c=true:=by
 cases e:lt a c with
 | true=>rfl
 | false=>exact((o.tr _ _ _ e h).symm.trans g)
def IB{xs:Array Keyed}{lo hi:Nat}(s:So lt xs lo hi)(o:Ord lt){key:Keyed}{i j:Nat}(hl:lo<=i)(h:i<=j)(hj:j<hi)(g:pS lt false key (X xs j)=true):pS lt false key (X xs i)=true:=by have g:(!(lt key (X xs j)))=true:=g;show(!(lt key (X xs i)))=true;rw[o.tr _ _ _ (s i j hl h hj) (by simpa using g)];rfl
def IA{xs:Array Keyed}{lo hi:Nat}(s:So lt xs lo hi)(o:Ord lt){key:Keyed}{i j:Nat}(hl:lo<=i)(h:i<=j)(hj:j<hi)(g:pS lt true key (X xs j)=true):pS lt true key (X xs i)=true:=o.me (s i j hl h hj) g
def G5{a:Array Keyed}(s:Sl lt a.toList)(o:Ord lt){key:Keyed}{i j:Nat}(h:i<=j)(hj:j<a.size)(g:pS lt false key (X a j)=true):pS lt false key (X a i)=true:=by have g:(!(lt key (X a j)))=true:=g;show(!(lt key (X a i)))=true;rw[o.tr _ _ _ (s.x o h hj) (by simpa using g)];rfl
def Bp{a:Array Keyed}(s:Sl lt a.toList)(o:Ord lt){key:Keyed}{i j:Nat}(h:i<=j)(hj:j<a.size)(g:pS lt true key (X a j)=true):pS lt true key (X a i)=true:=o.me (s.x o h hj) g
def FP{st Mi:SortSt}{Q:PUnit->SortSt->Prop}(h:Q ⟨⟩ Mi):wpS (model prog w) A E s (set Mi:StateT SortSt Sem PUnit) Q st:=by unfold wpS;rw[StateT.run_set];exact bj ⟨rfl,h⟩
def JG(o:Ord lt)(C:Cmp prog w A s κ lt P){st:SortSt}(hk:kindOf st=κ){a b:Array Keyed}{Q:Array Keyed->SortSt->Prop}(ha:1<=a.size)(hb:1<=b.size)(sa:Sl lt a.toList)(sb:Sl lt b.toList)(pa:∀x∈a.toList,P x)(pb:∀x∈b.toList,P x) (h1:∀x∈a.toList,lt (X b 0) x=true) (h2:∀y∈b.toList,lt y (X a (a.size - 1))=true) (h:∀out g,Fin lt a b out->Q out (sG st g)):wpS (model prog w) A E s (zO a b) Q st:=by
 have M8:∀g,kindOf (sG st g)=κ:=λ_=>hk;have j0:J lt a b #[X b 0] 0 1:=by have m:J lt a b #[] 0 0:=⟨by simp,.nil,by simpa using sa,by simpa using sb,λx hx=>by simp at hx⟩;exact m.b1 o (by lia) (by lia) (h1 _ (rb (by lia)).2)
 unfold zO;refine bu (hG (dI ⟨rfl,?_⟩));refine bu (pz (by lia) ?_);refine nz (λg=>bv (h _ (gallopOf st) (j0.fb (by simpa using g)))) (λg=>?_);refine nz (λg'=>bv (h _ (gallopOf st) (j0.fl o (by simpa using g') h2))) (λg'=>?_);have g:1≠b.size:=by simpa using g
 have g':1≠a.size:=by simpa using g'
 refine bu (eY ?_);refine bu (ee (cI (I:=λx c Mi=>∃g out ia ib mg,Mi=sG st g/\c=(none,out,ia,ib,mg)/\J lt a b out ia ib/\ib<b.size/\ia+1<a.size/\x+1<=ia+ib) (Q:=λc Mi=>∃g r d,Mi=sG st g/\c=(some r,d)/\Fin lt a b r) ?_ ?_ ⟨gallopOf st,_,0,1,_,rfl,rfl,j0,by lia,by lia,by lia⟩) ?_)
 .clear g g' j0
  rintro x c _ _ hx ⟨g,out,ia,ib,mg,rfl,rfl,j,hib,hia,hs⟩
  refine bu (ee (cI (I:=λy d Mi=>Mi=sG st g/\∃out i j ac bc,d=(none,out,i,j,ac,bc)/\J lt a b out i j/\j<b.size/\i+1<a.size/\ia+ib+y<=i+j) (Q:=λd Mi=>Mi=sG st g/\((∃r e,d=(some r,e)/\Fin lt a b r)\/∃out i j ac bc,d=(none,out,i,j,ac,bc)/\J lt a b out i j/\j<b.size/\i+1<a.size/\ia+ib+1<=i+j)) ?_ ?_ ⟨rfl,out,ia,ib,0,0,rfl,j,hib,hia,by lia⟩) ?_)
  .clear j hib hia
   rintro y d _ _ hy ⟨rfl,out,i,j,ac,bc,rfl,m,hj,hi,hs⟩
   refine bu (pz (by show j<_;lia) (bu (pz (by show i<_;lia) (bu (zm (st:=sG st g) C hk (pb _ (rb (by show j<_;lia)).2) (pa _ (rb (by show i<_;lia)).2) ?_)))));cases e:lt (X b j) (X a i)with
   | true=>
    refine nz (λ_=>?_) (λz=>absurd rfl z);have m1:=m.b1 o (by lia) hj e;refine bu (pz (by show j<_;lia) ?_);refine nz (λz=>bv ⟨rfl,.inl ⟨_,_,rfl,m1.fb (by simpa using z)⟩⟩) (λz=>?_);have z:j+1≠b.size:=by simpa using z
    exact nz (λ_=>bv ⟨rfl,.inr ⟨_,i,j+1,_,_,rfl,m1,by lia,hi,by lia⟩⟩) (λ_=>bv ⟨rfl,_,i,j+1,_,_,rfl,m1,by lia,hi,by lia⟩)
   | false=>
    refine nz (λz=>absurd z (by exact Bool.noConfusion)) (λ_=>?_);have m1:=m.a1 o (by lia) hj e;refine bu (pz (by show i<_;lia) ?_);refine nz (λz=>bv ⟨rfl,.inl ⟨_,_,rfl,m1.fl o (by simpa using z) h2⟩⟩) (λz=>?_);have z:i+1+1≠a.size:=by simpa using z
    exact nz (λ_=>bv ⟨rfl,.inr ⟨_,i+1,j,_,_,rfl,m1,hj,by lia,by lia⟩⟩) (λ_=>bv ⟨rfl,_,i+1,j,_,_,rfl,m1,hj,by lia,by lia⟩)
  .rintro d _ ⟨rfl,out,i,j,ac,bc,rfl,m,hj,hi,hs⟩
   exact⟨rfl,.inr ⟨_,_,_,_,_,rfl,m,hj,hi,by lia⟩⟩
  .rintro d _ ⟨rfl,⟨r,e,rfl,hr⟩|⟨out,i,j,ac,bc,rfl,m,hj,hi,MM⟩⟩
   .exact bv ⟨g,r,_,rfl,rfl,hr⟩
   .refine bu (hG (dI ⟨rfl,?_⟩));refine bu (ee (cI (I:=λy d Mi=>∃g,Mi=sG st g/\∃out i j mg ac bc,d=(none,out,i,j,mg,ac,bc)/\J lt a b out i j/\j<b.size/\i+1<a.size/\ia+ib+1<=i+j) (Q:=λd Mi=>∃g,Mi=sG st g/\((∃r e,d=(some r,e)/\Fin lt a b r)\/∃out i j mg ac bc,d=(none,out,i,j,mg,ac,bc)/\J lt a b out i j/\j<b.size/\i+1<a.size/\ia+ib+1<=i+j)) ?_ ?_ ⟨g,rfl,out,i,j,mg+1,ac,bc,rfl,m,hj,hi,MM⟩) ?_)
    .clear m hj hi MM
     rintro y d _ _ hy ⟨g,rfl,out,i,j,mg,ac,bc,rfl,m,hj,hi,MM⟩
     refine nz (λ_=>?_) (λ_=>?_)
     all_goals
      refine bu (dC (bu (pz hj (bu (uz C (M8 _) (by show i+(a.size - i)<=a.size;lia) pa (pb _ (rb hj).2) (by show 0<a.size - i;lia) (λt u h1 h2 h3=>G5 sa o (by lia) (by have h2:u<a.size - i:=h2;show i+u<_;lia) h3) λk k1 k2=>?_)))));have kf:∀t,t<k->i+t<a.size->lt (X b j) (X a (i+t))=false:=λt ht h=>by simpa [pS,ht]using k2 t (by show t<a.size - i;lia)
      have kt:i+k<a.size->lt (X b j) (X a (i+k))=true:=λh=>by simpa [pS]using k2 k (by show k<a.size - i;lia)
      have k1:k<=a.size - i:=k1;refine nz (λk0=>?_) (λk0=>?_)
      .have m1:=m.ak o hj kf;refine nz (λz=>bv ⟨_,rfl,.inl ⟨_,_,rfl,m1.fl o (by simpa using z) h2⟩⟩) (λz=>nz (λz2=>bv ⟨_,rfl,.inl ⟨_,_,rfl,m1.fa (by simpa using z2)⟩⟩) (λz2=>?_));have b1:i+k+1<a.size:=by
        have z:i+k+1≠a.size:=by simpa using z
        have z2:i+k≠a.size:=by simpa using z2
        lia
       have e1:=kt (by lia);have s1:ia+ib+1<=i+k+j:=by lia
       refine bu (pz hj ?_);have m2:=m1.b1 o (ce b1) hj e1;refine nz (λz=>bv ⟨_,rfl,.inl ⟨_,_,rfl,m2.fb (by simpa using z)⟩⟩) (λz=>?_);have OC:j+1<b.size:=by
        have z:j+1≠b.size:=by simpa using z
        lia
       refine bu (pz (ce b1) (bu (uz C (M8 _) (by show j+1+(b.size - (j+1))<=b.size;lia) pb (pa _ (rb (ce b1)).2) (by show 0<b.size - (j+1);lia) (λt u h1 h2 h3=>Bp sb o (by lia) (by have h2:u<b.size - (j+1):=h2;show j+1+u<_;lia) h3) λl l1 l2=>?_)));have m3:=m2.bk (k:=l) o (ce b1) λt ht h=>by simpa [pS,ht]using l2 t (by show t<b.size - (j+1);lia)
       have lf:=λh:j+1+l<b.size=>l2 l (by show l<b.size - (j+1);lia);refine nz (λl0=>?_) (λl0=>?_)
       .refine nz (λz=>bv ⟨_,rfl,.inl ⟨_,_,rfl,m3.fb (by simpa using z)⟩⟩) (λz=>?_);have NO:j+1+l<b.size:=by
         have z:j+1+l≠b.size:=by simpa using z
         have l1:l<=b.size - (j+1):=l1;lia
        refine bu (pz (ce b1) ?_);have m4:=m3.a1 o (ce b1) NO (by simpa [pS]using lf NO);refine nz (λz=>bv ⟨_,rfl,.inl ⟨_,_,rfl,m4.fl o (by simpa using z) h2⟩⟩) (λz=>?_);have b2:=gc b1 (by simpa using z);exact nz (λ_=>bv ⟨_,rfl,.inr ⟨_,_,_,_,_,_,rfl,m4,NO,b2,by(try dsimp only);lia⟩⟩) (λ_=>bv ⟨_,rfl,_,_,_,_,_,_,rfl,m4,NO,b2,by(try dsimp only);lia⟩)
       .obtain rfl:l=0:=by lia
        refine bu (pz (ce b1) ?_);have m4:=m2.a1 o (ce b1) OC (by simpa [pS]using lf OC);refine nz (λz=>bv ⟨_,rfl,.inl ⟨_,_,rfl,m4.fl o (by simpa using z) h2⟩⟩) (λz=>?_);have b2:=gc b1 (by simpa using z);exact nz (λ_=>bv ⟨_,rfl,.inr ⟨_,_,_,_,_,_,rfl,m4,OC,b2,by(try dsimp only);lia⟩⟩) (λ_=>bv ⟨_,rfl,_,_,_,_,_,_,rfl,m4,OC,b2,by(try dsimp only);lia⟩)
      .obtain rfl:k=0:=by lia
       have m1:=m;have b1:=hi;have e1:=kt (by lia);have s1:=MM;refine bu (pz hj ?_);have m2:=m1.b1 o (ce b1) hj e1;refine nz (λz=>bv ⟨_,rfl,.inl ⟨_,_,rfl,m2.fb (by simpa using z)⟩⟩) (λz=>?_);have OC:j+1<b.size:=by
        have z:j+1≠b.size:=by simpa using z
        lia
       refine bu (pz (ce b1) (bu (uz C (M8 _) (by show j+1+(b.size - (j+1))<=b.size;lia) pb (pa _ (rb (ce b1)).2) (by show 0<b.size - (j+1);lia) (λt u h1 h2 h3=>Bp sb o (by lia) (by have h2:u<b.size - (j+1):=h2;show j+1+u<_;lia) h3) λl l1 l2=>?_)));have m3:=m2.bk (k:=l) o (ce b1) λt ht h=>by simpa [pS,ht]using l2 t (by show t<b.size - (j+1);lia)
       have lf:=λh:j+1+l<b.size=>l2 l (by show l<b.size - (j+1);lia);refine nz (λl0=>?_) (λl0=>?_)
       .refine nz (λz=>bv ⟨_,rfl,.inl ⟨_,_,rfl,m3.fb (by simpa using z)⟩⟩) (λz=>?_);have NO:j+1+l<b.size:=by
         have z:j+1+l≠b.size:=by simpa using z
         have l1:l<=b.size - (j+1):=l1;lia
        refine bu (pz (ce b1) ?_);have m4:=m3.a1 o (ce b1) NO (by simpa [pS]using lf NO);refine nz (λz=>bv ⟨_,rfl,.inl ⟨_,_,rfl,m4.fl o (by simpa using z) h2⟩⟩) (λz=>?_);have b2:=gc b1 (by simpa using z);exact nz (λ_=>bv ⟨_,rfl,.inr ⟨_,_,_,_,_,_,rfl,m4,NO,b2,by(try dsimp only);lia⟩⟩) (λ_=>bv ⟨_,rfl,_,_,_,_,_,_,rfl,m4,NO,b2,by(try dsimp only);lia⟩)
       .obtain rfl:l=0:=by lia
        refine bu (pz (ce b1) ?_);have m4:=m2.a1 o (ce b1) OC (by simpa [pS]using lf OC);refine nz (λz=>bv ⟨_,rfl,.inl ⟨_,_,rfl,m4.fl o (by simpa using z) h2⟩⟩) (λz=>?_);have b2:=gc b1 (by simpa using z);exact nz (λ_=>bv ⟨_,rfl,.inr ⟨_,_,_,_,_,_,rfl,m4,OC,b2,by(try dsimp only);lia⟩⟩) (λ_=>bv ⟨_,rfl,_,_,_,_,_,_,rfl,m4,OC,b2,by(try dsimp only);lia⟩)
    .rintro d _ ⟨g,rfl,out,i,j,mg,ac,bc,rfl,m,hj,hi,MM⟩
     exact⟨g,rfl,.inr ⟨_,_,_,_,_,_,rfl,m,hj,hi,MM⟩⟩
    .rintro d _ ⟨g,rfl,⟨r,e,rfl,hr⟩|⟨out,i,j,mg,ac,bc,rfl,m,hj,hi,MM⟩⟩
     .exact bv ⟨g,r,_,rfl,rfl,hr⟩
     .exact bu (dC (bv ⟨_,out,i,j,_,rfl,rfl,m,hj,hi,by lia⟩))
 .rintro c _ ⟨g,out,ia,ib,mg,rfl,rfl,j,hib,hia,hs⟩
  lia
 .rintro c _ ⟨g,r,d,rfl,rfl,hr⟩
  exact bv (h r g hr)
abbrev dl(lt:Keyed->Keyed->Bool):Keyed->Keyed->Bool:=λx y=>lt y x
def DQ{a:Array Keyed}{n:Nat}(h:n<a.size):(a.toList.take (n+1)).reverse=X a n::(a.toList.take n).reverse:=by
 rw[eJ,d6];have:a.toList[n]?=some (X a n):=by rw[cw];exact(rb h).1
 rw[this];rfl
def zu{a:Array Keyed}{n:Nat}{x:Keyed}(h:x∈a.toList.take n):∃i,i<n/\i<a.size/\x=X a i:=by obtain⟨i,h1,h2,h3⟩:=Fi (i:=0) (k:=n) (by simpa using h);exact⟨i,h1,by lia,by rw[h3,jN]⟩
def JM{a:Array Keyed}{n k:Nat}{x:Keyed}(h:x∈(a.toList.take n).drop k):∃i,k<=i/\i<n/\i<a.size/\x=X a i:=by obtain⟨i,hi,e⟩:=fP h;rw[gA,cV,b7]at hi;refine⟨k+i,by lia,by lia,by lia,?_⟩;rw[j3,jZ]at e;rw[<-e];unfold X;rw[dH a (k+i) (by lia)];simp
abbrev H(lt:Keyed->Keyed->Bool)(a b out:Array Keyed)(na nb:Nat):Prop:=MI (dl lt) (a.toList++b.toList) out.toList (a.toList.take na).reverse (b.toList.take nb).reverse
def H.a1(m:H lt a b out (na+1) nb)(h:na<a.size)(g:∀i,i<nb->i<b.size->lt (X a na) (X b i)=false):H lt a b (out.push (X a na)) na nb:=by unfold H at m ⊢;rw[DQ h]at m;rw[c7];exact MI.ta (u:=[X a na]) m λx hx y hy=>by rw[bP.mp hx];obtain⟨i,h1,h2,rfl⟩:=zu (dM.mp hy);exact g i h1 h2
def H.b1(m:H lt a b out na (nb+1))(h:nb<b.size)(g:∀i,i<na->i<a.size->lt (X b nb) (X a i)=false):H lt a b (out.push (X b nb)) na nb:=by unfold H at m ⊢;rw[DQ h]at m;rw[c7];exact MI.tb (u:=[X b nb]) m λx hx y hy=>by rw[bP.mp hx];obtain⟨i,h1,h2,rfl⟩:=zu (dM.mp hy);exact g i h1 h2
def DJ(l:T0 Keyed){k n:Nat}(h:k<=n):(l.take n).reverse=((l.take n).drop k).reverse++(l.take k).reverse:=by rw[<-d6];congr 1;rw[show l.take k=(l.take n).take k by rw[List.take_take,kN h],dj]
def Hi(a:Array Keyed)(k n:Nat):((a.extract k n).reverse).toList=((a.toList.take n).drop k).reverse:=by rw[fJ,fK,cW,List.drop_take]
def H.ak(m:H lt a b out na nb)(h:k<=na)(g:∀i j,k<=i->i<na->i<a.size->j<nb->j<b.size->lt (X a i) (X b j)=false):H lt a b (out++(a.extract k na).reverse) k nb:=by unfold H at m ⊢;rw[DJ _ h]at m;rw[bW,Hi];exact m.ta λx hx y hy=>by obtain⟨i,h1,h2,h3,rfl⟩:=JM (dM.mp hx);obtain⟨j,h4,h5,rfl⟩:=zu (dM.mp hy);exact g i j h1 h2 h3 h4 h5
def H.bk(m:H lt a b out na nb)(h:k<=nb)(g:∀i j,k<=i->i<nb->i<b.size->j<na->j<a.size->lt (X b i) (X a j)=false):H lt a b (out++(b.extract k nb).reverse) na k:=by unfold H at m ⊢;rw[DJ _ h]at m;rw[bW,Hi];exact m.tb λx hx y hy=>by obtain⟨i,h1,h2,h3,rfl⟩:=JM (dM.mp hx);obtain⟨j,h4,h5,rfl⟩:=zu (dM.mp hy);exact g i j h1 h2 h3 h4 h5
def xJ{r:Array Keyed}{l:T0 Keyed}(e:r.toList=l.reverse)(h:l.Perm (a.toList++b.toList)/\Sl (dl lt) l):Fin lt a b r:=by unfold Fin;rw[e];exact⟨(iw l).trans h.1,gH.mpr h.2⟩
def xb(a:Array Keyed)(n:Nat):(a.extract 0 n).toList=a.toList.take n:=by simp[cW]
def H.fa(m:H lt a b out na nb)(h:na=0):Fin lt a b (a.extract 0 na++b.extract 0 nb++out.reverse):=by subst h;refine xJ ?_ (MI.fin m.swap);rw[bW,bW,xb,xb,fJ,d6,fL];rfl
def H.fb(m:H lt a b out na nb)(h:nb=0):Fin lt a b (a.extract 0 na++b.extract 0 nb++out.reverse):=by subst h;refine xJ ?_ (MI.fin m);rw[bW,bW,xb,xb,fJ,d6,fL];simp
def H.ff(m:H lt a b out na nb)(h:nb=1)(hb:1<=b.size)(h1:∀x∈a.toList,lt x (X b 0)=false):Fin lt a b (b.extract 0 nb++a.extract 0 na++out.reverse):=by
 subst h;have m2:MI (dl lt) (a.toList++b.toList) out.toList ((a.toList.take na).reverse++[]) (b.toList.take 1).reverse:=by rw[bY];exact m
 refine xJ ?_ (MI.fin (m2.ta λx hx y hy=>?_).swap)
 .rw[bW,bW,xb,xb,fJ,d6,d6,fL,fL];simp
 .obtain⟨i,i1,i2,rfl⟩:=zu (dM.mp hy);obtain rfl:i=0:=by lia
  exact h1 x (js (dM.mp hx))
def yK:Array Keyed->Array Keyed->StateT SortSt Sem (Array Keyed):=sortPriv% PySem.Builtin.mergeHi
def Ka(o:Ord lt)(C:Cmp prog w A s κ lt P){st:SortSt}(hk:kindOf st=κ){a b:Array Keyed}{Q:Array Keyed->SortSt->Prop}(ha:1<=a.size)(hb:1<=b.size)(sa:Sl lt a.toList)(sb:Sl lt b.toList)(pa:∀x∈a.toList,P x)(pb:∀x∈b.toList,P x) (h1:∀x∈a.toList,lt (X b 0) x=true) (h2:∀y∈b.toList,lt y (X a (a.size - 1))=true) (h:∀out g,Fin lt a b out->Q out (sG st g)):wpS (model prog w) A E s (yK a b) Q st:=by
 have M8:∀g,kindOf (sG st g)=κ:=λ_=>hk;have Nz:∀x∈a.toList,lt x (X b 0)=false:=λx hx=>o.as _ _ (h1 x hx);have j0:H lt a b #[X a (a.size - 1)] (a.size - 1) b.size:=by
  have m:H lt a b #[] (a.size - 1+1) b.size:=by have e1:a.toList.take (a.size - 1+1)=a.toList:=gy (by simp;lia);have e2:b.toList.take b.size=b.toList:=gy (by simp);unfold H;rw[e1,e2];exact⟨by simpa using(iw a.toList).append (iw b.toList),.nil,gH.mpr sa,gH.mpr sb,λx hx=>by simp at hx⟩
  exact m.a1 (by lia) λi _ hi=>o.as _ _ (h2 _ (rb hi).2)
 unfold yK;refine bu (hG (dI ⟨rfl,?_⟩));refine bu (pz (by lia) ?_);refine nz (λg=>bv (h _ (gallopOf st) (j0.fa (by simpa using g)))) (λg=>?_);refine nz (λg'=>bv (h _ (gallopOf st) (j0.ff (by simpa using g') hb Nz))) (λg'=>?_);have g:a.size - 1≠0:=by simpa using g
 have g':b.size≠1:=by simpa using g'
 refine bu (eY ?_);obtain⟨i0,e0⟩:∃i,a.size - 1=i+1:=⟨a.size - 2,by lia⟩;obtain⟨n0,f0⟩:∃j,b.size=j+2:=⟨b.size - 2,by lia⟩;refine bu (ee (cI (I:=λx c Mi=>∃g i j out mg,Mi=sG st g/\c=(none,i+1,j+2,out,mg)/\H lt a b out (i+1) (j+2)/\i+1<=a.size/\j+2<=b.size/\x+1+(i+1+(j+2))<=a.size+b.size) (Q:=λc Mi=>∃g r d,Mi=sG st g/\c=(some r,d)/\Fin lt a b r) ?_ ?_ ⟨gallopOf st,i0,n0,#[X a (a.size - 1)],_,rfl,by rw[<-e0,<-f0],by rw[<-e0,<-f0];exact j0,by lia,by lia,by lia⟩) ?_)
 .clear g g' j0 e0 f0
  rintro x c _ _ hx ⟨g,ia,ib,out,mg,rfl,rfl,m,hia,hib,hs⟩
  refine bu (ee (cI (I:=λy d Mi=>Mi=sG st g/\∃i j out ac bc,d=(none,i+1,j+2,out,ac,bc)/\H lt a b out (i+1) (j+2)/\i+1<=a.size/\j+2<=b.size/\y+(i+j)<=ia+ib) (Q:=λd Mi=>Mi=sG st g/\((∃r e,d=(some r,e)/\Fin lt a b r)\/∃i j out ac bc,d=(none,i+1,j+2,out,ac,bc)/\H lt a b out (i+1) (j+2)/\i+1<=a.size/\j+2<=b.size/\1+(i+j)<=ia+ib)) ?_ ?_ ⟨rfl,ia,ib,out,0,0,rfl,m,hia,hib,by lia⟩) ?_)
  .clear m
   rintro y d _ _ hy ⟨rfl,i,j,out,ac,bc,rfl,m,hi,hj,hs⟩
   have MN:j+1<b.size:=by lia
   refine bu (pz MN (bu (pz (fw hi) (bu (zm (st:=sG st g) C hk (pb _ (rb MN).2) (pa _ (rb (fw hi)).2) ?_)))));refine nz (λe=>?_) (λe=>?_)
   .have e:lt (X b (j+1)) (X a i)=true:=e;have m1:=m.a1 (fw hi) λt t1 t2=>o.tr _ _ _ (sb.x o (i:=t) (by lia) MN) (o.as _ _ e);refine bu (pz (fw hi) ?_);refine nz (λz=>bv ⟨rfl,.inl ⟨_,_,rfl,m1.fa (by simpa using z)⟩⟩) (λz=>?_);obtain⟨i,rfl⟩:∃t,i=t+1:=⟨i - 1,by
      have z:i≠0:=by simpa using z
      lia⟩
    exact nz (λ_=>bv ⟨rfl,.inr ⟨i,j,_,_,_,rfl,m1,by lia,hj,by lia⟩⟩) (λ_=>bv ⟨rfl,i,j,_,_,_,rfl,m1,by lia,hj,by lia⟩)
   .have e:lt (X b (j+1)) (X a i)=false:=dD.mpr e;have m1:=m.b1 MN λt t1 t2=>o.tr _ _ _ (sa.x o (i:=t) (by lia) (fw hi)) e;refine bu (pz MN ?_);refine nz (λz=>bv ⟨rfl,.inl ⟨_,_,rfl,m1.ff (by simpa using z) hb Nz⟩⟩) (λz=>?_);obtain⟨j,rfl⟩:∃t,j=t+1:=⟨j - 1,by
      have z:j≠0:=by simpa using z
      lia⟩
    exact nz (λ_=>bv ⟨rfl,.inr ⟨i,j,_,_,_,rfl,m1,hi,by lia,by lia⟩⟩) (λ_=>bv ⟨rfl,i,j,_,_,_,rfl,m1,hi,by lia,by lia⟩)
  .rintro d _ ⟨rfl,i,j,out,ac,bc,rfl,m,hi,hj,hs⟩
   exact⟨rfl,.inr ⟨_,_,_,_,_,rfl,m,hi,hj,by lia⟩⟩
  .rintro d _ ⟨rfl,⟨r,e,rfl,hr⟩|⟨i,j,out,ac,bc,rfl,m,hi,hj,MM⟩⟩
   .exact bv ⟨g,r,_,rfl,rfl,hr⟩
   .refine bu (hG (dI ⟨rfl,?_⟩));refine bu (ee (cI (I:=λy d Mi=>∃g,Mi=sG st g/\∃i j out mg ac bc,d=(none,i+1,j+2,out,mg,ac,bc)/\H lt a b out (i+1) (j+2)/\i+1<=a.size/\j+2<=b.size/\1+(i+j)<=ia+ib) (Q:=λd Mi=>∃g,Mi=sG st g/\((∃r e,d=(some r,e)/\Fin lt a b r)\/∃i j out mg ac bc,d=(none,i+1,j+2,out,mg,ac,bc)/\H lt a b out (i+1) (j+2)/\i+1<=a.size/\j+2<=b.size/\1+(i+j)<=ia+ib)) ?_ ?_ ⟨g,rfl,i,j,out,mg+1,ac,bc,rfl,m,hi,hj,MM⟩) ?_)
    .clear m hi hj MM
     rintro y d _ _ hy ⟨g,rfl,i,j,out,mg,ac,bc,rfl,m,hi,hj,MM⟩
     have MN:j+1<b.size:=by lia
     refine nz (λ_=>?_) (λ_=>?_)
     all_goals
      refine bu (dC (bu (pz MN (bu (uz C (M8 _) (by show 0+(i+1)<=a.size;lia) pa (pb _ (rb MN).2) (by show i<i+1;lia) (λt u h1 h2 h3=>G5 sa o (by lia) (by have h2:u<i+1:=h2;lia) h3) λk k1 k2=>?_)))));have k1:k<=i+1:=k1;have kf:∀t,t<k->lt (X b (j+1)) (X a t)=false:=λt ht=>by simpa [pS,ht]using k2 t (by show t<i+1;lia)
      have kt:∀t,k<=t->t<i+1->lt (X b (j+1)) (X a t)=true:=λt h h'=>by simpa [pS,kO.mpr h]using k2 t h'
      refine nz (λk0=>?_) (λk0=>?_)
      .have m1:=m.ak k1 λt u t1 t2 _ u1 _=>o.tr _ _ _ (sb.x o (i:=u) (by lia) MN) (o.as _ _ (kt t t1 t2));refine nz (λz=>bv ⟨_,rfl,.inl ⟨_,_,rfl,m1.fa (by simpa using z)⟩⟩) (λz=>?_);obtain⟨i1,rfl⟩:∃t,k=t+1:=⟨k - 1,by
         have z:k≠0:=by simpa using z
         lia⟩
       refine bu (pz MN ?_);have m2:=m1.b1 MN λt t1 _=>kf t (by lia);refine nz (λz=>bv ⟨_,rfl,.inl ⟨_,_,rfl,m2.ff (by simpa using z) hb Nz⟩⟩) (λz=>?_);obtain⟨j1,rfl⟩:∃t,j=t+1:=⟨j - 1,by
         have z:j≠0:=by simpa using z
         lia⟩
       have Np:i1<a.size:=by lia
       refine bu (pz Np (bu (uz C (M8 _) (by show 0+(j1+2)<=b.size;lia) pb (pa _ (rb Np).2) (by show j1+1<j1+2;lia) (λt u h1 h2 h3=>Bp sb o (by lia) (by have h2:u<j1+2:=h2;lia) h3) λl l1 l2=>?_)));have l1:l<=j1+2:=l1;have Pd:∀t,t<l->lt (X b t) (X a i1)=true:=λt ht=>by simpa [pS,ht]using l2 t (by show t<j1+2;lia)
       have lf:∀t,l<=t->t<j1+2->lt (X b t) (X a i1)=false:=λt h h'=>by simpa [pS,kO.mpr h]using l2 t h'
       refine nz (λl0=>?_) (λl0=>?_)
       .have m3:=m2.bk l1 λt u t1 t2 _ u1 _=>o.tr _ _ _ (sa.x o (i:=u) (by lia) Np) (lf t t1 t2);refine nz (λz=>bv ⟨_,rfl,.inl ⟨_,_,rfl,m3.ff (by simpa using z) hb Nz⟩⟩) (λz=>nz (λz2=>bv ⟨_,rfl,.inl ⟨_,_,rfl,m3.fb (by simpa using z2)⟩⟩) (λz2=>?_));obtain⟨j2,rfl⟩:∃t,l=t+2:=⟨l - 2,by
          have z:l≠1:=by simpa using z
          have z2:l≠0:=by simpa using z2
          lia⟩
        refine bu (pz Np ?_);have m4:=m3.a1 Np λt t1 _=>o.as _ _ (Pd t t1);refine nz (λz=>bv ⟨_,rfl,.inl ⟨_,_,rfl,m4.fa (by simpa using z)⟩⟩) (λz=>?_);obtain⟨i2,rfl⟩:∃t,i1=t+1:=⟨i1 - 1,by
          have z:i1≠0:=by simpa using z
          lia⟩
        exact nz (λ_=>bv ⟨_,rfl,.inr ⟨i2,j2,_,_,_,_,rfl,m4,by lia,by lia,by lia⟩⟩) (λ_=>bv ⟨_,rfl,i2,j2,_,_,_,_,rfl,m4,by lia,by lia,by lia⟩)
       .obtain rfl:l=j1+2:=by have l0:¬j1+2 - l>0:=l0;lia
        have m3:=m2;obtain⟨j2,e2⟩:∃t,t=j1:=⟨_,rfl⟩;subst e2;refine bu (pz Np ?_);have m4:=m3.a1 Np λt t1 _=>o.as _ _ (Pd t t1);refine nz (λz=>bv ⟨_,rfl,.inl ⟨_,_,rfl,m4.fa (by simpa using z)⟩⟩) (λz=>?_);obtain⟨i2,rfl⟩:∃t,i1=t+1:=⟨i1 - 1,by
          have z:i1≠0:=by simpa using z
          lia⟩
        exact nz (λ_=>bv ⟨_,rfl,.inr ⟨i2,j2,_,_,_,_,rfl,m4,by lia,by lia,by lia⟩⟩) (λ_=>bv ⟨_,rfl,i2,j2,_,_,_,_,rfl,m4,by lia,by lia,by lia⟩)
      .obtain rfl:k=i+1:=by have k0:¬i+1 - k>0:=k0;lia
       have m1:=m;obtain⟨i1,e1⟩:∃t,t=i:=⟨_,rfl⟩;subst e1;refine bu (pz MN ?_);have m2:=m1.b1 MN λt t1 _=>kf t (by lia);refine nz (λz=>bv ⟨_,rfl,.inl ⟨_,_,rfl,m2.ff (by simpa using z) hb Nz⟩⟩) (λz=>?_);obtain⟨j1,rfl⟩:∃t,j=t+1:=⟨j - 1,by
         have z:j≠0:=by simpa using z
         lia⟩
       have Np:i1<a.size:=by lia
       refine bu (pz Np (bu (uz C (M8 _) (by show 0+(j1+2)<=b.size;lia) pb (pa _ (rb Np).2) (by show j1+1<j1+2;lia) (λt u h1 h2 h3=>Bp sb o (by lia) (by have h2:u<j1+2:=h2;lia) h3) λl l1 l2=>?_)));have l1:l<=j1+2:=l1;have Pd:∀t,t<l->lt (X b t) (X a i1)=true:=λt ht=>by simpa [pS,ht]using l2 t (by show t<j1+2;lia)
       have lf:∀t,l<=t->t<j1+2->lt (X b t) (X a i1)=false:=λt h h'=>by simpa [pS,kO.mpr h]using l2 t h'
       refine nz (λl0=>?_) (λl0=>?_)
       .have m3:=m2.bk l1 λt u t1 t2 _ u1 _=>o.tr _ _ _ (sa.x o (i:=u) (by lia) Np) (lf t t1 t2);refine nz (λz=>bv ⟨_,rfl,.inl ⟨_,_,rfl,m3.ff (by simpa using z) hb Nz⟩⟩) (λz=>nz (λz2=>bv ⟨_,rfl,.inl ⟨_,_,rfl,m3.fb (by simpa using z2)⟩⟩) (λz2=>?_));obtain⟨j2,rfl⟩:∃t,l=t+2:=⟨l - 2,by
          have z:l≠1:=by simpa using z
          have z2:l≠0:=by simpa using z2
          lia⟩
        refine bu (pz Np ?_);have m4:=m3.a1 Np λt t1 _=>o.as _ _ (Pd t t1);refine nz (λz=>bv ⟨_,rfl,.inl ⟨_,_,rfl,m4.fa (by simpa using z)⟩⟩) (λz=>?_);obtain⟨i2,rfl⟩:∃t,i1=t+1:=⟨i1 - 1,by
          have z:i1≠0:=by simpa using z
          lia⟩
        exact nz (λ_=>bv ⟨_,rfl,.inr ⟨i2,j2,_,_,_,_,rfl,m4,by lia,by lia,by lia⟩⟩) (λ_=>bv ⟨_,rfl,i2,j2,_,_,_,_,rfl,m4,by lia,by lia,by lia⟩)
       .obtain rfl:l=j1+2:=by have l0:¬j1+2 - l>0:=l0;lia
        have m3:=m2;obtain⟨j2,e2⟩:∃t,t=j1:=⟨_,rfl⟩;subst e2;refine bu (pz Np ?_);have m4:=m3.a1 Np λt t1 _=>o.as _ _ (Pd t t1);refine nz (λz=>bv ⟨_,rfl,.inl ⟨_,_,rfl,m4.fa (by simpa using z)⟩⟩) (λz=>?_);obtain⟨i2,rfl⟩:∃t,i1=t+1:=⟨i1 - 1,by
          have z:i1≠0:=by simpa using z
          lia⟩
        exact nz (λ_=>bv ⟨_,rfl,.inr ⟨i2,j2,_,_,_,_,rfl,m4,by lia,by lia,by lia⟩⟩) (λ_=>bv ⟨_,rfl,i2,j2,_,_,_,_,rfl,m4,by lia,by lia,by lia⟩)
    .rintro d _ ⟨g,rfl,i,j,out,mg,ac,bc,rfl,m,hi,hj,MM⟩
     exact⟨g,rfl,.inr ⟨_,_,_,_,_,_,rfl,m,hi,hj,MM⟩⟩
    .rintro d _ ⟨g,rfl,⟨r,e,rfl,hr⟩|⟨i,j,out,mg,ac,bc,rfl,m,hi,hj,MM⟩⟩
     .exact bv ⟨g,r,_,rfl,rfl,hr⟩
     .exact bu (dC (bv ⟨_,i,j,out,_,rfl,rfl,m,hi,hj,by lia⟩))
 .rintro c _ ⟨g,i,j,out,mg,rfl,rfl,m,hi,hj,hs⟩
  lia
 .rintro c _ ⟨g,r,d,rfl,rfl,hr⟩
  exact bv (h r g hr)
def put(xs r:Array Keyed)(s:Nat):Array Keyed:=r.toList.zipIdx.foldl (λa (p:Keyed×Nat)=>a.setIfInBounds (s+p.2) p.1) xs
theorem CY(s t:Nat):∀(l:T0 Keyed) (n:Nat) (xs:Array Keyed),((l.zipIdx n).foldl (λa (p:Keyed×Nat)=>a.setIfInBounds (s+p.2) p.1) xs)[t]?=if s+n<=t/\t<s+n+l.length/\t<xs.size then l[t - (s+n)]? else xs[t]?
 | [],n,xs=>by rw[bq (by simp;lia)];rfl
 | p::l,n,xs=>by
  rw[iL,dF,CY s t l (n+1),Array.size_setIfInBounds,Array.getElem?_setIfInBounds,bT];dsimp only;by_cases h:s+n=t
  .subst h;rw[bq (by lia),bw rfl];by_cases hs:s+n<xs.size
   .rw[bw hs,bw (by lia),k8];rfl
   .rw[bq hs,bq (by lia)];exact(getElem?_neg xs _ hs).symm
  .rw[bq h];by_cases g:s+(n+1)<=t/\t<s+(n+1)+l.length/\t<xs.size
   .rw[bw g,bw (by lia),show t - (s+n)=t - (s+(n+1))+1 by lia];rfl
   .rw[bq g,bq (by lia)]
def C'{xs r:Array Keyed}{s:Nat}(h:s+r.size<=xs.size)(t:Nat):(put xs r s)[t]?=if s<=t/\t<s+r.size then r[t - s]? else xs[t]?:=by
 have e:=CY s t r.toList 0 xs;unfold put;rw[e,b7,Nat.add_zero];by_cases g:s<=t/\t<s+r.size
 .rw[bw g,bw (by lia),cw]
 .rw[bq g,bq (by lia)]
def Hc{xs r:Array Keyed}{s:Nat}(h:s+r.size<=xs.size)(t:Nat):X (put xs r s) t=if s<=t/\t<s+r.size then X r (t - s)else X xs t:=by
 have e:=C' h t;split
 .rename_i g;rw[bw g]at e;exact zf e
 .rename_i g;rw[bq g]at e;exact zf e
def Jn{xs r:Array Keyed}{s:Nat}(h:s+r.size<=xs.size)(p:r.toList.Perm ((xs.toList.drop s).take r.size)):(put xs r s).Perm xs:=by
 have e:(put xs r s).toList=xs.toList.take s++(r.toList++(xs.toList.drop s).drop r.size):=by
  refine iv λt=>?_;rw[cw,C' h,jt,jt,cV,b7,b7,hJ,kN (by lia),List.getElem?_drop];by_cases h1:t<s
  .rw[bq (by lia),bw h1,iD h1,cw]
  .rw[bq h1];by_cases h2:t - s<r.size
   .rw[bw (by lia),bw h2,cw]
   .rw[bq (by lia),bq h2,show s+r.size+(t - s - r.size)=t by lia,cw]
 rw[eH,e];have e2:xs.toList=xs.toList.take s++((xs.toList.drop s).take r.size++(xs.toList.drop s).drop r.size):=by rw[dj,dj]
 refine List.Perm.trans ?_ (kP e2.symm);exact(p.append_right _).append_left _
def Dj{xs:Array Keyed}{u v i:Nat}(hv:v<=xs.size)(h:u+i<v):X (xs.extract u v) i=X xs (u+i):=by unfold X;rw[Array.getElem?_extract_of_lt (by lia),dH xs (u+i) (by lia)]
def So.sl{xs:Array Keyed}{u v:Nat}(s:So lt xs u v)(hv:v<=xs.size):Sl lt (xs.extract u v).toList:=by
 refine dP.mpr λi j hi hj MS=>?_;have MN:u+j<v:=by rw[b7,h9]at hj;lia
 have e:∀t (ht:t<(xs.extract u v).toList.length),u+t<v->(xs.extract u v).toList[t]=X xs (u+t):=λt ht h=>by rw[<-Dj hv h];unfold X;rw[dH _ t (by rw[b7]at ht;exact ht)];simp
 rw[e i hi (by lia),e j hj MN];exact s _ _ (by lia) (by lia) MN
def DX{xs:Array Keyed}{u v:Nat}{x:Keyed}(h:x∈(xs.extract u v).toList):∃t,u<=t/\t<v/\t<xs.size/\x=X xs t:=by rw[fK,cW]at h;obtain⟨j,h1,h2,rfl⟩:=Fi h;exact⟨u+j,by lia,by lia,h2,rfl⟩
def JS(o:Ord lt)(C:Cmp prog w A s κ lt P){st:SortSt}(b:Bs κ P a₀ st){i sa na sb nb p q:Nat}{Q:Bool->SortSt->Prop}(p1:(pendingOf st)[i]?=some (sa,na,p))(p2:(pendingOf st)[i+1]?=some (sb,nb,q))(e:sb=sa+na)(n1:1<=na)(n2:1<=nb)(hz:sb+nb<=a₀.size)(s1:So lt (arrOf st) sa sb)(s2:So lt (arrOf st) sb (sb+nb)) (h:∀xs g,Fx sa (sb+nb) (arrOf st) xs->So lt xs sa (sb+nb)->Q true (SortSt.mk' (kindOf st) xs (((pendingOf st).setIfInBounds i (sa,na+nb,p)).eraseIdxIfInBounds (i+1)) g (failedOf st))):wpS (model prog w) A E s (mergeAt' i) Q st:=by
 have hs:=b.sz;have pa:∀x∈(arrOf st).toList,P x:=λx hx=>b.all x ((eH.mp b.p).mem_iff.mp hx);have M8:∀p g,kindOf (SortSt.mk' (kindOf st) (arrOf st) p g (failedOf st))=κ:=λ_ _=>b.k;unfold mergeAt';refine bu (eY ?_);rw[p1,p2];refine bu (FP (bu (pz (i:=sb) (by show sb<(arrOf st).size;lia) (bu (uz C (M8 _ _) (by show sa+na<=(arrOf st).size;lia) pa (pa _ (rb (by show sb<(arrOf st).size;lia)).2) (by lia) (λt u h1 h2 h3=>IB s1 o (by lia) (by lia) (by lia) h3) λk k1 k2=>?_)))));have kf:∀t,sa<=t->t<sa+k->lt (X (arrOf st) sb) (X (arrOf st) t)=false:=λt h1 h2=>by
  have:=k2 (t - sa) (by lia);rw[show sa+(t - sa)=t by lia,bV (by lia)]at this
  simpa [pS]using this
 have kt:∀t,sa+k<=t->t<sb->lt (X (arrOf st) sb) (X (arrOf st) t)=true:=λt h1 h2=>by
  have:=k2 (t - sa) (by lia);rw[show sa+(t - sa)=t by lia,cE (by lia)]at this
  simpa [pS]using this
 clear k2;have two:(∀t,sa<=t->t<sb->lt (X (arrOf st) sb) (X (arrOf st) t)=false)->So lt (arrOf st) sa (sb+nb):=λg i j hi MS hj=>by
  by_cases j1:j<sb
  .exact s1 i j hi MS j1
  .by_cases i1:i<sb
   .exact o.tr _ _ _ (g i hi i1) (s2 sb j (by lia) (by lia) hj)
   .exact s2 i j (by lia) MS hj
 refine nz (λz=>?_) (λz=>?_)
 .have z:na - k=0:=by simpa using z
  exact bv (h _ _ .refl (two λt t1 t2=>kf t t1 (by lia)))
 have z:na - k≠0:=by simpa using z
 obtain⟨L,eL⟩:∃L,sa+k+(na - k) - 1=L:=⟨_,rfl⟩;refine bu (pz (i:=sa+k+(na - k) - 1) (by show _<(arrOf st).size;lia) (bu (uz C (M8 _ _) (by show sb+nb<=(arrOf st).size;lia) pa (pa _ (rb (by show _<(arrOf st).size;lia)).2) (by show nb - 1<nb;lia) (λt u h1 h2 h3=>IA s2 o (by lia) (by lia) (by lia) h3) λl l1 l2=>?_)));rw[eL]at l2;have eL:L=sb - 1:=by lia
 have Pd:∀t,sb<=t->t<sb+l->lt (X (arrOf st) t) (X (arrOf st) L)=true:=λt h1 h2=>by
  have:=l2 (t - sb) (by lia);rw[show sb+(t - sb)=t by lia,bV (by lia)]at this
  simpa [pS]using this
 have lf:∀t,sb+l<=t->t<sb+nb->lt (X (arrOf st) t) (X (arrOf st) L)=false:=λt h1 h2=>by
  have:=l2 (t - sb) (by lia);rw[show sb+(t - sb)=t by lia,cE (by lia)]at this
  simpa [pS]using this
 clear l2;refine nz (λz2=>?_) (λz2=>?_)
 .have z2:l=0:=by simpa using z2
  exact bv (h _ _ .refl (two λt t1 t2=>o.tr _ _ _ (s1 t L t1 (by lia) (by lia)) (lf sb (by lia) (by lia))))
 have z2:l≠0:=by simpa using z2
 have zx:((arrOf st).extract (sa+k) sb).size=na - k:=by rw[h9];lia
 have zy:((arrOf st).extract sb (sb+l)).size=l:=by rw[h9];lia
 have sx:Sl lt ((arrOf st).extract (sa+k) sb).toList:=So.sl (λi j h1 h2 h3=>s1 i j (by lia) h2 h3) (by lia);have sy:Sl lt ((arrOf st).extract sb (sb+l)).toList:=So.sl (λi j h1 h2 h3=>s2 i j h1 h2 (by lia)) (by lia);have px:∀{u v x},x∈((arrOf st).extract u v).toList->P x:=λhx=>by obtain⟨t,_,_,ht,rfl⟩:=DX hx;exact pa _ (rb ht).2
 have g1:∀x∈((arrOf st).extract (sa+k) sb).toList,lt (X ((arrOf st).extract sb (sb+l)) 0) x=true:=λx hx=>by obtain⟨t,t1,t2,_,rfl⟩:=DX hx;rw[Dj (by lia) (by lia)];exact kt t t1 t2
 have g2:∀y∈((arrOf st).extract sb (sb+l)).toList,lt y (X ((arrOf st).extract (sa+k) sb) (((arrOf st).extract (sa+k) sb).size - 1))=true:=λy hy=>by obtain⟨t,t1,t2,_,rfl⟩:=DX hy;rw[zx,Dj (by lia) (by lia),show sa+k+(na - k - 1)=L by lia];exact Pd t t1 t2
 have ef:(failedOf st).isNone=true:=by rw[b.f];rfl
 have fin:∀out g,Fin lt ((arrOf st).extract (sa+k) sb) ((arrOf st).extract sb (sb+l)) out->Q (failedOf st).isNone (SortSt.mk' (kindOf st) (put (arrOf st) out (sa+k)) (((pendingOf st).setIfInBounds i (sa,na+nb,p)).eraseIdxIfInBounds (i+1)) g (failedOf st)):=λout g ⟨hp,ho⟩=>by
  rw[ef];have zo:out.size=na - k+l:=by have:=hp.length_eq;rw[bz,b7,b7,b7,zx,zy]at this;exact this
  have hz2:sa+k+out.size<=(arrOf st).size:=by lia
  have mem:∀t,t<out.size->∃u,X out t=X (arrOf st) u/\((sa+k<=u/\u<sb)\/(sb<=u/\u<sb+l)):=λt ht=>by
   rcases bS.mp (hp.mem_iff.mp (rb ht).2)with hx|hx
   .obtain⟨u,u1,u2,_,e⟩:=DX hx;exact⟨u,e,.inl ⟨u1,u2⟩⟩
   .obtain⟨u,u1,u2,_,e⟩:=DX hx;exact⟨u,e,.inr ⟨u1,u2⟩⟩
  refine h _ g ⟨Jn hz2 (hp.trans (kP ?_)),λt ht=>by rw[C' hz2,bq (by lia)]⟩ λi j hi MS hj=>?_
  .rw[zo,fK,fK,cW,cW,List.take_add,hJ,show sa+k+(na - k)=sb by lia,show sb - (sa+k)=na - k by lia,show sb+l - sb=l by lia]
  .rw[Hc hz2,Hc hz2];by_cases j1:j<sa+k
   .rw[bq (by lia),bq (by lia)];exact s1 i j hi MS (by lia)
   .by_cases j2:j<sb+l
    .rw[bw (by lia)];by_cases i1:i<sa+k
     .rw[bq (by lia)];obtain⟨u,e,hu⟩:=mem (j - (sa+k)) (by lia);rw[e];rcases hu with hu|hu
      .exact s1 i u hi (by lia) hu.2
      .exact o.tr _ _ _ (kf i hi i1) (s2 sb u (by lia) hu.1 (by lia))
     .rw[bw (by lia)];exact Sl.x ho o (by lia) (by lia)
    .rw[bq (by lia)];by_cases i1:i<sa+k
     .rw[bq (by lia)];exact o.tr _ _ _ (kf i hi i1) (s2 sb j (by lia) (by lia) hj)
     .by_cases i2:i<sb+l
      .rw[bw (by lia)];obtain⟨u,e,hu⟩:=mem (i - (sa+k)) (by lia);rw[e];rcases hu with hu|hu
       .exact o.tr _ _ _ (s1 u L (by lia) (by lia) (by lia)) (lf j (by lia) hj)
       .exact s2 u j hu.1 (by lia) hj
      .rw[bq (by lia)];exact s2 i j (by lia) MS hj
 refine nz (λ_=>?_) (λ_=>?_)
 .exact bu (JG o C (M8 _ _) (by rw[zx];lia) (by rw[zy];lia) sx sy (λx hx=>px hx) (λx hx=>px hx) g1 g2 λout g hf=>bu (dC (bu (eY (bv (fin out g hf))))))
 .exact bu (Ka o C (M8 _ _) (by rw[zx];lia) (by rw[zy];lia) sx sy (λx hx=>px hx) (λx hx=>px hx) g1 g2 λout g hf=>bu (dC (bu (eY (bv (fin out g hf))))))
def Pn(lt:Keyed->Keyed->Bool)(xs:Array Keyed):T0 (Nat×Nat×Nat)->Nat->Nat->Prop
 | [],lo,hi=>lo=hi
 | (s,n,_)::r,lo,hi=>s=lo/\1<=n/\So lt xs lo (lo+n)/\Pn lt xs r (lo+n) hi
def So.fx{xs ys:Array Keyed}{lo hi:Nat}(s:So lt xs lo hi)(h:∀t,lo<=t->t<hi->X ys t=X xs t):So lt ys lo hi:=λi j h1 h2 h3=>by rw[h i h1 (by lia),h j (by lia) h3];exact s i j h1 h2 h3
theorem Pn.le{xs:Array Keyed}:∀{l:T0 (Nat×Nat×Nat)} {lo hi:Nat},Pn lt xs l lo hi->lo+l.length<=hi
 | [],_,_,h=>by cases h;simp
 | (s,n,_)::r,lo,hi,h=>by have:=h.2.2.2.le;rw[bT];have:=h.2.1;lia
theorem Pn.fx{xs ys:Array Keyed}:∀{l:T0 (Nat×Nat×Nat)} {lo hi:Nat},Pn lt xs l lo hi->(∀t,lo<=t->t<hi->X ys t=X xs t)->Pn lt ys l lo hi
 | [],_,_,h,_=>h
 | (s,n,_)::r,lo,hi,h,g=>by have:=h.2.2.2.le;exact⟨h.1,h.2.1,h.2.2.1.fx λt t1 t2=>g t t1 (by lia),h.2.2.2.fx λt t1 t2=>g t (by lia) t2⟩
theorem Pn.snoc{xs:Array Keyed}{n p:Nat}(hn:1<=n):∀{l:T0 (Nat×Nat×Nat)} {lo hi:Nat},Pn lt xs l lo hi->So lt xs hi (hi+n)->Pn lt xs (l++[(hi,n,p)]) lo (hi+n)
 | [],_,_,h,s=>by cases h;exact⟨rfl,hn,s,rfl⟩
 | (a,m,_)::r,lo,hi,h,s=>⟨h.1,h.2.1,h.2.2.1,Pn.snoc hn h.2.2.2 s⟩
theorem Pn.map{xs:Array Keyed}:∀{l l':T0 (Nat×Nat×Nat)} {lo hi:Nat},Pn lt xs l lo hi->l.map (λp=>(p.1,p.2.1))=l'.map (λp=>(p.1,p.2.1))->Pn lt xs l' lo hi
 | [],[],_,_,h,_=>h
 | [],_::_,_,_,_,e=>by cases e
 | _::_,[],_,_,_,e=>by cases e
 | (a,m,_)::r,(a',m',_)::r',lo,hi,h,e=>by rw[b6,b6,List.cons.injEq]at e;cases e.1;exact⟨h.1,h.2.1,h.2.2.1,h.2.2.2.map e.2⟩
theorem Pn.two{xs:Array Keyed}{sa na p sb nb q:Nat}:∀{l:T0 (Nat×Nat×Nat)} {lo hi i:Nat},Pn lt xs l lo hi->l[i]?=some (sa,na,p)->l[i+1]?=some (sb,nb,q)->lo<=sa/\sb=sa+na/\1<=na/\1<=nb/\sb+nb<=hi/\So lt xs sa sb/\So lt xs sb (sb+nb)/\
  ∀ys,(∀t,t<sa\/sb+nb<=t->X ys t=X xs t)->So lt ys sa (sb+nb)->Pn lt ys ((l.set i (sa,na+nb,p)).eraseIdx (i+1)) lo hi
 | [],_,_,_,_,e,_=>by cases e
 | [_],_,_,0,_,_,e=>by cases e
 | (s1,n1,p1)::(s2,n2,p2)::r,lo,hi,0,h,e1,e2=>by cases e1;cases e2;obtain⟨rfl,h2,h3,rfl,h5,h6,h7⟩:=h;have:=h7.le;exact⟨bB _,rfl,h2,h5,by lia,h3,h6,λys hy s=>⟨rfl,by lia,by rw[<-kX];exact s,by rw[<-kX];exact h7.fx λt t1 t2=>hy t (.inr t1)⟩⟩
 | (s1,n1,p1)::r,lo,hi,i+1,h,e1,e2=>by obtain⟨h1,h2,h3,h4⟩:=h;obtain⟨g1,g2,g3,g4,g5,g6,g7,g8⟩:=Pn.two h4 (i:=i) e1 e2;exact⟨by lia,g2,g3,g4,g5,g6,g7,λys hy s=>⟨h1,h2,h3.fx λt t1 t2=>hy t (.inl (by lia)),g8 ys hy s⟩⟩
def Dc(o:Ord lt)(C:Cmp prog w A s κ lt P){st:SortSt}(b:Bs κ P a₀ st){i lo:Nat}{Q:Bool->SortSt->Prop}(pn:Pn lt (arrOf st) (pendingOf st).toList 0 lo)(hl:lo<=a₀.size)(hi:i+1<(pendingOf st).size) (h:∀Mi,Bs κ P a₀ Mi->Pn lt (arrOf Mi) (pendingOf Mi).toList 0 lo->(pendingOf Mi).size+1=(pendingOf st).size->(∀t,lo<=t->X (arrOf Mi) t=X (arrOf st) t)->Q true Mi):wpS (model prog w) A E s (mergeAt' i) Q st:=by
 obtain⟨⟨sa,na,p⟩,p1⟩:∃r,(pendingOf st)[i]?=some r:=⟨_,dH _ i (by lia)⟩;obtain⟨⟨sb,nb,q⟩,p2⟩:∃r,(pendingOf st)[i+1]?=some r:=⟨_,dH _ (i+1) hi⟩;obtain⟨g1,g2,g3,g4,g5,g6,g7,g8⟩:=pn.two (i:=i) (by rw[cw];exact p1) (by rw[cw];exact p2);refine JS o C b p1 p2 g2 g3 g4 (by lia) g6 g7 λxs g fx so=>h _ ⟨b.k,b.f,fx.1.trans b.p,b.all⟩ ?_ ?_ λt ht=>fx.x (.inr (by lia))
 .show Pn lt xs (((pendingOf st).setIfInBounds i (sa,na+nb,p)).eraseIdxIfInBounds (i+1)).toList 0 lo;rw[gI,il];exact g8 xs (λt ht=>fx.x ht) so
 .show(((pendingOf st).setIfInBounds i (sa,na+nb,p)).eraseIdxIfInBounds (i+1)).size+1=_;rw[<-b7,gI,il,List.length_eraseIdx,List.length_set,b7,bw hi];lia
theorem xU{α β:Type}{f:α->α}{g:α->β}(h:∀x,g (f x)=g x):∀(l:List α) (i:Nat),(l.modify i f).map g=l.map g
 | [],_=>by simp
 | a::l,0=>by simp[h]
 | a::l,i+1=>by simp[xU h l i]
def w_sort(o:Ord lt)(C:Cmp prog w A s κ lt P){st:SortSt}(b:Bs κ P a₀ st)(hp:pendingOf st=#[])(h1:1<=a₀.size){Q:Unit->SortSt->Prop}(h:∀Mi,Bs κ P a₀ Mi->So lt (arrOf Mi) 0 a₀.size->Q () Mi):wpS (model prog w) A E s sortRuns' Q st:=by
 rw[sortRuns'_eq];have hz:(arrOf st).size=a₀.size:=b.sz;refine bu (eY ?_);rw[hz];refine bu (ee (cI (I:=λx c Mi=>∃lo,c=(none,lo)/\Bs κ P a₀ Mi/\Pn lt (arrOf Mi) (pendingOf Mi).toList 0 lo/\lo<=a₀.size/\x<=lo) (Q:=λc Mi=>∃lo,c=(none,lo)/\Bs κ P a₀ Mi/\Pn lt (arrOf Mi) (pendingOf Mi).toList 0 a₀.size) ?_ ?_ ⟨0,rfl,b,by rw[hp];rfl,by lia,by lia⟩) ?_)
 .clear b hp hz
  rintro x c Mi _ hx ⟨lo,rfl,b,pn,hl,hxl⟩
  refine nz (λg=>bv ⟨lo,rfl,b,(show lo=a₀.size by have g:lo>=a₀.size:=g;lia) ▸ pn⟩) (λg=>?_);have g:¬lo>=a₀.size:=g;refine bu (Gf o C b (by show 1<=a₀.size - lo;lia) (by show lo+(a₀.size - lo)<=_;lia) λn xs fx n1 n2 so=>?_);have n2:n<=a₀.size - lo:=n2;refine nz (λg2=>?_) (λg2=>?_)
  .have g2:n<minRun' a₀.size a₀.size 0:=g2;refine bu (hG (dI ⟨rfl,?_⟩));generalize minRun' a₀.size a₀.size 0=mr at g2 ⊢;refine bu (JP o C (b.set fx.1) (by show lo+min (a₀.size - lo) mr<=_;lia) n1 (by show n<=min (a₀.size - lo) mr;lia) so λys fy so=>nz (λz=>by cases z) λ_=>?_);have fy:Fx lo (lo+(a₀.size - lo)) (arrOf Mi) ys:=⟨fy.1.trans fx.1,λk hk=>(fy.2 k (by show k<lo\/lo+min (a₀.size - lo) mr<=k;lia)).trans (fx.2 k hk)⟩;have n1:1<=min (a₀.size - lo) mr:=by lia
   have n2:min (a₀.size - lo) mr<=a₀.size - lo:=by lia
   have b2:Bs κ P a₀ (setArr Mi ys):=b.set fy.1;have pn2:Pn lt ys (pendingOf Mi).toList 0 lo:=pn.fx λt _ t2=>fy.x (.inl t2);refine bu (eY ?_);split
   .refine bu (ee (cI (I:=λx c Mq=>c=(none,())/\Bs κ P a₀ Mq/\Pn lt (arrOf Mq) (pendingOf Mq).toList 0 lo/\So lt (arrOf Mq) lo (lo+min (a₀.size - lo) mr)) (Q:=λc Mq=>c=(none,())/\Bs κ P a₀ Mq/\Pn lt (arrOf Mq) (pendingOf Mq).toList 0 lo/\So lt (arrOf Mq) lo (lo+min (a₀.size - lo) mr)) ?_ (λc Mq hh=>hh) ⟨rfl,b2,pn2,so⟩) ?_)
    .rintro x c Mq _ _ ⟨rfl,b3,Ob,Oc⟩
     refine bu (eY ?_);dsimp only;split
     .rename_i heq;have hs:(pendingOf Mq).size>1:=by
       by_cases g:(pendingOf Mq).size>1
       .exact g
       .rw[bq g]at heq;cases heq
      refine nz (λ_=>bv ⟨rfl,b3,Ob,Oc⟩) (λ_=>?_);exact bu (Dc o C b3 Ob hl (by show(pendingOf Mq).size - 2+1<_;lia) λst4 b4 pn4 _ ht=>nz (λz=>by cases z) λ_=>bv ⟨rfl,b4,pn4,Oc.fx λt t1 _=>ht t t1⟩)
     .exact bv ⟨rfl,b3,Ob,Oc⟩
    .rintro c Mq ⟨rfl,b3,Ob,Oc⟩
     refine bu (dC (bu (dC (bv ⟨_,rfl,⟨b3.k,b3.f,b3.p,b3.all⟩,?_,by lia,by lia⟩))));rw[c7,jC];exact Pn.snoc n1 (Ob.map (by rw[xU];intro x;rfl)) Oc
   .refine bu (dC (bv ⟨_,rfl,⟨b2.k,b2.f,b2.p,b2.all⟩,?_,by lia,by lia⟩));rw[c7];exact Pn.snoc n1 pn2 so
  .have so:So lt xs lo (lo+n):=so;have b2:Bs κ P a₀ (setArr Mi xs):=b.set fx.1;have pn2:Pn lt xs (pendingOf Mi).toList 0 lo:=pn.fx λt _ t2=>fx.x (.inl t2);refine bu (eY ?_);split
   .refine bu (ee (cI (I:=λx c Mq=>c=(none,())/\Bs κ P a₀ Mq/\Pn lt (arrOf Mq) (pendingOf Mq).toList 0 lo/\So lt (arrOf Mq) lo (lo+n)) (Q:=λc Mq=>c=(none,())/\Bs κ P a₀ Mq/\Pn lt (arrOf Mq) (pendingOf Mq).toList 0 lo/\So lt (arrOf Mq) lo (lo+n)) ?_ (λc Mq hh=>hh) ⟨rfl,b2,pn2,so⟩) ?_)
    .rintro x c Mq _ _ ⟨rfl,b3,Ob,Oc⟩
     refine bu (eY ?_);dsimp only;split
     .rename_i heq;have hs:(pendingOf Mq).size>1:=by
       by_cases g:(pendingOf Mq).size>1
       .exact g
       .rw[bq g]at heq;cases heq
      refine nz (λ_=>bv ⟨rfl,b3,Ob,Oc⟩) (λ_=>?_);exact bu (Dc o C b3 Ob hl (by show(pendingOf Mq).size - 2+1<_;lia) λst4 b4 pn4 _ ht=>nz (λz=>by cases z) λ_=>bv ⟨rfl,b4,pn4,Oc.fx λt t1 _=>ht t t1⟩)
     .exact bv ⟨rfl,b3,Ob,Oc⟩
    .rintro c Mq ⟨rfl,b3,Ob,Oc⟩
     refine bu (dC (bu (dC (bv ⟨_,rfl,⟨b3.k,b3.f,b3.p,b3.all⟩,?_,by lia,by lia⟩))));rw[c7,jC];exact Pn.snoc n1 (Ob.map (by rw[xU];intro x;rfl)) Oc
   .refine bu (dC (bv ⟨_,rfl,⟨b2.k,b2.f,b2.p,b2.all⟩,?_,by lia,by lia⟩));rw[c7];exact Pn.snoc n1 pn2 so
 .rintro c Mi ⟨lo,rfl,b,pn,hl,hxl⟩
  exact⟨lo,rfl,b,(show lo=a₀.size by lia) ▸ pn⟩
 .clear b hp hz
  rintro c Mi ⟨lo,rfl,b,pn⟩
  refine bu (ee (cI (I:=λx c Mi=>c=(none,())/\Bs κ P a₀ Mi/\Pn lt (arrOf Mi) (pendingOf Mi).toList 0 a₀.size/\((pendingOf Mi).size<=1\/(pendingOf Mi).size+x<=a₀.size)) (Q:=λc Mi=>c=(none,())/\Bs κ P a₀ Mi/\Pn lt (arrOf Mi) (pendingOf Mi).toList 0 a₀.size/\(pendingOf Mi).size<=1) ?_ ?_ ⟨rfl,b,pn,.inr (by have:=pn.le;rw[b7]at this;lia)⟩) ?_)
  .rintro x c Mi _ _ ⟨rfl,b,pn,hs⟩
   refine bu (eY ?_);refine nz (λg=>bv ⟨rfl,b,pn,g⟩) (λg=>?_);have g:¬(pendingOf Mi).size<=1:=g;refine bu (Dc o C b pn (bB _) ?_ λst4 b4 pn4 hs4 _=>nz (λz=>by cases z) λ_=>bv ⟨rfl,b4,pn4,by lia⟩);have key:∀(c:Prop) [Decidable c],(if c then(pendingOf Mi).size - 2 - 1 else(pendingOf Mi).size - 2)+1<(pendingOf Mi).size:=λc _=>by split<;>lia
   exact key _
  .rintro c Mi ⟨rfl,b,pn,hs⟩
   exact⟨rfl,b,pn,by lia⟩
  .rintro c Mi ⟨rfl,b,pn,hs⟩
   refine bv (h Mi b ?_)
   match hq:(pendingOf Mi).toList,pn with
   | [],e=>exact absurd (show 0=a₀.size from e) (by lia)
   | [(s,n,p)],e=>obtain⟨rfl,_,so,e⟩:=e;rw[jN]at so e;rw[<-show n=a₀.size from e];exact so
   | _::_::_,_=>have:=c8 List.length hq;rw[b7,bT,bT]at this;lia
end Srt
namespace L2
variable {prog:Pg}{w:Wo}{A:Ar}{E:QQX}{s:Sd}
theorem AV{α β:Type}{f:α->Sem β}{g:α->β}:∀{l:List α} {Q:List β->Sd->Prop},(∀v∈l,∀(Q:β->Sd->Prop),Q (g v) s->wpAny (model prog w) A (f v) Q E s)->Q (l.map g) s->wpAny (model prog w) A (l.mapM f) Q E s
 | [],_,_,q=>by rw[List.mapM_nil];exact bj q
 | x::l,_,h,q=>by rw[List.mapM_cons];exact bh (h x bG _ (bh (AV (λv hv=>h v (bK _ hv)) (bj q))))
def qc(h:Heap)(a:Addr)(vs:T0 Vl):Heap:=((h.update a (Obj.mapSeq λ_=>#[])).push (seqObj "tuple" vs.toArray 0)).push (seqObj "list" #[] 0)
def z9{lt:Keyed->Keyed->Bool}{Pk:Keyed->Prop}(o:Srt.Ord lt){κ:SortKind}{a:Addr}{vs:T0 Vl}{n:Nat}{P:Fin->Sd->Prop}(ho:s.heap.get? a=some (seqObj "list" vs.toArray n))(hz:vs.length<=sizeLine) (hK:∀(Q:SortKind->Sd->Prop),2<=vs.length->Q κ {s with heap:=qc s.heap a vs}->wpAny (model prog w) A (keyKind' vs.toArray) Q E {s with heap:=qc s.heap a vs})
  (C:Srt.Cmp prog w A {s with heap:=qc s.heap a vs} κ lt Pk) (hP:∀v∈vs,Pk (v,v))
  (h:∀out:Array Vl,out.toList.Perm vs->out.toList.Pairwise (λx y=>lt (y,y) (x,x)=false)->P (.done (.ret .none)) {s with heap:=sortedHeap s.heap a vs out}):
  wpAny (model prog w) A (Builtin.«list.sort» ⟨[.ref a],[]⟩) P E s:=by
 rw[list_sort_plain];have ha:a<s.heap.objs.size:=bD ho;refine bh (eC ho rfl ?_);refine bh (jx ho rfl ?_);obtain⟨e1,ho1⟩:∃e1,(s.heap.update a (Obj.mapSeq λ_=>#[])).get? a=some (seqObj "list" #[] e1):=⟨_,get?_update_seq ho (λ_=>#[])⟩;refine bh (ki ho1 rfl ?_);refine bh (jh ?_ hz);refine bh (jw ?_);refine cB ?_;have ho6:(qc s.heap a vs).get? a=some (seqObj "list" #[] e1):=by unfold qc;rw[j4 _ _ _ (by rw[kL,iO];exact bH (cZ ha)),j4 _ _ _ (by rw[iO];exact bH ha)];exact ho1
 show wpAny (model prog w) A _ P E {s with heap:=qc s.heap a vs};dsimp only;have hsz:vs.toArray.size=vs.length:=by simp
 by_cases h2:vs.toArray.size<2
 .rw[bw h2,bw h2];refine bh (bj ?_);rw[StateT.run_pure];refine bh (bj ?_);dsimp only;refine bh (ki ho6 rfl ?_);have ea:(arrOf (SortSt.mk' general' (vs.toArray.zip vs.toArray) #[] 7 none)).map (·.2)=vs.toArray:=by
   show(vs.toArray.zip vs.toArray).map (·.2)=_;apply Array.ext
   .simp
   .intro i h1 h2;simp
  rw[ea];refine bh (jx ho6 rfl ?_ (hsz2:=by rw[hsz];lia));simp only[j5,fY,gY];refine bj (h _ (.refl _) ?_)
  match vs,hsz,h2 with
  | [],_,_=>exact .nil
  | [_],_,_=>exact iV ..
  | _::_::_,_,h2=>simp at h2;lia
 .rw[bq h2,bq h2];refine bh (hK _ (by lia) ?_);have e0:(vs.toArray.zip vs.toArray).toList=vs.zip vs:=by simp
  refine bh (cz (Srt.w_sort o C (a₀:=vs.toArray.zip vs.toArray) (st:=SortSt.mk' κ (vs.toArray.zip vs.toArray) #[] 7 none) ⟨rfl,rfl,Array.Perm.refl _,λx hx=>?_⟩ rfl (by simp;lia) (Q:=λ_ Mi=>Srt.Bs κ Pk (vs.toArray.zip vs.toArray) Mi/\Srt.So lt (arrOf Mi) 0 (vs.toArray.zip vs.toArray).size) λMi b1 b2=>⟨b1,b2⟩) ?_ λ_ _ e=>e)
  .rw[e0]at hx;obtain⟨q1,q2⟩:=mem_zip_self hx;obtain⟨x1,x2⟩:=x;cases q1;exact hP _ q2
  rintro ⟨⟨⟩,Mi⟩ s' ⟨rfl,b1,b2⟩
  dsimp only;refine bh (ki ho6 rfl ?_);have pl:(arrOf Mi).toList.Perm (vs.zip vs):=by rw[<-e0];exact eH.mp b1.p
  have sz:=b1.sz;refine bh (jx ho6 rfl ?_ (hsz2:=by rw[Array.size_map,sz];simp;lia));rw[b1.f];simp only[j5,fY,gY];refine bj (h _ ?_ ?_)
  .rw[Array.toList_map];have:=pl.map (·.2)
   rwa [List.map_snd_zip (bB _)]at this
  .rw[dP];intro i j hi hj MS;have li:i<(arrOf Mi).size:=by simpa using hi
   have lj:j<(arrOf Mi).size:=by simpa using hj
   have q:=b2 i j (cu _) (fT MS) (by rw[<-sz];exact lj);have self:∀k (lk:k<(arrOf Mi).size),Srt.X (arrOf Mi) k=((arrOf Mi)[k].2,(arrOf Mi)[k].2):=λk lk=>by
    have m:(arrOf Mi)[k]∈(arrOf Mi).toList:=by simp
    have:=(mem_zip_self (pl.mem_iff.mp m)).1;unfold Srt.X;rw[eM lk];exact Prod.ext this rfl
   rw[self i li,self j lj]at q
   simpa using q
def E6{h:Heap}{a b:Addr}{vs:T0 Vl}{o:Obj}(hb:b≠a)(e:h.get? b=some o):(qc h a vs).get? b=some o:=by unfold qc;exact bp _ (bp _ (by rw[jD _ _ _ _ hb];exact e))
def zX{ps:QXQ}{Q:SortKind->Sd->Prop}(hp:∀p∈ps,s.TypeIs (.ref p) "list")(h2:2<=ps.length)(q:Q oneType' s):wpAny (model prog w) A (keyKind' (ps.map Value.ref).toArray) Q E s:=by
 have tp:∀v∈ps.map Value.ref,s.TypeIs v "list":=λv hv=>by obtain⟨p,hp',rfl⟩:=bI.mp hv;exact hp p hp'
 rw[keyKind'_eq,j6,ky];refine bh (bh (AV (g:=λ_=>none) (λv hv Q q=>?_) (bj ?_)))
 .show wpAny _ _ (typeOf v>>=_) _ _ s;exact bh (fA (tp v hv) (vU (by decide) (bj q)))
 obtain⟨p1,p2,ps,rfl⟩:∃p1 p2 r,ps=p1::p2::r:=by
  match ps,h2 with
  | p1::p2::r,_=>exact⟨p1,p2,r,rfl⟩
 refine qu (by simp) (qu (by simp) ?_);rw[oneTypeOnly'_eq,j6,ky];refine bh (bh (bh (AV (g:=λ_=>Value.type "list") (λv hv Q q=>fA (tp v hv) q) (bj ?_))));have h0:(List.map (λ_=>Value.type "list") (List.map Value.ref (p1::p2::ps))).toArray[0]?=some (Value.type "list"):=by simp
 rw[h0];have Nl:((List.map (λ_=>Value.type "list") (List.map Value.ref (p1::p2::ps))).toArray.all λx=>x==Value.type "list")=true:=by simp only[List.all_toArray,fX,ck];intro _ _;rfl
 refine bj ?_;rw[bw Nl];exact bj q
def Dv(f:Addr->QQQ):Vl->QQQ
 | .ref p=>f p
 | _=>[]
def xN{l:Addr}{ps:QXQ}{f:Addr->QQQ}{Q:QQX}(hu:A.units+9<cLine)(hl:s.heap.IsList l (ps.map Value.ref).toArray)(hz:ps.length<=sizeLine)(hp:∀p∈ps,∃us,s.heap.IsList p us.toArray/\StrsAre us (f p)) (h:∀out:QXQ,out.Perm ps->out.Pairwise (λp q=>su (f q) (f p)=false)->Q (.ref (s.heap.objs.size+1)) {s with heap:=sortedAll s.heap (ps.map Value.ref) (out.map Value.ref).toArray}):wpAny (model prog w) A (call (.builtin "sorted") [.ref l]) Q E s:=by
 have lv:(ps.map Value.ref).length<=sizeLine:=by rw[bi];exact hz
 refine iA kind_sorted plain_sorted entry_sorted (args_sorted1 _) ?_;unfold Builtin.«sorted»;refine bh (m:=checkCount "sorted" 1 1 _) (bj ?_);refine bh (collect_list hl ?_ lv);refine bh (jw ?_ lv);have hsz:((s.heap.push (seqObj "list" #[] 0)).update s.heap.objs.size (Obj.mapSeq (·++(ps.map Value.ref).toArray))).objs.size=s.heap.objs.size+1:=by rw[iO,kL]
 have OJ:(((s.heap.push (seqObj "list" #[] 0)).update s.heap.objs.size (Obj.mapSeq (·++(ps.map Value.ref).toArray))).push (seqObj "list" (ps.map Value.ref).toArray 0)).get? (s.heap.objs.size+1)=some (seqObj "list" (ps.map Value.ref).toArray 0):=by rw[<-hsz];exact bE _ rfl
 show wpAny _ _ _ _ _ {s with heap:=((s.heap.push (seqObj "list" #[] 0)).update s.heap.objs.size (Obj.mapSeq (·++(ps.map Value.ref).toArray))).push (seqObj "list" (ps.map Value.ref).toArray 0)};rw[hsz];have Ot:∀p us,s.heap.IsList p us->(qc (((s.heap.push (seqObj "list" #[] 0)).update s.heap.objs.size (Obj.mapSeq (·++(ps.map Value.ref).toArray))).push (seqObj "list" (ps.map Value.ref).toArray 0)) (s.heap.objs.size+1) (ps.map Value.ref)).IsList p us:=λp us ⟨o,e,r⟩=>by have lt:=bD e;refine⟨o,E6 (bH (cZ lt)) (bp _ ?_),r⟩;rw[jD _ _ _ _ (bH lt)];exact bp _ e
 refine bh (cB (cy slot_list_sort ⟨_,OJ,rfl⟩ entry_list_sort (z9 (lt:=λx y=>su (Dv f x.1) (Dv f y.1)) (Pk:=λx=>∃p,p∈ps/\x.1=.ref p) (κ:=oneType') ⟨λ_ _=>Ek,λ_ _ _=>EL⟩ OJ lv (λQ h2 q=>zX (λp hp'=>?_) (by simpa using h2) q) ?_ (λv hv=>?_) λout a1 a2=>⟨_,rfl,?_⟩) (args_list_sort _)))
 .obtain⟨us,q,_⟩:=hp p hp';exact(Ot p _ q).typeIs
 .rintro ⟨x,_⟩ ⟨y,_⟩ ⟨p,p1,e1⟩ ⟨q,p2,e2⟩ Q E h
  cases e1;cases e2;obtain⟨us,q1,q2⟩:=hp p p1;obtain⟨us',q3,q4⟩:=hp q p2;rw[keyLt'_oneType];exact AB (by show A.units+1+1<cLine;lia) (Ot _ _ q1) (Ot _ _ q3) q2 q4 h
 .obtain⟨p,hp',rfl⟩:=bI.mp hv;exact⟨p,hp',rfl⟩
 .have:∃o2:QXQ,out=(o2.map Value.ref).toArray/\o2.Perm ps:=by
   let un:Vl->Addr:=λv=>match v with|.ref p=>p|_=>0
   refine⟨out.toList.map un,Array.toList_inj.mp ?_,?_⟩
   .show out.toList=(out.toList.map un).map Value.ref;rw[cx];refine(jO out.toList).symm.trans (gX λv hv=>?_);obtain⟨p,_,rfl⟩:=bI.mp (a1.mem_iff.mp hv);rfl
   .have:=a1.map un;rw[cx]at this;exact this.trans (.of_eq (jO ps))
  obtain⟨o2,rfl,p2⟩:=this;refine bj ⟨_,rfl,h o2 p2 ?_⟩
  simpa [dE,Dv]using a2
variable {X:Cx}
theorem zJ:∀{ss:QQQ} {its:T0 Vl},nv (ss.map V.str) its->StrsAre its ss
 | [],[],_=>.nil
 | [],_::_,h=>nomatch h
 | _::_,[],h=>nomatch h
 | n::ns,v::its,h=>by
  cases h with
  | cons a b=>obtain⟨t,rfl⟩:=a;exact .cons _ t (zJ b)
theorem xf:∀{ps:QXQ} {its:T0 Vl},nv (ps.map V.ref) its->its=ps.map Value.ref
 | [],[],_=>rfl
 | [],_::_,h=>nomatch h
 | _::_,[],h=>nomatch h
 | n::ns,v::its,h=>by
  cases h with
  | cons a b=>rw[xf b,show v=.ref n from a];rfl
theorem xo:∀ps:QXQ,nv (ps.map V.ref) (ps.map Value.ref)
 | []=>.nil
 | _::ps=>.cons rfl (xo ps)
def yc(hu:X.A.units+9<cLine):sO X (.builtin "sorted") (λxs H Q=>∃p,∃ps:QXQ,∃f:Addr->QQQ,xs=[.ref p]/\rA X.K H p (ps.map V.ref)/\(∀q∈ps,rA X.K H q ((f q).map V.str))/\∀l (out:QXQ),H l=none->out.Perm ps->out.Pairwise (λp q=>su (f q) (f p)=false)->Q (.ref l) (upd H l (.lst (out.map V.ref)))):=by
 intro Mf s Y H xs us Q I r h;obtain⟨p,ps,f,rfl,hq,hf,q⟩:=h;obtain⟨u,rfl,rx⟩:=wb r;cases rx;obtain⟨its,r',pl,hz⟩:=I.list hq;obtain rfl:=xf r';refine xN (f:=f) hu pl.isList (by simpa using hz) (λp hp=>?_) λout a1 a2=>?_
 .obtain⟨its,r2,pl2,_⟩:=I.list (hf p hp);exact⟨its,pl2.isList,zJ r2⟩
 .obtain⟨e,he⟩:=sortedAll_at s.heap (ps.map Value.ref) (out.map Value.ref).toArray;refine⟨.ref (s.heap.objs.size+1),_,I.laid (t':=s.toks) (λ_ _=>sortedAll_old) (dQ _) (show oo X.prog X.w _ _ _ (.lst (out.map V.ref))from⟨?_,out.map Value.ref,e,xo out,he⟩),rfl,q _ out (I.lC.fresh (dQ _)) a1 a2⟩;rw[bi,a1.length_eq]
  simpa using hz
end L2
namespace L3
open L2
variable {X:Cx}
def ES(ds:T0 D)(M:Mp)(Q:DK):Prop:=match ds with
 | [.ref a]=>∃ps:QXQ,∃f:Addr->QQQ,ma M a=some (ps.map D.ref)/\(∀q∈ps,ma M q=some ((f q).map D.str))/\∀(out:QXQ) p,M p=none->out.Perm ps->out.Pairwise (λp q=>su (f q) (f p)=false)->Q (.ref p) (mL M p (.lst (out.map D.ref)))
 | _=>False
theorem A1{K:m9}{H:Hp}:∀{ns:QXQ} {vs:T0 V},mS K H (ns.map D.ref) vs->vs=ns.map V.ref
 | [],vs,h=>by cases h;rfl
 | n::ns,vs,h=>by obtain⟨x,r,rfl,h1,h2⟩:=h.inv;rw[h1.lm,A1 h2];rfl
theorem y8{K:m9}{H:Hp}:∀ns:QXQ,mS K H (ns.map D.ref) (ns.map V.ref)
 | []=>.nil
 | _::ns=>.cons .ref (y8 ns)
theorem BI{K:m9}{H:Hp}:∀{ns:QQQ} {vs:T0 V},mS K H (ns.map D.str) vs->vs=ns.map V.str
 | [],vs,h=>by cases h;rfl
 | n::ns,vs,h=>by obtain⟨x,r,rfl,h1,h2⟩:=h.inv;rw[h1.str_inv,BI h2];rfl
def vL(hu:X.A.units+9<cLine):C3 X (.builtin "sorted") ES:=by
 intro Mf s Y H vs us Q' I rv h;obtain⟨ds,M,Q,hd,hm,q,k⟩:=h;unfold ES at q;split at q
 .obtain⟨v,rfl,hv⟩:=oJ hd;obtain⟨ps,f,e0,e1,q⟩:=q;cases hv.lm;obtain⟨xs,h1,h2,_⟩:=mR hm e0;obtain rfl:=A1 h2;refine yc hu Mf s Y H _ us Q' I rv ⟨_,ps,f,rfl,h1,λp hp=>?_,λl out hl p1 p2=>?_⟩
  .obtain⟨xs,h3,h4,_⟩:=mR hm (e1 p hp);obtain rfl:=BI h4;exact h3
  .exact k _ _ _ _ .ref (hm.new (c:=.lst (out.map D.ref)) hl ⟨_,m7,y8 out⟩) (.new hl) (q out l (hm.fresh hl) p1 p2)
 .exact q.elim
end L3
namespace L2
variable {X:Cx}
def BZ:sf X (compareOp .Gt) (λx y H Q=>∃i j,x=.str i/\y=.str j/\Q (.bl (sD j i)) H):=by intro Mf s Y H x y v u Q I rx ry h;obtain⟨i,j,rfl,rfl,q⟩:=h;obtain⟨t,rfl⟩:=rx;obtain⟨t',rfl⟩:=ry;show wpAny _ _ (richCompare .Gt _ _) _ _ s;refine jd (T:="str") (id:="str.__gt__") (gj s i t) (gj s j t') iP (cy iP (gj s i t) PyProof.Rows.entry_str_gt ?_ (PyProof.Rows.args_str_gt _ _));show wpAny _ _ (ret (.bool (decide (j.cps.toList<i.cps.toList)))) _ _ s;exact bj ⟨_,rfl,by simp,xR I q rfl⟩
end L2
namespace L3
open L2
variable {X:Cx}{a b:Expr}{ta tb:T3}{pos:Pos}
def K4(x y:D)(M:Mp)(Q:DK):Prop:=match x,y with|.str i,.str j=>Q (.bl (sD j i)) M|_,_=>False
def L0:sf X (compareOp .Gt) (R3 X.K K4):=by
 intro Mf s Y H vx vy v u Q' I rx ry h;obtain⟨x,y,M,Q,hx,hy,hm,q,k⟩:=h;unfold K4 at q;split at q
 .cases hx.str_inv;cases hy.str_inv;exact BZ Mf s Y H _ _ v u Q' I rx ry ⟨_,_,rfl,rfl,k _ _ _ _ .bl hm .refl q⟩
 .exact q.elim
def g3(ta tb:T3):T3:=λU M Q=>ta U M λx M1=>tb U M1 λy M2=>K4 x y M2 Q
def GQ(ha:E3 X a ta)(hb:E3 X b tb)(hm:behindInMarks .Gt b=false:=by first|exact xW _|with_unfolding_all rfl):B3 X (.Compare a [.Gt] [b] pos) (b3 (g3 ta tb)):=PT.mono (Ba L0 ha hb hm) λY H Q' zz=>x7 zz λU M Q hs hm ht k=>
 zb Y H _ ⟨U,M,_,hs,hm,ht,λv H1 d M1 hd Mh e1 q1=>by
  cases d with
  | bl c=>exact⟨c,hd.lu,k c H1 M1 Mh e1 q1⟩
  | _=>exact q1.elim⟩
end L3
namespace L2
def K1(a:Addr)(ob:Obj)(ks:QQQ):It:=⟨λi H=>∃kvs,H a=some (.frz ob (.dK kvs))/\kvs.map (·.1)=ks.map Sum.inr/\i<ks.length,λi H x H'=>H'=H/\∃k,ks[i]?=some k/\x=.str k,λi H=>∃kvs,H a=some (.frz ob (.dK kvs))/\kvs.map (·.1)=ks.map Sum.inr/\ks.length<=i⟩
def Gy{k:nZ}{v:Vl}(h:vz k v=true)(x:Str)(e:k=.inr x):∃t,v=.str x t:=by
 subst e;rcases nV h with⟨_,_,z,_⟩|⟨y,t,z,rfl⟩
 .cases z
 .cases z;exact⟨t,rfl⟩
variable {X:Cx}{Mf:T0 (Addr × Obj)}{Y:St}{H:Hp}{s:Sd}
def C5{P:Pg}{w:Wo}{h:Heap}{a:Addr}{ob:Obj}{es:Array DictEntry}{ep:Nat}{kvs:T0 (nZ×V)}(ok:tz P w H h)(e:H a=some (.frz ob (.dK kvs)))(hd:ob.data=.dict es ep):∃vs,KV kvs vs/\h.DictAt (nU P w) a vs ep:=by obtain⟨e1,_,_,vs,kv,o',MW,OH,e2,r1,r2,r3⟩:=(show oo P w H h a (.frz ob (.dK kvs))from ok a _ e);rw[e1]at e2;cases e2;rw[hd]at r2;cases r2;exact⟨vs,kv,ob,es,e1,r1,hd,r3⟩
def Ca{P:Pg}{w:Wo}{K:m9}{tg:Expr}(a it:Addr){ob:Obj}{es:Array DictEntry}{ep:Nat}{ks:QQQ}(hd:ob.data=.dict es ep):yb P w K tg (K1 a ob ks) [it] it (λi h=>h.IsKeyIter it a i ks.length ep) where
 mem:=by simp
 obj:=λi h st b hb=>by
  have e:b=it:=by simpa using hb
  subst e;obtain⟨o,e,c,d⟩:=st;exact⟨o,e,λv z=>by rw[d]at z;cases z⟩
 keep:=λi h h' st k=>st.at λo e=>k it (by simp) o e
 item:=by
  intro X hP hw hK hc i Mf s Y H E I hf st hg;subst hP hw hK;obtain⟨kvs,e1,ke,lt⟩:=hg;obtain⟨vs,kv,da⟩:=C5 I.lC e1 hd;have kk:=(KV.keys kv).symm.trans ke;have ln:ks.length=vs.length:=by
   have:=c8 List.length kk
   simpa using this.symm
  obtain⟨f0,f1,f2,f3,f4,f5⟩:=hf it (by simp);obtain⟨⟨k,y⟩,hx⟩:∃p,vs[i]?=some p:=⟨_,bF (by lia)⟩;obtain⟨z,hz⟩:∃z,ks[i]?=some z:=⟨_,bF lt⟩;have ek:k=.inr z:=by
   have e2:=c8 (λl:List nZ=>l[i]?) kk
   simpa only [bM,hx,hz,fR,iq]using e2
  rw[ln]at st;refine wpAny_pyNext_dict_item st da hx λkey h' Nv Mi sb=>?_;obtain⟨t,rfl⟩:=Gy Nv z ek;have I1:Inv X Mf Y H {s with heap:=h'}:=I.turned (t':=s.toks) (λb o hb e=>(sb.2 b hb).trans e) f0 f1 f3 f4 f5;obtain⟨o,e,c,d⟩:=id Mi;rw[<-ln]at Mi;exact⟨_,rfl,zj (s:={s with heap:=h'}) e c d (by decide) ⟨.str z,H,I1,⟨t,rfl⟩,⟨rfl,z,hz,rfl⟩,Mi,λb hb=>(hf b hb).1⟩⟩
 done:=by
  intro X hP hw hK hc i Mf s Y H E I hf st hg;subst hP hw hK;obtain⟨kvs,e1,ke,le⟩:=hg;obtain⟨vs,kv,da⟩:=C5 I.lC e1 hd;have ln:ks.length=vs.length:=by
   have:=c8 List.length ((KV.keys kv).symm.trans ke)
   simpa using this.symm
  obtain⟨f0,f1,f2,f3,f4,f5⟩:=hf it (by simp);rw[ln]at st;exact wpAny_pyNext_dict_end (I.ok.hd hc) st da (dh (by lia)) λh' eb=>⟨rfl,I.turned (t':=s.toks) (λb o hb e=>eb b o hb e) f0 f1 f3 f4 f5⟩
 self:=λ_ _ _ _ _ st h=>wpAny_pyIter_keyiter st h
def GL{tg l:Expr}{tl:TE}(hl:PE X l tl):PI X tg l (λY H R=>tl Y H λx H1=>∃a kvs ks,x=.ref a/\H1 a=some (.dK kvs)/\kvs.map (·.1)=ks.map Sum.inr/\∀ob,R (K1 a ob ks) (upd H1 a (.frz ob (.dK kvs)))):=by
 intro Mf s Y H R I h;refine pB (hl Mf s Y H _ I h) λv s1 zz=>?_;obtain⟨x,H1,I1,r1,a,kvs,ks,ex,e1,hk,q⟩:=zz;subst ex;obtain rfl:v=Value.ref a:=r1;obtain⟨z1,z2,vs,kv,ob,es,ep,e2,r⟩:=(show oo X.prog X.w H1 s1.heap a (.dK kvs)from I1.lC a _ e1);have I2:Inv X Mf Y (upd H1 a (.frz ob (.dK kvs))) s1:=I1.write (x:=a) (e:=a) (t':=s1.toks) (h':=s1.heap) (o:=.frz ob (.dK kvs)) (by rw[e1];trivial) (.inl rfl) (λ_ _ _ e=>e) ⟨_,e2⟩ ⟨e2,z1,z2,vs,kv,ob,es,ep,e2,r⟩;refine wpAny_pyIter_dict (kvs:=vs) (ep:=ep) z2 ⟨ob,es,e2,r⟩ ?_;rw[show vs.length=ks.length by have:=c8 List.length ((KV.keys kv).symm.trans hk);simpa using this];refine⟨s1.heap.objs.size,[s1.heap.objs.size],_,_,_,rfl,I2.kept (t':=s1.toks) λb o e=>bp _ e,Ca a _ r.2.1,⟨_,bE _ rfl,rfl,rfl⟩,λb hb=>?_,q ob⟩;obtain rfl:b=s1.heap.objs.size:=by simpa using hb
 exact I2.lX (bB _) (I2.lC.fresh (bB _))
end L2
namespace L3
open L2
variable {X:Cx}{K:m9}{H H1:Hp}{M:Mp}{tg l o i:Expr}{t td tk:T3}{pos:Pos}
def DL{a:Addr}{ob:Obj}{ks:QQQ}{kvs:T0 (nZ×D)}(hk:kvs.map (·.1)=ks.map Sum.inr):xF K H1 (K1 a ob ks) (ks.map D.str) (λM=>M a=some (.fd ob kvs)) where
 go:=λi H M hi hm ok e1=>by obtain⟨vs,e,k1,_⟩:=hm a _ ok;exact⟨vs,e,k1.trans hk,by simpa using hi⟩
 mv:=λi d H M x H' hd hm ok e1 y=>by obtain⟨e,k,e2,rfl⟩:=y;subst e;rw[bM,e2]at hd;cases hd;exact⟨.str,hm,.refl⟩
 stop:=λH M hm ok e1=>by obtain⟨vs,e,k1,_⟩:=hm a _ ok;exact⟨vs,e,k1.trans hk,by simp⟩
def JZ(t:T3):D9:=λU M R=>t U M λx M1=>match x with
 | .ref a=>(vS M1 a).elim False λkvs=>∃ks:QQQ,kvs.map (·.1)=ks.map Sum.inr/\∀ob,R (ks.map D.str) (λM=>M a=some (.fd ob kvs)) (mL M1 a (.fd ob kvs))
 | _=>False
def Bt(h:E3 X l t):I3 X tg l (JZ t):=PI.mono (GL h) λY H R' zz=>x7 zz λU M R hs hm ht k=>
 ⟨U,M,_,hs,hm,ht,λv H1 d M1 hd Mh e1 q1=>by
  cases d with
  | ref a=>cases hd.lm;obtain⟨kvs,e0,ks,hk,q⟩:=nH q1;obtain⟨vs,h1,h2,h3⟩:=zT Mh e0;refine⟨a,vs,ks,rfl,h1,h2.trans hk,λob=>?_⟩;obtain⟨p1,p2⟩:=Mh.put (p:=a) (o:=.frz ob (.dK vs)) (c:=.fd ob kvs) (xZ e0) λx=>⟨vs,m7,h2,h3.mono x⟩;exact k _ _ _ _ _ (DL hk) p1 (e1.trans p2) mN (q ob)
  | _=>exact q1.elim⟩
def Ht(M:Mp)(a:Addr):Option (T0 (nZ×D)):=match M a with
 | some (.fd _ kvs)=>some kvs
 | _=>none
def EN{K:m9}{H:Hp}{M:Mp}{a:Addr}{kvs:T0 (nZ×D)}(hm:HM K H M)(h:Ht M a=some kvs):∃ob vs,H a=some (.frz ob (.dK vs))/\vs.map (·.1)=kvs.map (·.1)/\mS K H (kvs.map (·.2)) (vs.map (·.2)):=by
 unfold Ht at h;split at h
 .rename_i e;cases h;obtain⟨vs,r⟩:=hm a _ e;exact⟨_,vs,r⟩
 .cases h
def Dg(x y:D)(M:Mp)(Q:DK):Prop:=match x,y with
 | .ref a,.str k=>(Ht M a).elim False λkvs=>(qQ kvs (.inr k)).elim False λd=>Q d M
 | _,_=>False
def Kl(td tk:T3):T3:=λU M Q=>td U M λx M1=>tk U M1 λy M2=>Dg x y M2 Q
def BM(hu:X.A.units+9<cLine)(ho:E3 X o td)(hi:E3 X i tk)(hs:tJ i:=by exact λ_ _=>rfl):E3 X (.Subscript o i pos) (Kl td tk):=by
 refine PE.mono (Bg (r:=R3 X.K Dg) (λvalue Mo Mf s Y H vx vy v u Q' I rx ry h hs=>?_) ho hi hs) zb;obtain⟨x,y,M,Q,hx,hy,hm,q,k⟩:=h;unfold Dg at q;split at q
 .rename_i a0 k0;obtain⟨kvs,e1,q⟩:=nH q;obtain⟨d,e2,q⟩:=nH q;cases hx.lm;cases hy.str_inv;obtain⟨ob,vs,h1,h2,h3⟩:=EN hm e1;obtain⟨w,e3,hw⟩:=(xA h2 h3).1 d e2;refine BJ (by lia) value Mo Mf s Y H _ _ v u Q' I rx ry ⟨_,w,rfl,?_,k _ _ _ _ hw hm .refl q⟩ hs;have g:Ao H a0 (kV (Sum.inr k0)) (rC vs (Sum.inr k0)):=.inl ⟨vs,.inr k0,.inr ⟨ob,h1⟩,rfl,rfl⟩;rw[e3]at g;exact g
 .exact q.elim
def qA(p:Str×Str):D:=.tup [.str p.1,.str p.2]
def qO(h:Heap):Vl->Option (Str×Str)
 | .ref t=>match h.get? t with
  | some o=>match o.data with
   | .seq its _=>match its.toList with
    | [.str a _,.str b _]=>some (a,b)
    | _=>none
   | _=>none
  | none=>none
 | _=>none
variable {Mf:T0 (Addr × Obj)}{Y:L2.St}{s:Sd}
def IJ(I:Inv X Mf Y H s){p:Str×Str}{v:V}{u:Vl}(h:n8 X.K H (qA p) v)(r:nK v u):qO s.heap u=some p:=by
 obtain⟨t,xs,rfl,h1,h2⟩:=h.lw;obtain rfl:u=Value.ref t:=r;obtain⟨x1,r1,rfl,g1,g2⟩:=h2.inv;obtain⟨x2,r2,rfl,g3,g4⟩:=g2.inv;cases g1.str_inv;cases g3.str_inv;cases g4.nil_inv;obtain⟨its,rv,pl,_⟩:=I.tuple h1;obtain⟨o,ho,hd⟩:∃o,s.heap.get? t=some o/\∃n,o.data=.seq its.toArray n:=by obtain⟨o,ho,_,n,hd⟩:=pl;exact⟨o,ho,n,hd⟩
 obtain⟨n,hd⟩:=hd;cases rv with
 | cons a1 b1=>
  cases b1 with
  | cons a2 b2=>cases b2;obtain⟨t1,rfl⟩:=a1;obtain⟨t2,rfl⟩:=a2;show(match s.heap.get? t with|some o=>_|none=>none)=some p;rw[ho];show(match o.data with|.seq its _=>_|_=>none)=some p;rw[hd]
theorem EA(I:Inv X Mf Y H s):∀{ps:T0 (Str×Str)} {xs:T0 V} {us:T0 Vl},mS X.K H (ps.map qA) xs->nv xs us->us.map (qO s.heap)=ps.map some
 | [],xs,us,h,r=>by cases h.nil_inv;cases r;rfl
 | p::ps,xs,us,h,r=>by
  obtain⟨x,xs',rfl,h1,h2⟩:=h.inv;cases r with
  | cons a b=>rw[b6,b6,IJ I h1 a,EA I h2 b]
def Ia(x y:D)(M:Mp)(Q:DK):Prop:=match x,y with
 | .tup [.str a,.str b],.ref p=>∃ps:T0 (Str×Str),ma M p=some (ps.map qA)/\Q (.bl (ps.contains (a,b))) M
 | _,_=>False
def FF(p q:Str×Str):sA M 8 (qA p) (qA q)=some (p==q):=by have:sA M 8 (qA p) (qA q)=some (((p.1==q.1)&&((p.2==q.2)&&true))&&true):=rfl;rw[this,kY,kY];rfl
def Lk(hu:X.A.units+9<cLine):sf X (compareOp .In) (R3 X.K Ia):=by
 intro Mf s Y H vx vy v u Q' I rx ry h;obtain⟨x,y,M,Q,hx,hy,hm,q,k⟩:=h;unfold Ia at q;split at q
 .rename_i a b p;obtain⟨ps,e0,q⟩:=q;cases hy.lm;cases ry;obtain⟨xs,h1,h2,_⟩:=mR hm e0;obtain⟨its,r,pl,hz⟩:=I.list h1;have pa:=EA I h2 r;refine kE (λw=>qO s.heap w==some (a,b)) pl.isList (λw hw=>?_) ⟨.bl _,H,I,rfl,k _ _ _ _ .bl hm .refl (cast ?_ q)⟩
  .obtain⟨i,hi⟩:=List.getElem?_of_mem (by simpa using hw:w∈its);have hj:=c8 (λl:T0 (Option (Str×Str))=>l[i]?) pa;simp only[bM,hi,fR]at hj;cases e:ps[i]? with
   | none=>rw[e]at hj;cases hj
   | some p0=>rw[e]at hj;have hj:qO s.heap w=some p0:=bJ hj;obtain⟨v0,e3,hv⟩:=h2.get (i:=i) (d:=qA p0) (by rw[bM,e];rfl);obtain⟨w',e4,NS⟩:=r.get e3;rw[hi]at e4;cases e4;have:=(vK I hm 8 X.A.in1 (qA p0) (qA (a,b)) (p0==(a,b)) v0 _ w v (by show X.A.units+1+8<cLine;lia) (FF p0 (a,b)) hv hx NS rx).2.1;show SeqAt.EqAt _ _ _ _ (qO s.heap w==some (a,b));rw[hj];exact this
  .have:(its.toArray.any λw=>qO s.heap w==some (a,b))=ps.contains (a,b):=by
    rw[show(its.toArray.any λw=>qO s.heap w==some (a,b))=its.any λw=>qO s.heap w==some (a,b)by simp];have e1:(its.any λw=>qO s.heap w==some (a,b))=(its.map (qO s.heap)).any (·==some (a,b)):=by rw[jP];rfl
    rw[e1,pa,jP,gg];congr 1;funext z;show(some z==some (a,b))=((a,b)==z);rw[jy];rfl
   rw[this]
 .exact q.elim
def L9(ta tb:T3):T3:=λU M Q=>ta U M λx M1=>tb U M1 λy M2=>Ia x y M2 Q
def Hq{a b:Expr}{ta tb:T3}{pos:Pos}(hu:X.A.units+9<cLine)(ha:E3 X a ta)(hb:E3 X b tb)(hm:behindInMarks .In b=false:=by first|exact xW _|with_unfolding_all rfl):E3 X (.Compare a [.In] [b] pos) (L9 ta tb):=PE.mono (yf (Lk hu) ha hb hm) zb
end L3
namespace L3
open L2
def zU(i:Nat){X:Cx}{pos:Pos}{x:Str}(h1:X.N[i]?=some x:=by rfl)(h2:Km X.env.scope x:=by first|exact Or.inl rfl|exact Or.inr (Or.inl rfl)|exact Or.inr (Or.inr rfl))(h3:va x:=by decide)(h4:(x==("__classdict__":Str))=false:=by decide):E3 X (.Name x pos) (v3 i):=IY i (pv i h1 h2 h3 h4)
variable {X:Cx}{pos:Pos}
def Mc{N:QQQ}(h:decide N.Nodup=true):N.Nodup:=dU h
def mY(i:Nat){x:Str}{e:Expr}{te:T3}{MB:Pos}{ps:QQQ}{sc:Scope}(S:pX X.N ps sc)(he:E3 X e te)(hi:X.N[i]?=some x:=by rfl)(hx:EH X.env.scope x:=by first|exact Or.inl rfl|exact Or.inr rfl)(NY:swapsWith e (some (.Name x MB)) pos.line X.env=pure false:=by rfl)(hf:De X x:=by first|exact .inl rfl|exact .inr rfl|assumption):S3 X (.Assign [.Name x MB] e pos) (Io te (qY i)):=Ie S.nd hi hx he NY hf
def oN(i:Nat){x:Str}{ps:QQQ}{sc:Scope}(S:pX X.N ps sc)(hi:X.N[i]?=some x:=by rfl)(hx:EH X.env.scope x:=by first|exact Or.inl rfl|exact Or.inr rfl)(hf:De X x:=by first|exact .inl rfl|exact .inr rfl|assumption):G3 X (.Name x pos) (qY i):=Bx S.nd hi hx hf
def nJ(i:Nat){x:Str}(hN:decide X.N.Nodup=true:=by kernel_rfl)(hi:X.N[i]?=some x:=by rfl)(hx:EH X.env.scope x:=by first|exact Or.inl rfl|exact Or.inr rfl)(hf:De X x:=by first|exact .inl rfl|exact .inr rfl|assumption):G3 X (.Name x pos) (qY i):=Bx (Mc hN) hi hx hf
abbrev Sc(n:Nat)(N:QQQ)(s:Stmt):=pX N (N.take n) (ng s)
def sk{n:Nat}{N:QQQ}{s:Stmt}(h:HD N (N.take n) (ng s)=true:=by decide+kernel):Sc n N s:=L5 h
def oR{X:Cx}{e0:Expr}{t0:T3}(h0:E3 X e0 t0)(g0:starEach [e0] X.env=(false,eval e0 X.env)::starEach [] X.env:=by rfl):A3 X [e0] (tj t0 vq):=(oy h0 qN g0)
def qa{X:Cx}{e0 e1:Expr}{t0 t1:T3}(h0:E3 X e0 t0)(h1:E3 X e1 t1)(g0:starEach [e0,e1] X.env=(false,eval e0 X.env)::starEach [e1] X.env:=by rfl)(g1:starEach [e1] X.env=(false,eval e1 X.env)::starEach [] X.env:=by rfl):A3 X [e0,e1] (tj t0 (tj t1 vq)):=(oy h0 (oy h1 qN g1) g0)
def qP{X:Cx}{e0 e1 e2:Expr}{t0 t1 t2:T3}(h0:E3 X e0 t0)(h1:E3 X e1 t1)(h2:E3 X e2 t2)(g0:starEach [e0,e1,e2] X.env=(false,eval e0 X.env)::starEach [e1,e2] X.env:=by rfl)(g1:starEach [e1,e2] X.env=(false,eval e1 X.env)::starEach [e2] X.env:=by rfl)(g2:starEach [e2] X.env=(false,eval e2 X.env)::starEach [] X.env:=by rfl):A3 X [e0,e1,e2] (tj t0 (tj t1 (tj t2 vq))):=(oy h0 (oy h1 (oy h2 qN g2) g1) g0)
abbrev u0:=@zU 0
abbrev V1:=@zU 1
abbrev V2:=@zU 2
abbrev V3:=@zU 3
abbrev v5:=@zU 5
abbrev v4:=@zU 4
abbrev v6:=@zU 6
abbrev v7:=@zU 7
abbrev v8:=@zU 8
abbrev v9:=@zU 9
abbrev KN:=@zU 10
abbrev J9:=@zU 14
abbrev LR:=@zU 13
abbrev LX:=@zU 15
abbrev LW:=@zU 16
variable {P:Pg}{w:Wo}{K:m9}{mg:QQZ}{base:Heap}
def fq{x qual:Str}{st:Stmt}{fa:FA}{N ps:QQQ}{k:Nat}{sp:pP}(F:DG K st x qual ps fa)(S:pX N ps (ng st)) (hb:∀{Mv:Vl} {A:Ar} {outer:T0 Env} {s:Sd} {H:Hp} {E:XK},oO k (A.deeper (envOfC qual (ng st) s.heap.objs.size fa.f Mv))->(A.deeper (envOfC qual (ng st) s.heap.objs.size fa.f Mv)).units+9<cLine->
   ∃t,En (xY E4 P w K mg base N qual (ng st) fa.f Mv A outer s H E).mf (oK st) t/\∀ds M Q,sp ds M Q->t {nx:=λ_ M'=>∃Mw,nW Mw M'/\Q .lB Mw,rt:=λd M'=>∃Mw,nW Mw M'/\Q d Mw} (uj N ds) M) (len:∀ds M Q,sp ds M Q->ds.length=ps.length:=by walk_at "l"):Fq P w K mg base (k+1) fa sp:=Ls F S len λ_ _ _ _ _ _ h=>hb h (L7 h)
def u7{X:Cx}{scope:Scope}{ix:T0 (Option Nat)}{N':QQQ}(h:Ai X.env.scope X.N scope ix N'=true:=by kernel_rfl):om X scope ix N':=JK h
end L3
namespace Z
open L2 L3
def yR{M:L3.Mp}{x:PySem.Addr}{ds:T0 L3.D}(h:M x=none):∃M',M'=L3.mL M x (.lst ds)/\nW M M'/\L3.ma M' x=some ds:=⟨_,rfl,nW.new h,L3.mP⟩
def qp(i:Nat):Stmt:=PySem.Challenge.pw_callboard_k34_all_rings.main.body.getD i (.Pass ⟨0,0,0,0⟩)
abbrev tm(i j:Nat):Stmt:=Gq (qp i) j
def qD:Sc 1 ["plan","goals","on","wish"] (qp 2):=sk
def pH:Sc 2 ["goals","path","found","goal"] (qp 3):=sk
def qF:Sc 1 ["plan","goals","found","name"] (qp 4):=sk
def vN:Sc 1 ["told","word"] (qp 20):=sk
def Fw:Sc 2 ["holds","words"] (qp 35):=sk
def Az:Sc 1 ["text"] (qp 36):=sk
def wf:Sc 1 ["things"] (qp 37):=sk
def xI:Sc 3 ["chosen","known","most"] (qp 38):=sk
def o9:Sc 1 ["phones","name","lines","rank"] (qp 39):=sk
def pf:Sc 2 ["groups","phone_names","name","manner","members"] (qp 40):=sk
def wg:Sc 4 ["kind","part","phone_names","names"] (qp 41):=sk
def o6:Sc 3 ["wish","phone_names","names","form","parts","kind","part"] (qp 42):=sk
def pZ:Sc 3 ["wishes","phone_names","names","on","wish"] (qp 43):=sk
def qK:Sc 3 ["phones","groups","wishes","phone_names","names"] (qp 44):=sk
def Cb:Sc 2 ["_law_script","_law_k"] (qp 47):=sk
def zR:Sc 3 ["_law_cell","_law_factor","_law_many"] (qp 48):=sk
def pC:Sc 2 ["_law_seed","_law_which","_law_letters","_law_size","_law_place","_law_rest","_law_sign"] (qp 49):=sk
def rN:Sc 3 ["_law_row","_law_cell","_law_most","_law_first","_law_size"] (qp 50):=sk
def oX:Sc 3 ["_law_cell","_law_own","_law_names","_law_a","_law_place","_law_b","_law_c","_law_pick","_law_first"] (qp 51):=sk
def oF:Sc 2 ["_law_cell","_law_names","_law_place","_law_b","_law_c","_law_hour","_law_some_here"] (qp 52):=sk
def oH:Sc 1 ["_law_names","_law_rows_here","_law_found","_law_size","_law_longer","_law_row"] (qp 53):=sk
def tZ:Sc 2 ["_law_row","_law_pairs"] (qp 54):=sk
def oM:Sc 1 ["_law_script","_law_seed","_law_phones","_law_own","_law_groups","_law_names","_law_wishes","_law_k","_law_cell","_law_told","_law_whole","_law_forwarding","_law_pairs","_law_due","_law_found","_law_row","_law_stays"] (qp 55):=sk
def yE:Sc 4 ["self","phones","groups","wishes"] (tm 45 0):=sk
def yU:Sc 2 ["self","told"] (tm 11 0):=sk
def yi:Sc 1 ["self"] (tm 10 1):=sk
def yr:Sc 2 ["self","told"] (tm 12 0):=sk
def uS:Sc 2 ["self","told"] (tm 13 0):=sk
def wx:Sc 2 ["self","told"] (tm 15 0):=sk
def vo:Sc 2 ["self","told"] (tm 17 0):=sk
def xC:Sc 2 ["self","told"] (tm 18 0):=sk
def vR:Sc 2 ["self","told"] (tm 19 0):=sk
def we:Sc 1 ["self"] (tm 45 1):=sk
def ym:Sc 1 ["self"] (tm 11 1):=sk
def wq:Sc 1 ["self"] (tm 12 1):=sk
def uh:Sc 1 ["self"] (tm 13 1):=sk
def wA:Sc 1 ["self"] (tm 18 1):=sk
def uK:Sc 1 ["self"] (tm 19 1):=sk
def yx:Sc 2 ["self","told"] (tm 10 0):=sk
def sv:Sc 1 ["self"] (tm 45 2):=sk
noncomputable def Cs:T0 (Str×QQQ):=[("bar",["phone","names"]),("shut",["name","phones"]),("always",["name","name"]),("night",["name","name","hour","hour"]),("busy",["name","name"]),("silent",["name","name","turns"]),("wait",["phone"]),("breaks",["phone"])]
set_option genInjectivity false in
structure Ad where
 (B i C ac j E F y ad ae af ag ah ai H g I J aj ak al am L M N h O t P Q R S an T U k V X w ao:FA)
 (x l m z u n v o q r e:Addr)
structure Gl(K:m9)(mg:QQZ)(a:Ad):Prop where
 x:CG K mg "Wish" a.x
 l:CG K mg "Bar" a.l
 m:CG K mg "Shut" a.m
 z:CG K mg "Forward" a.z
 u:CG K mg "Always" a.u
 n:CG K mg "Night" a.n
 v:CG K mg "Busy" a.v
 o:CG K mg "Silent" a.o
 q:CG K mg "Wait" a.q
 r:CG K mg "Breaks" a.r
 e:CG K mg "Plan" a.e
 B:TG K mg (qp 2) "goals_of" ["plan"] a.B
 i:TG K mg (qp 3) "rings_along" ["goals","path"] a.i
 C:TG K mg (qp 4) "rings_of" ["plan"] a.C
 ac:TG K mg (qp 20) "wish_of" ["told"] a.ac
 j:TG K mg (qp 35) "need" ["holds","words"] a.j
 E:TG K mg (qp 36) "is_name" ["text"] a.E
 F:TG K mg (qp 37) "all_unlike" ["things"] a.F
 y:TG K mg (qp 38) "is_choice" ["chosen","known","most"] a.y
 ad:TG K mg (qp 39) "check_phones" ["phones"] a.ad
 ae:TG K mg (qp 40) "check_groups" ["groups","phone_names"] a.ae
 af:TG K mg (qp 41) "part_holds" ["kind","part","phone_names","names"] a.af
 ag:TG K mg (qp 42) "check_wish" ["wish","phone_names","names"] a.ag
 ah:TG K mg (qp 43) "check_wishes" ["wishes","phone_names","names"] a.ah
 ai:TG K mg (qp 44) "check_plan" ["phones","groups","wishes"] a.ai
 H:TG K mg (qp 47) "_law_at" ["_law_script","_law_k"] a.H
 g:TG K mg (qp 48) "_law_draw" ["_law_cell","_law_factor","_law_many"] a.g
 I:TG K mg (qp 49) "_law_word" ["_law_seed","_law_which"] a.I
 J:TG K mg (qp 50) "_law_some" ["_law_row","_law_cell","_law_most"] a.J
 aj:TG K mg (qp 51) "_law_wish" ["_law_cell","_law_own","_law_names"] a.aj
 ak:TG K mg (qp 52) "_law_forward" ["_law_cell","_law_names"] a.ak
 al:TG K mg (qp 53) "_law_rows" ["_law_names"] a.al
 am:TG K mg (qp 54) "_law_goes_round" ["_law_row","_law_pairs"] a.am
 L:TG K mg (qp 55) "law" ["_law_script"] a.L
 M:MG K a.e (tm 45 0) "__init__" "Plan.__init__" ["self","phones","groups","wishes"] a.M
 N:MG K a.l (tm 11 0) "__init__" "Bar.__init__" ["self","told"] a.N
 h:MG K a.x (tm 10 1) "told" "Wish.told" ["self"] a.h
 O:MG K a.m (tm 12 0) "__init__" "Shut.__init__" ["self","told"] a.O
 t:MG K a.z (tm 13 0) "__init__" "Forward.__init__" ["self","told"] a.t
 P:MG K a.n (tm 15 0) "__init__" "Night.__init__" ["self","told"] a.P
 Q:MG K a.o (tm 17 0) "__init__" "Silent.__init__" ["self","told"] a.Q
 R:MG K a.q (tm 18 0) "__init__" "Wait.__init__" ["self","told"] a.R
 S:MG K a.r (tm 19 0) "__init__" "Breaks.__init__" ["self","told"] a.S
 an:MG K a.e (tm 45 1) "names" "Plan.names" ["self"] a.an
 T:MG K a.l (tm 11 1) "wants" "Bar.wants" ["self"] a.T
 U:MG K a.m (tm 12 1) "wants" "Shut.wants" ["self"] a.U
 k:MG K a.z (tm 13 1) "wants" "Forward.wants" ["self"] a.k
 V:MG K a.q (tm 18 1) "wants" "Wait.wants" ["self"] a.V
 X:MG K a.r (tm 19 1) "wants" "Breaks.wants" ["self"] a.X
 w:MG K a.x (tm 10 0) "__init__" "Wish.__init__" ["self","told"] a.w
 ao:MG K a.e (tm 45 2) "phone_names" "Plan.phone_names" ["self"] a.ao
 aJ:Mk K a.e a.M.f
 aK:Mk K a.l a.N.f
 aL:Mk K a.m a.O.f
 aM:Mk K a.u a.t.f
 aN:Mk K a.n a.P.f
 aO:Mk K a.v a.t.f
 aP:Mk K a.o a.Q.f
 aQ:Mk K a.q a.R.f
 aR:Mk K a.r a.S.f
 aS:sW K a.l "told" a.h.f
 aT:sW K a.m "told" a.h.f
 aU:sW K a.u "told" a.h.f
 aV:sW K a.n "told" a.h.f
 aW:sW K a.v "told" a.h.f
 aX:sW K a.o "told" a.h.f
 aY:sW K a.q "told" a.h.f
 aZ:sW K a.r "told" a.h.f
 a0:sW K a.u "wants" a.k.f
 a1:sW K a.n "wants" a.k.f
 a2:sW K a.v "wants" a.k.f
 a3:sW K a.o "wants" a.k.f
 Y:Dk K a.x "__init__" a.w.f
 az:Dk K a.z "__init__" a.t.f
 A:uT K a.e ["phones","groups","wishes","on","phone_rows","group_rows"]
 au:uT K a.l ["form","phone","targets"]
 av:uT K a.m ["form","target","callers"]
 aw:uT K a.u ["form","target","goal"]
 Z:uT K a.n ["form","target","goal","first","last"]
 ax:uT K a.v ["form","target","goal"]
 ap:uT K a.o ["form","target","goal","turns"]
 aA:uT K a.q ["form","phone"]
 aB:uT K a.r ["form","phone"]
 aC:W.kitOne K (.type "list") (.type "list")=some true
 aa:mg "range"=none
 aD:mg "tuple"=none
 aE:mg "isinstance"=none
 ab:mg "list"=none
 aq:mg "all"=none
 c:mg "len"=none
 ar:mg "dict"=none
 ay:mg "sorted"=none
 a4:mg "min"=none
 aF:mg "zip"=none
 aG:mg "set"=none
 a5:KD K mg "MOST_PHONES" (.int 8)
 a6:KD K mg "MOST_LINES" (.int 3)
 a7:KD K mg "MOST_RANK" (.int 9)
 a8:KD K mg "MOST_GROUPS" (.int 3)
 a9:KD K mg "MANNERS" (.tup ((["all","turns"]:QQQ).map D.str))
 ba:KD K mg "MOST_MEMBERS" (.int 4)
 bb:KD K mg "MOST_WISHES" (.int 16)
 bc:KD K mg "MOST_SIGNS" (.int 6)
 bd:KD K mg "LETTERS" (.str "abcdefghijklmnopqrstuvwxyz")
 aH:DT K mg "FORMS" Cs
 aI:KD K mg "MOST_LISTED" (.int 6)
 be:KD K mg "LAST_HOUR" (.int 23)
 bf:KD K mg "MOST_TURNS" (.int 9)
noncomputable def mX(c f m:Int):Int:=(c % 2147483647+5)*f % 2147483629 / 89 % m
def nQ{c f m:Int}(h:0<m):0<=mX c f m:=cq _ (by lia)
def nG{c f m:Int}(h:0<m):mX c f m<m:=cf _ h
def FZ:pP:=λds M Q=>A9 λc f m=>ds=[.int c,.int f,.int m]/\0<m/\Q (.int (mX c f m)) M
noncomputable def pI:Str:="abcdefghijklmnopqrstuvwxyz"
noncomputable def pk(i:Int):Str:=⟨#[97+i.toNat]⟩
noncomputable def size(s:Int):Int:=1+s % 6
noncomputable def place(s:Int):Int:=s / 6 % size s
noncomputable def word(s v:Int):Str:=s8 (pk (s / 36 % 26)) (place s)++pk ((s / 936+v) % 26)++s8 (pk (s / 36 % 26)) (size s - 1 - place s)
def FK:pP:=λds M Q=>E1 λs v=>ds=[.int s,.int v]/\Q (.str (word s v)) M
noncomputable def cell(ns:T0 Int)(i:Int):Int:=if 0<=i/\i<ns.length then ns.getD i.toNat 0 else 0
def J7:pP:=λds M Q=>E1 λns i=>ds=[.rl (ns.map D.int),.int i]/\Q (.int (cell ns i)) M
def yO(c:Int):0<size c:=by unfold size;have:=cq c (show(6:Int)≠0 by decide);lia
def BP(c:Int):size c<=6:=by unfold size;have:=cf c (show(0:Int)<6 by decide);lia
def zp(i n:Int):(s8 (pk i) n).length=n.toNat:=by show((List.replicate n.toNat (pk i).cps).foldl (·++·) #[]:Array Nat).size=n.toNat;rw[BE];show n.toNat*1=n.toNat;lia
def uD:pI.length<=sizeLine:=by decide+kernel
variable {P:Pg}{w:Wo}{K:m9}{mg:QQZ}{base:Heap}{a:Ad}(G:Gl K mg a)
def ou:Fq P w K mg base 1 a.g FZ:=by
 refine fq G.g.toDG zR (λr u=>⟨_,(mK (mT (m8 (m8 (m8 (m8 (m8 (m8 u0 mJ) mJ) V1) mJ) mJ) V2))),?_⟩)
 rintro ds M Q ⟨c,f,m,rfl,hm,q⟩
 refine⟨by decide,.inl ?_,by decide,⟨by decide,by decide⟩,hm,M,.refl,q⟩;have h1:0<=c % 2147483647:=cq _ (by decide);have h2:c % 2147483647<2147483647:=cf _ (by decide);exact⟨by lia,by lia⟩
def wU{i:Int}(h0:0<=i)(h1:i<26):tE pI.cps.toList i=some (97+i.toNat):=by
 obtain⟨n,rfl⟩:=cH h0;have hn:n<26:=by lia
 have key:∀n:_root_.Fin 26,tE pI.cps.toList ((n.val:Nat):Int)=some (97+n.val):=by decide+kernel
 exact key ⟨n,hn⟩
def BQ:Fq P w K mg base 1 a.I FK:=by
 refine fq G.I.toDG pC (λr u=>⟨_,(mI (mY 2 pC mO)
 (mI (mY 3 pC (m8 mJ (m8 u0 mJ)))
 (mI (mY 4 pC (m8 (m8 u0 mJ) V3))
 (mI (mY 5 pC (nj V2 (m8 (m8 u0 mJ) mJ)))
 (mI (mY 6 pC (nj V2 (m8 (m8 (m8 u0 mJ) V1) mJ)))
 (mK (mT (m8 (m8 (m8 v5 v4) v6) (m8 v5 (m8 (m8 V3 mJ) v4)))))))))),?_⟩)
 rintro ds M Q ⟨c,v,rfl,q⟩
 have hs:=yO c;have hs6:=BP c;have hp0:0<=place c:=cq _ (by lia);have hp1:place c<size c:=cf _ hs;have l1:=zp (c / 36 % 26) (place c);have l2:=zp (c / 36 % 26) (size c - 1 - place c);have hz:=cb;refine⟨by decide,⟨by decide,by decide⟩,hs,⟨by decide,by decide⟩,by decide,uD,mH (wU (cq _ (by decide)) (cf _ (by decide))) ?_⟩;refine⟨⟨by decide,by decide⟩,by decide,uD,mH (wU (cq _ (by decide)) (cf _ (by decide))) ?_⟩;refine⟨⟨?_,?_,?_⟩,?_,⟨?_,?_,?_⟩,?_,M,.refl,q⟩
 .show place c<4096;lia
 .show -4096<place c;lia
 .show(1:Nat)<4096;decide
 .show(s8 (pk (c / 36 % 26)) (place c)).length+1<=sizeLine;lia
 .show size c - 1 - place c<4096;lia
 .show -4096<size c - 1 - place c;lia
 .show(1:Nat)<4096;decide
 .show(s8 (pk (c / 36 % 26)) (place c)++pk ((c / 936+v) % 26)).length+(s8 (pk (c / 36 % 26)) (size c - 1 - place c)).length<=sizeLine;rw[PySem.size_cat];have:(pk ((c / 936+v) % 26)).length=1:=rfl;lia
def GW:Fq P w K mg base 1 a.H J7:=by
 refine fq G.H.toDG Cb (λr u=>⟨_,(mI (oq (Dd u mJ V1 (mU oB rfl G.c oh (oR u0)))
 (mK (mT (nj u0 V1)))
 nu)
 (mK (mT mJ))),?_⟩)
 rintro ds M Q ⟨ns,i,rfl,q⟩
 refine qy (λh0=>?_) (λh0=>?_)
 .have h0:0<=i:=dU h0;refine qy (λh1=>?_) (λh1=>?_)
  .have h1:i<((ns.map D.int).length:Int):=dU h1;rw[bi]at h1;have hi:i.toNat<ns.length:=by lia
   have e:tE (ns.map D.int) i=some (D.int (ns.getD i.toNat 0)):=by
    obtain⟨n,rfl⟩:=cH h0;have hn:n<ns.length:=by lia
    refine ri ?_;rw[bM,bF hn];simp[hn]
   refine mH e ⟨M,.refl,?_⟩;have:cell ns i=ns.getD i.toNat 0:=by unfold cell;rw[bw ⟨h0,h1⟩]
   rw[<-this];exact q
  .have h1:¬i<((ns.map D.int).length:Int):=λz=>h1 (bV z);rw[bi]at h1;refine⟨M,.refl,?_⟩;have:cell ns i=0:=by unfold cell;rw[bq (λz=>h1 z.2)]
   rw[<-this];exact q
 .have h0:¬0<=i:=λz=>h0 (bV z);refine⟨M,.refl,?_⟩;have:cell ns i=0:=by unfold cell;rw[bq (λz=>h0 z.1)]
  rw[<-this];exact q
inductive Wi where
 | bar (x:Str) (ns:QQQ)|shut (x:Str) (ns:QQQ)|always (x y:Str)|night (x y:Str) (f l:Int)|busy (x y:Str)|silent (x y:Str) (n:Int)|wait (x:Str)|breaks (x:Str)
abbrev names(ns:QQQ):D:=.tup (ns.map D.str)
noncomputable def Wi.told:Wi->T0 D
 | .bar x ns=>[.str "bar",.str x,names ns]
 | .shut x ns=>[.str "shut",.str x,names ns]
 | .always x y=>[.str "always",.str x,.str y]
 | .night x y f l=>[.str "night",.str x,.str y,.int f,.int l]
 | .busy x y=>[.str "busy",.str x,.str y]
 | .silent x y n=>[.str "silent",.str x,.str y,.int n]
 | .wait x=>[.str "wait",.str x]
 | .breaks x=>[.str "breaks",.str x]
noncomputable def Wi.word:Wi->Str
 | .bar _ _=>"bar"
 | .shut _ _=>"shut"
 | .always _ _=>"always"
 | .night _ _ _ _=>"night"
 | .busy _ _=>"busy"
 | .silent _ _ _=>"silent"
 | .wait _=>"wait"
 | .breaks _=>"breaks"
noncomputable def Wi.cls(a:Ad):Wi->Addr
 | .bar _ _=>a.l
 | .shut _ _=>a.m
 | .always _ _=>a.u
 | .night _ _ _ _=>a.n
 | .busy _ _=>a.v
 | .silent _ _ _=>a.o
 | .wait _=>a.q
 | .breaks _=>a.r
noncomputable def Wi.more:Wi->T0 (Str×D)
 | .bar x ns=>[("phone",.str x),("targets",names ns)]
 | .shut x ns=>[("target",.str x),("callers",names ns)]
 | .always x y=>[("target",.str x),("goal",.str y)]
 | .night x y f l=>[("target",.str x),("goal",.str y),("first",.int f),("last",.int l)]
 | .busy x y=>[("target",.str x),("goal",.str y)]
 | .silent x y n=>[("target",.str x),("goal",.str y),("turns",.int n)]
 | .wait x=>[("phone",.str x)]
 | .breaks x=>[("phone",.str x)]
noncomputable def Wi.l5(v:Wi):T0 (Str×D):=("form",.tup v.told)::v.more
abbrev uC(ns:QQQ)(i:Int):Str:=ns.getD i.toNat Str.empty
noncomputable def rq(row:QQQ)(c m:Int):Nat:=(1+mX c 40692 (if (row.length:Int)<m then(row.length:Int)else m)).toNat
noncomputable def JL(row:QQQ)(c:Int)(j:Nat):Str:=uC row ((mX c 69621 row.length+(0+(j:Nat))) % row.length)
noncomputable def qT(row:QQQ)(c m:Int):QQQ:=(List.range (rq row c m)).map (JL row c)
def FJ:pP:=λds M Q=>E2 λr c m row=>ds=[.ref r,.int c,.int m]/\ma M r=some (row.map D.str)/\row≠[]/\0<m/\row.length<=64/\Q (names (qT row c m)) M
def yh{row:QQQ}(h:row≠[])(x:Int):tE (row.map D.str) (x % row.length)=some (D.str (uC row (x % row.length))):=by
 have hl:0<row.length:=cX.mpr h;have h0:0<=x % row.length:=cq _ (by lia);have h1:x % row.length<row.length:=cf _ (by lia);obtain⟨n,hn⟩:=cH h0;rw[hn]at h1 ⊢;have OS:n<row.length:=by lia
 refine ri ?_;rw[bM,bF OS];simp[uC,OS]
def BF:Fq P w K mg base 2 a.J FJ:=by
 refine fq G.J.toDG rN (λr u=>⟨_,(mI (mY 3 rN (mM (ou G) r G.g (qP V1 mJ (mU oB rfl G.c oh (oR u0)))))
 (mI (mY 4 rN (m8 mJ (mM (ou G) r G.g (qP V1 mJ (mU (HY rfl) rfl G.a4 I0 (qa V2 (mU oB rfl G.c oh (oR u0))))))))
 (mK (mT (oZ zG rfl G.aD zw (oR (nS rfl (u7 (ix:=[none,some 0,some 3]) (N':=["_law_j","_law_row","_law_first"])) (r9 rfl G.aa (oR v4)) (nJ 0) oA (nj V1 (m8 (m8 V2 u0) (mU oB rfl G.c oh (oR V1))))))))))),?_⟩)
 rintro ds M Q ⟨r,c,m,row,rfl,hl,N6,hm,h64,q⟩
 have Mm:0<row.length:=cX.mpr N6;have hz:=cb;have el:((row.map D.str).length:Int)=row.length:=by rw[bi]
 refine mH hl ⟨c,69621,_,rfl,by rw[el];lia,?_⟩;refine mH hl ⟨c,40692,_,rfl,by rw[el];split<;>lia,?_⟩;rw[el];have d0:=nQ (c:=c) (f:=40692) (m:=if (row.length:Int)<m then(row.length:Int)else m) (by split<;>lia);have d1:=nG (c:=c) (f:=40692) (m:=if (row.length:Int)<m then(row.length:Int)else m) (by split<;>lia);have d2:mX c 40692 (if (row.length:Int)<m then(row.length:Int)else m)<row.length+1:=by refine Int.lt_of_lt_of_le d1 ?_;split<;>lia
 refine⟨rfl,⟨?_,?_⟩,nP (f:=λd=>match d with|.int j=>D.str (uC row ((mX c 69621 row.length+j) % row.length))|_=>.lB) trivial _ [] _ ?_ (λd hd k hk=>?_) λp hp=>?_⟩
 .show -(2 ^ 62)<=1+mX c 40692 (if (row.length:Int)<m then(row.length:Int)else m);lia
 .show 1+mX c 40692 (if (row.length:Int)<m then(row.length:Int)else m)<2 ^ 62;lia
 .rw[bi,cS];show 0+rq row c m<=sizeLine;unfold rq;lia
 .obtain⟨j,_,rfl⟩:=bI.mp hd;refine mH hl ⟨by rw[el];lia,mH hl ?_⟩;rw[el];exact mH (yh N6 _) hk
 .refine mH (x:=(qT row c m).map D.str) ?_ ⟨M,.new hp,q⟩;unfold ma;rw[mN];show some ([]++((List.range (rq row c m)).map λi=>D.int (0+(i:Nat))).map _)=_;rw[ci,cx];unfold qT;rw[cx];rfl
noncomputable def qR(c:Int)(own all:QQQ):Wi:=
 let x:=uC own (mX c 16807 own.length);let pl:=mX c 39373 all.length;let y:=uC all pl;let z:=uC all ((pl+1+mX c 742938285 ((all.length:Int) - 1)) % all.length);let k:=mX c 1226874159 12
 if k=0 then .bar x (qT all c 3)
 else if k=1 then .shut y (qT own c 3)
 else if k=2 then .always y z
 else if k<5 then .night y z (mX c 22695477 24) ((mX c 22695477 24+1+mX c 48271 23) % 24)
 else if k<7 then .busy y z
 else if k<9 then .silent y z ([1,1,2,3,9].getD (mX c 950706376 5).toNat 0)
 else if k=9 then .wait x
 else .breaks x
def F8:pP:=λds M Q=>Jk λc o n own all=>ds=[.int c,.ref o,.ref n]/\ma M o=some (own.map D.str)/\ma M n=some (all.map D.str)/\own≠[]/\2<=all.length/\own.length<=64/\all.length<=64/\Q (.tup (qR c own all).told) M
def Ac{row:QQQ}{x:Int}(h0:0<=x)(h1:x<row.length):tE (row.map D.str) x=some (D.str (uC row x)):=by
 obtain⟨n,rfl⟩:=cH h0;have OS:n<row.length:=by lia
 refine ri ?_;rw[bM,bF OS];simp[uC,OS]
def Fh:Fq P w K mg base 3 a.aj F8:=by
 refine fq G.aj.toDG oX (λr u=>⟨_,(mI (mY 3 oX (nj V1 (mM (ou G) r G.g (qP u0 mJ (mU oB rfl G.c oh (oR V1))))))
 (mI (mY 4 oX (mM (ou G) r G.g (qP u0 mJ (mU oB rfl G.c oh (oR V2)))))
 (mI (mY 5 oX (nj V2 v4))
 (mI (mY 6 oX (nj V2 (m8 (m8 (m8 v4 mJ) (mM (ou G) r G.g (qP u0 mJ (m8 (mU oB rfl G.c oh (oR V2)) mJ)))) (mU oB rfl G.c oh (oR V2)))))
 (mI (mY 7 oX (mM (ou G) r G.g (qP u0 mJ mJ)))
 (mI (oq (nI u v7 mJ)
 (mK (mT (nB (qP mO V3 (mM (BF G) r G.J (qP V2 u0 mJ))))))
 nu)
 (mI (oq (nI u v7 mJ)
 (mK (mT (nB (qP mO v5 (mM (BF G) r G.J (qP V1 u0 mJ))))))
 nu)
 (mI (oq (nI u v7 mJ)
 (mK (mT (nB (qP mO v5 v6))))
 nu)
 (mI (oq (nI u v7 mJ)
 (mI (mY 8 oX (mM (ou G) r G.g (qP u0 mJ mJ)))
 (mK (mT (nB (oy mO (oy v5 (qP v6 v8 (m8 (m8 (m8 v8 mJ) (mM (ou G) r G.g (qP u0 mJ mJ))) mJ))))))))
 nu)
 (mI (oq (nI u v7 mJ)
 (mK (mT (nB (qP mO v5 v6))))
 nu)
 (mI (oq (nI u v7 mJ)
 (mK (mT (nB (oy mO (qP v5 v6 (nj (nB (oy mJ (oy mJ (qP mJ mJ mJ)))) (mM (ou G) r G.g (qP u0 mJ mJ))))))))
 nu)
 (mI (oq (nI u v7 mJ)
 (mK (mT (nB (qa mO V3))))
 nu)
 (mK (mT (nB (qa mO V3)))))))))))))))),?_⟩)
 rintro ds M Q ⟨c,o,n,own,all,rfl,ho,hn,N6,h2,l1,l2,q⟩
 have Mm:0<own.length:=cX.mpr N6;have OD:all≠[]:=λz=>by rw[z]at h2;simp at h2
 have e1:((own.map D.str).length:Int)=own.length:=by rw[bi]
 have e2:((all.map D.str).length:Int)=all.length:=by rw[bi]
 have p1:(0:Int)<own.length:=by lia
 have p2:(0:Int)<all.length:=by lia
 have p3:(0:Int)<(all.length:Int) - 1:=by lia
 refine mH ho ⟨c,_,_,rfl,by rw[e1];exact p1,?_⟩;rw[e1];refine mH ho (mH (Ac (nQ p1) (nG p1)) ?_);refine mH hn ⟨c,_,_,rfl,by rw[e2];exact p2,?_⟩;rw[e2];refine mH hn (mH (Ac (nQ p2) (nG p2)) ?_);refine mH hn ⟨c,_,_,rfl,by rw[e2];exact p3,?_⟩;rw[e2];refine mH hn ⟨by rw[e2];exact p2,?_⟩;rw[e2];refine mH hn (mH (yh OD _) ?_);refine⟨c,_,_,rfl,by decide,?_⟩;have fin:∀t:T0 D,(qR c own all).told=t->∃Mw,nW Mw M/\Q (.tup t) Mw:=λt e=>⟨M,.refl,e ▸ q⟩;have k0:0<=mX c 1226874159 12:=nQ (by decide);refine qy (λh=>?_) (λh=>?_)
 .have h:mX c 1226874159 12=0:=by simpa using h
  refine⟨n,c,3,all,rfl,hn,OD,by decide,l2,mF rfl,fin _ ?_⟩;simp only[qR,bw h,Wi.told]
 have h:¬mX c 1226874159 12=0:=by simpa using h
 refine qy (λg=>?_) (λg=>?_)
 .have g:mX c 1226874159 12=1:=by simpa using g
  refine⟨o,c,3,own,rfl,ho,N6,by decide,l1,mF rfl,fin _ ?_⟩;simp only[qR,bq h,bw g,Wi.told]
 have g:¬mX c 1226874159 12=1:=by simpa using g
 refine qy (λi=>?_) (λi=>?_)
 .have i:mX c 1226874159 12=2:=by simpa using i
  refine⟨mF rfl,fin _ ?_⟩;simp only[qR,bq h,bq g,bw i,Wi.told]
 have i:¬mX c 1226874159 12=2:=by simpa using i
 refine qy (λj=>?_) (λj=>?_)
 .have j:mX c 1226874159 12<5:=dU j;refine⟨c,_,_,rfl,by decide,c,_,_,rfl,by decide,by decide,mF rfl,fin _ ?_⟩;simp only[qR,bq h,bq g,bq i,bw j,Wi.told]
 have j:¬mX c 1226874159 12<5:=λz=>j (bV z);refine qy (λl=>?_) (λl=>?_)
 .have l:mX c 1226874159 12<7:=dU l;refine⟨mF rfl,fin _ ?_⟩;simp only[qR,bq h,bq g,bq i,bq j,bw l,Wi.told]
 have l:¬mX c 1226874159 12<7:=λz=>l (bV z);refine qy (λm=>?_) (λm=>?_)
 .have m:mX c 1226874159 12<9:=dU m;have d0:0<=mX c 950706376 5:=nQ (by decide);have d1:mX c 950706376 5<5:=nG (by decide);have e:tE [D.int 1,.int 1,.int 2,.int 3,.int 9] (mX c 950706376 5)=some (D.int ([1,1,2,3,9].getD (mX c 950706376 5).toNat 0)):=by
   obtain⟨t,ht⟩:=cH d0;rw[ht]at d1 ⊢;have:t<5:=by lia
   match t,this with
   | 0,_=>rfl
   | 1,_=>rfl
   | 2,_=>rfl
   | 3,_=>rfl
   | 4,_=>rfl
  refine⟨mF rfl,c,_,_,rfl,by decide,mH e ⟨mF rfl,fin _ ?_⟩⟩;simp only[qR,bq h,bq g,bq i,bq j,bq l,bw m,Wi.told]
 have m:¬mX c 1226874159 12<9:=λz=>m (bV z);refine qy (λr=>?_) (λr=>?_)
 .have r:mX c 1226874159 12=9:=by simpa using r
  refine⟨mF rfl,fin _ ?_⟩;simp only[qR,bq h,bq g,bq i,bq j,bq l,bq m,bw r,Wi.told]
 have r:¬mX c 1226874159 12=9:=by simpa using r
 refine⟨mF rfl,fin _ ?_⟩;simp only[qR,bq h,bq g,bq i,bq j,bq l,bq m,bq r,Wi.told]
def D7(K:m9):pP:=λds M Q=>A9 λp d C=>ds=[.ref p,d]/\M p=some (.ins C [])/\pV K C "form"/\Q .lB (mL M p (.ins C [("form",d)]))
def EW(K:m9):pP:=λds M Q=>Jk λp t x y C=>ds=[.ref p,.tup t]/\tE t 1=some x/\tE t 2=some y/\M p=some (.ins C [])/\pV K C "form"/\pV K C "target"/\pV K C "goal"/\Q .lB (mL M p (.ins C [("form",.tup t),("target",x),("goal",y)]))
def r0(a:Ad)(k:Wi->Prop):pP:=λds M Q=>E1 λp v=>ds=[.ref p,.tup (Wi.told v)]/\k v/\M p=some (.ins (v.cls a) [])/\Q .lB (mL M p (.ins (v.cls a) v.l5))
def rQ:Fq P w K mg base 1 a.w (D7 K):=by
 refine fq G.w.toDG yx (λr u=>⟨_,(mK (oP u0 V1)),?_⟩)
 rintro ds M Q ⟨p,d,C,rfl,hp,na,q⟩
 exact mV hp ⟨na,by decide,_,.refl,q⟩
def tD:Fq P w K mg base 2 a.t (EW K):=by
 refine fq G.t.toDG uS (λr u=>⟨_,(mI (mW (sZ G.Y (rQ G) r G.x G.w.toDG (qa u0 V1)))
 (mI (oP u0 (nj V1 mJ))
 (mK (oP u0 (nj V1 mJ))))),?_⟩)
 rintro ds M Q ⟨p,t,x,y,C,rfl,e1,e2,hp,n1,n2,n3,q⟩
 refine⟨p,_,C,rfl,hp,n1,mH e1 (mV mN ⟨n2,by show 1<1000;decide,?_⟩)⟩;refine mH e2 (mV mN ⟨n3,by show 2<1000;decide,_,?_,q⟩);rw[oj,oj];exact .refl
def HQ:Fq P w K mg base 2 a.N (r0 a λv=>∃x ns,v=.bar x ns):=by
 refine fq G.N.toDG yU (λr u=>⟨_,(mI (mW (sZ G.Y (rQ G) r G.x G.w.toDG (qa u0 V1)))
 (mI (oP u0 (nj V1 mJ))
 (mK (oP u0 (nj V1 mJ))))),?_⟩)
 rintro ds M Q ⟨p,v,rfl,⟨x,ns,rfl⟩,hp,q⟩
 refine⟨p,_,_,rfl,hp,(G.au "form" rfl),mV mN ⟨(G.au "phone" rfl),by show 1<1000;decide,?_⟩⟩;refine mV mN ⟨(G.au "targets" rfl),by show 2<1000;decide,_,?_,q⟩;rw[oj,oj];exact .refl
def Gn:Fq P w K mg base 2 a.O (r0 a λv=>∃x ns,v=.shut x ns):=by
 refine fq G.O.toDG yr (λr u=>⟨_,(mI (mW (sZ G.Y (rQ G) r G.x G.w.toDG (qa u0 V1)))
 (mI (oP u0 (nj V1 mJ))
 (mK (oP u0 (nj V1 mJ))))),?_⟩)
 rintro ds M Q ⟨p,v,rfl,⟨x,ns,rfl⟩,hp,q⟩
 refine⟨p,_,_,rfl,hp,(G.av "form" rfl),mV mN ⟨(G.av "target" rfl),by show 1<1000;decide,?_⟩⟩;refine mV mN ⟨(G.av "callers" rfl),by show 2<1000;decide,_,?_,q⟩;rw[oj,oj];exact .refl
def C2:Fq P w K mg base 3 a.P (r0 a λv=>∃x y f l,v=.night x y f l):=by
 refine fq G.P.toDG wx (λr u=>⟨_,(mI (mW (sZ G.az (tD G) r G.z G.t.toDG (qa u0 V1)))
 (mI (oP u0 (nj V1 mJ))
 (mK (oP u0 (nj V1 mJ))))),?_⟩)
 rintro ds M Q ⟨p,v,rfl,⟨x,y,f,l,rfl⟩,hp,q⟩
 refine⟨p,_,_,_,_,rfl,rfl,rfl,hp,(G.Z "form" rfl),(G.Z "target" rfl),(G.Z "goal" rfl),mV mN ⟨(G.Z "first" rfl),by show 3<1000;decide,?_⟩⟩;refine mV mN ⟨(G.Z "last" rfl),by show 4<1000;decide,_,?_,q⟩;rw[oj,oj];exact .refl
def CD:Fq P w K mg base 3 a.Q (r0 a λv=>∃x y n,v=.silent x y n):=by
 refine fq G.Q.toDG vo (λr u=>⟨_,(mI (mW (sZ G.az (tD G) r G.z G.t.toDG (qa u0 V1)))
 (mK (oP u0 (nj V1 mJ)))),?_⟩)
 rintro ds M Q ⟨p,v,rfl,⟨x,y,n,rfl⟩,hp,q⟩
 refine⟨p,_,_,_,_,rfl,rfl,rfl,hp,(G.ap "form" rfl),(G.ap "target" rfl),(G.ap "goal" rfl),mV mN ⟨(G.ap "turns" rfl),by show 3<1000;decide,_,?_,q⟩⟩;rw[oj];exact .refl
def Gz:Fq P w K mg base 2 a.R (r0 a λv=>∃x,v=.wait x):=by
 refine fq G.R.toDG xC (λr u=>⟨_,(mI (mW (sZ G.Y (rQ G) r G.x G.w.toDG (qa u0 V1)))
 (mK (oP u0 (nj V1 mJ)))),?_⟩)
 rintro ds M Q ⟨p,v,rfl,⟨x,rfl⟩,hp,q⟩
 refine⟨p,_,_,rfl,hp,(G.aA "form" rfl),mV mN ⟨(G.aA "phone" rfl),by show 1<1000;decide,_,?_,q⟩⟩;rw[oj];exact .refl
def Cn:Fq P w K mg base 2 a.S (r0 a λv=>∃x,v=.breaks x):=by
 refine fq G.S.toDG vR (λr u=>⟨_,(mI (mW (sZ G.Y (rQ G) r G.x G.w.toDG (qa u0 V1)))
 (mK (oP u0 (nj V1 mJ)))),?_⟩)
 rintro ds M Q ⟨p,v,rfl,⟨x,rfl⟩,hp,q⟩
 refine⟨p,_,_,rfl,hp,(G.aB "form" rfl),mV mN ⟨(G.aB "phone" rfl),by show 1<1000;decide,_,?_,q⟩⟩;rw[oj];exact .refl
def Aa(a:Ad):pP:=λds M Q=>∃v:Wi,ds=[.tup v.told]/\∀p,M p=none->Q (.ref p) (mL M p (.ins (v.cls a) v.l5))
def xq(a:Ad):pP:=λds M Q=>E1 λp (v:Wi)=>ds=[.ref p]/\M p=some (.ins (v.cls a) v.l5)/\Q (.tup v.told) M
def Ae:pP:=λds M Q=>∃p,ds=[.ref p]/\Q (.tup [.str "end"]) M
def El:pP:=λds M Q=>∃p,ds=[.ref p]/\Q (.tup [.str "break"]) M
def Hg:pP:=λds M Q=>E2 λp C fs y=>ds=[.ref p]/\M p=some (.ins C fs)/\fs.lookup ("goal":Str)=some y/\Q (.tup [.str "to",y]) M
def G4:pP:=λds M Q=>E2 λp C fs y=>ds=[.ref p]/\M p=some (.ins C fs)/\fs.lookup ("phone":Str)=some y/\Q (.tup [.str "wait",y]) M
def yp(a:Ad):Addr->pP->Prop:=λC sp=>(∃v:Wi,C=v.cls a)/\sp=xq a
def Bd(a:Ad):Addr->pP->Prop:=λC sp=>((C=a.l\/C=a.m)/\sp=Ae)\/((C=a.u\/C=a.n\/C=a.v\/C=a.o)/\sp=Hg)\/(C=a.q/\sp=G4)\/(C=a.r/\sp=El)
def AH:Fq P w K mg base 5 a.ac (Aa a):=by
 refine fq G.ac.toDG vN (λr u=>⟨_,(mI (mY 1 vN (nj u0 mJ))
 (mI (oq (nI u V1 mO)
 (mK (mT (re (HQ G) r G.l G.aK G.N.toDG (oR u0))))
 nu)
 (mI (oq (nI u V1 mO)
 (mK (mT (re (Gn G) r G.m G.aL G.O.toDG (oR u0))))
 nu)
 (mI (oq (nI u V1 mO)
 (mK (mT (re (tD G) r G.u G.aM G.t.toDG (oR u0))))
 nu)
 (mI (oq (nI u V1 mO)
 (mK (mT (re (C2 G) r G.n G.aN G.P.toDG (oR u0))))
 nu)
 (mI (oq (nI u V1 mO)
 (mK (mT (re (tD G) r G.v G.aO G.t.toDG (oR u0))))
 nu)
 (mI (oq (nI u V1 mO)
 (mK (mT (re (CD G) r G.o G.aP G.Q.toDG (oR u0))))
 nu)
 (mI (oq (nI u V1 mO)
 (mK (mT (re (Gz G) r G.q G.aQ G.R.toDG (oR u0))))
 nu)
 (mI (oq (nI u V1 mO)
 (mK (mT (re (Cn G) r G.r G.aR G.S.toDG (oR u0))))
 nu)
 (mK yV)))))))))),?_⟩)
 rintro ds M Q ⟨v,rfl,q⟩
 have fin:∀(x:Addr) (c0 c1:qg) (C:Addr) (fs:T0 (Str×D)),M x=none->Q (.ref x) (mL M x c1)->∃Mw,nW Mw (mL (mL M x c0) x c1)/\Q (.ref x) Mw:=λx c0 c1 C fs hx q=>⟨_,by rw[oj];exact .refl,q⟩;cases v with
 | bar x ns=>exact λp hp=>⟨p,.bar x ns,rfl,⟨_,_,rfl⟩,mN,rfl,fin p _ _ 0 [] hp (q p hp)⟩
 | shut x ns=>exact λp hp=>⟨p,.shut x ns,rfl,⟨_,_,rfl⟩,mN,rfl,fin p _ _ 0 [] hp (q p hp)⟩
 | always x y=>exact λp hp=>⟨p,_,_,_,_,rfl,rfl,rfl,mN,(G.aw "form" rfl),(G.aw "target" rfl),(G.aw "goal" rfl),rfl,fin p _ _ 0 [] hp (q p hp)⟩
 | night x y f l=>exact λp hp=>⟨p,.night x y f l,rfl,⟨_,_,_,_,rfl⟩,mN,rfl,fin p _ _ 0 [] hp (q p hp)⟩
 | busy x y=>exact λp hp=>⟨p,_,_,_,_,rfl,rfl,rfl,mN,(G.ax "form" rfl),(G.ax "target" rfl),(G.ax "goal" rfl),rfl,fin p _ _ 0 [] hp (q p hp)⟩
 | silent x y n=>exact λp hp=>⟨p,.silent x y n,rfl,⟨_,_,_,rfl⟩,mN,rfl,fin p _ _ 0 [] hp (q p hp)⟩
 | wait x=>exact λp hp=>⟨p,.wait x,rfl,⟨_,rfl⟩,mN,rfl,fin p _ _ 0 [] hp (q p hp)⟩
 | breaks x=>exact λp hp=>⟨p,.breaks x,rfl,⟨_,rfl⟩,mN,rfl,fin p _ _ 0 [] hp (q p hp)⟩
def Fu:Fq P w K mg base 1 a.h (xq a):=by
 refine fq G.h.toDG yi (λr u=>⟨_,(mK (mT (rD u0))),?_⟩)
 rintro ds M Q ⟨p,v,rfl,hp,q⟩
 exact mV hp (mH rfl ⟨M,.refl,q⟩)
def FR:Fq P w K mg base 1 a.T Ae:=by
 refine fq G.T.toDG ym (λr u=>⟨_,(mK (mT (nB (oR mO)))),?_⟩)
 rintro ds M Q ⟨p,rfl,q⟩
 exact⟨mF rfl,M,.refl,q⟩
def CZ:Fq P w K mg base 1 a.U Ae:=by
 refine fq G.U.toDG wq (λr u=>⟨_,(mK (mT (nB (oR mO)))),?_⟩)
 rintro ds M Q ⟨p,rfl,q⟩
 exact⟨mF rfl,M,.refl,q⟩
def qB:Fq P w K mg base 1 a.k Hg:=by
 refine fq G.k.toDG uh (λr u=>⟨_,(mK (mT (nB (qa mO (rD u0))))),?_⟩)
 rintro ds M Q ⟨p,C,fs,y,rfl,hp,e,q⟩
 exact mV hp (mH e ⟨mF rfl,M,.refl,q⟩)
def Dl:Fq P w K mg base 1 a.V G4:=by
 refine fq G.V.toDG wA (λr u=>⟨_,(mK (mT (nB (qa mO (rD u0))))),?_⟩)
 rintro ds M Q ⟨p,C,fs,y,rfl,hp,e,q⟩
 exact mV hp (mH e ⟨mF rfl,M,.refl,q⟩)
def zV:Fq P w K mg base 1 a.X El:=by
 refine fq G.X.toDG uK (λr u=>⟨_,(mK (mT (nB (oR mO)))),?_⟩)
 rintro ds M Q ⟨p,rfl,q⟩
 exact⟨mF rfl,M,.refl,q⟩
def AN:∀C sp,yp a C sp->xt P w K mg base 1 "told" C (Hk K sp):=by
 rintro C sp ⟨⟨v,rfl⟩,rfl⟩
 have F:=Fu (P:=P) (w:=w) (base:=base) G;cases v with
 | bar _ _=>exact⟨G.l.toCls,_,_,_,G.aS,F,G.h.b⟩
 | shut _ _=>exact⟨G.m.toCls,_,_,_,G.aT,F,G.h.b⟩
 | always _ _=>exact⟨G.u.toCls,_,_,_,G.aU,F,G.h.b⟩
 | night _ _ _ _=>exact⟨G.n.toCls,_,_,_,G.aV,F,G.h.b⟩
 | busy _ _=>exact⟨G.v.toCls,_,_,_,G.aW,F,G.h.b⟩
 | silent _ _ _=>exact⟨G.o.toCls,_,_,_,G.aX,F,G.h.b⟩
 | wait _=>exact⟨G.q.toCls,_,_,_,G.aY,F,G.h.b⟩
 | breaks _=>exact⟨G.r.toCls,_,_,_,G.aZ,F,G.h.b⟩
def Gd:∀C sp,Bd a C sp->xt P w K mg base 1 "wants" C (Hk K sp):=by
 rintro C sp (⟨rfl|rfl,rfl⟩|⟨rfl|rfl|rfl|rfl,rfl⟩|⟨rfl,rfl⟩|⟨rfl,rfl⟩)
 .exact⟨G.l.toCls,_,_,_,G.T.l9,FR G,G.T.b⟩
 .exact⟨G.m.toCls,_,_,_,G.U.l9,CZ G,G.U.b⟩
 .exact⟨G.u.toCls,_,_,_,G.a0,qB G,G.k.b⟩
 .exact⟨G.n.toCls,_,_,_,G.a1,qB G,G.k.b⟩
 .exact⟨G.v.toCls,_,_,_,G.a2,qB G,G.k.b⟩
 .exact⟨G.o.toCls,_,_,_,G.a3,qB G,G.k.b⟩
 .exact⟨G.q.toCls,_,_,_,G.V.l9,Dl G,G.V.b⟩
 .exact⟨G.r.toCls,_,_,_,G.X.l9,zV G,G.X.b⟩
noncomputable def pD(x:Str):Bool:=decide ((1:Int)<=x.length)&&(decide ((x.length:Int)<=6)&&x.cps.toList.all λc=>wy ⟨#[c]⟩ pI)
def Av:pP:=λds M Q=>∃x:Str,ds=[.str x]/\x.length<=1000/\Q (.bl (pD x)) M
def A4:pP:=λds M Q=>∃w,ds=[.bl true,w]/\Q .lB M
noncomputable def tw(ss:QQQ):Bool:=((nE ss).length:Int)==(ss.length:Int)
def Iy(M:Mp)(x:D)(ss:QQQ):Prop:=x=.tup (ss.map D.str)\/∃a,x=.ref a/\ma M a=some (ss.map D.str)
def Cf:pP:=λds M Q=>E1 λx ss=>ds=[x]/\Iy M x ss/\ss.length<4000/\Q (.bl (tw ss)) M
def zh{α:Type}(f:α->Bool)(l:List α):(l.map f).all id=l.all f:=by rw[fX];rfl
def u9(x:Str)(ss:QQQ):inD (.str x) (ss.map D.str)=ss.any (·==x):=by unfold inD;rw[jP];rfl
theorem qk:∀ss:QQQ,(ss.map D.str).all rF=true
 | []=>rfl
 | _::r=>by rw[b6,fO,qk r];rfl
noncomputable def oC(cs ks:QQQ)(m:Int):Bool:=decide ((1:Int)<=cs.length)&&(decide ((cs.length:Int)<=m)&&(tw cs&&cs.all λc=>ks.any (·==c)))
def Cr:pP:=λds M Q=>E2 λcs ks k m=>ds=[.tup (cs.map D.str),.ref k,.int m]/\ma M k=some (ks.map D.str)/\cs.length<4000/\Q (.bl (oC cs ks m)) M
def vZ:Fq P w K mg base 1 a.E Av:=by
 refine fq G.E.toDG Az (λr u=>⟨_,(mK (mT (xQ (qr u mJ (mU oB rfl G.c oh (oR u0)) (oE rfl G.bc)) (Ap (mU (yl rfl) rfl G.aq yo (oR (nS rfl (u7 (ix:=[none]) (N':=["sign"])) (nO u0) (nJ 0) oA (pN u u0 (oE rfl G.bd))))))))),?_⟩)
 rintro ds M Q ⟨x,rfl,hl,q⟩
 have hz:=cb;refine⟨by lia,qy (λh1=>?_) (λh1=>?_)⟩
 .refine qy (λh2=>?_) (λh2=>?_)
  .refine nP (f:=λd=>match d with|.str z=>D.bl (wy z pI)|_=>.lB) trivial _ [] _ ?_ (λd hd k hk=>?_) λp hp=>?_
   .rw[bi];have:x.cps.toList.length=x.length:=by simp[Str.length]
    simp only[bZ];lia
   .obtain⟨c,_,rfl⟩:=bI.mp hd;exact hk
   .refine mH mP ?_;have e:([]++(x.cps.toList.map λc=>D.str ⟨#[c]⟩).map λd=>match d with|.str z=>D.bl (wy z pI)|_=>.lB)=x.cps.toList.map λc=>D.bl (wy ⟨#[c]⟩ pI):=by rw[ci,cx];rfl
    rw[e];refine mH (tU (λc=>wy ⟨#[c]⟩ pI) x.cps.toList) ⟨M,.new hp,?_⟩;rw[zh];have:pD x=x.cps.toList.all λc=>wy ⟨#[c]⟩ pI:=by unfold pD;rw[h1,h2];rfl
    rw[<-this];exact q
  .refine⟨M,.refl,?_⟩;have:pD x=false:=by
    unfold pD;have h2:decide ((x.length:Int)<=6)=false:=by simpa using h2
    rw[h2];simp
   rw[<-this];exact q
 .refine⟨M,.refl,?_⟩;have:pD x=false:=by
   unfold pD;have h1:decide ((1:Int)<=x.length)=false:=by simpa using h1
   rw[h1];rfl
  rw[<-this];exact q
def oI:Fq P w K mg base 1 a.j A4:=by
 refine fq G.j.toDG Fw (λr u=>⟨_,(mK (oq (AM (wX u0))
 (mK yV)
 nu)),?_⟩)
 rintro ds M Q ⟨x,rfl,q⟩
 exact⟨M,.refl,q⟩
def wD:Fq P w K mg base 1 a.F Cf:=by
 refine fq G.F.toDG wf (λr u=>⟨_,(mK (mT (pN u (CQ rfl u0 rfl G.c rfl G.aG oh Dx) (mU oB rfl G.c oh (oR u0))))),?_⟩)
 rintro ds M Q ⟨x,ss,rfl,hx,hl,q⟩
 have key:((ss.map D.str).length:Int)=ss.length:=by rw[bi]
 rcases hx with rfl|⟨b,rfl,hb⟩
 .refine mH (L3.tN ss) ⟨hl,M,.refl,?_⟩;rw[key];exact q
 .refine mH hb (mH (L3.tN ss) ⟨hl,mH hb ⟨M,.refl,?_⟩⟩);rw[key];exact q
def uk:Fq P w K mg base 2 a.y Cr:=by
 refine fq G.y.toDG xI (λr u=>⟨_,(mK (mT (xQ (qr u mJ (mU oB rfl G.c oh (oR u0)) V2) (xQ (mM (wD G) r G.F (oR u0)) (Ap (mU (yl rfl) rfl G.aq yo (oR (nS rfl (u7 (ix:=[none,some 1]) (N':=["name","known"])) (nO u0) (nJ 0) oA (pN u u0 V1))))))))),?_⟩)
 rintro ds M Q ⟨cs,ks,k,m,rfl,hk,hl,q⟩
 have hz:=cb;have key:((cs.map D.str).length:Int)=cs.length:=by rw[bi]
 have NM:∀b:Bool,oC cs ks m=b->∃Mw,nW Mw M/\Q (.bl b) Mw:=λb e=>⟨M,.refl,e ▸ q⟩;refine qy (λh1=>?_) (λh1=>?_)
 .have h1:decide ((1:Int)<=cs.length)=true:=by rw[<-key];exact h1
  refine qy (λh2=>?_) (λh2=>?_)
  .have h2:decide ((cs.length:Int)<=m)=true:=by rw[<-key];exact h2
   refine⟨_,cs,rfl,.inl rfl,hl,qy (λh3=>?_) (λh3=>?_)⟩
   .refine nP (f:=λd=>match d with|.str z=>D.bl (ks.any (·==z))|_=>.lB) trivial _ [] _ ?_ (λd hd k0 hk0=>?_) λp hp=>?_
    .rw[bi];simp only[bZ];lia
    .obtain⟨c,_,rfl⟩:=bI.mp hd;refine mH hk ⟨rfl,qk ks,?_⟩;show k0 (.bl (inD (.str c) (ks.map D.str))) M;rw[u9];exact hk0
    .refine mH mP ?_;have e:([]++(cs.map D.str).map λd=>match d with|.str z=>D.bl (ks.any (·==z))|_=>.lB)=cs.map λc=>D.bl (ks.any (·==c)):=by rw[ci,cx];rfl
     rw[e];refine mH (tU (λc=>ks.any (·==c)) cs) ⟨M,.new hp,?_⟩;rw[zh];have:oC cs ks m=cs.all λc=>ks.any (·==c):=by unfold oC;rw[h1,h2,h3];rfl
     rw[<-this];exact q
   .refine NM _ ?_;unfold oC;have h3:tw cs=false:=by simpa using h3
    rw[h3];simp
  .refine NM _ ?_;unfold oC;have h2:decide ((cs.length:Int)<=m)=false:=by
    rw[<-key]
    simpa using h2
   rw[h2];simp
 .refine NM _ ?_;unfold oC;have h1:decide ((1:Int)<=cs.length)=false:=by
   rw[<-key]
   simpa using h1
  rw[h1];rfl
abbrev qJ:=Str×Int×Int
abbrev rg:=Str×Str×QQQ
abbrev oQ:=Bool×Wi
noncomputable def n9(p:qJ):D:=.tup [.str p.1,.int p.2.1,.int p.2.2]
noncomputable def oG(g:rg):D:=.tup [.str g.1,.str g.2.1,names g.2.2]
noncomputable def pY(w:oQ):D:=.tup [.bl w.1,.tup w.2.told]
structure A8(p:qJ):Prop where
 len:p.1.length<=1000
 nm:pD p.1=true
 l1:1<=p.2.1
 l2:p.2.1<=3
 r1:0<=p.2.2
 r2:p.2.2<=9
structure Bb(pn:QQQ)(g:rg):Prop where
 len:g.1.length<=1000
 nm:pD g.1=true
 man:g.2.1="all"\/g.2.1="turns"
 mF:g.2.2.length<4000
 mem:oC g.2.2 pn 4=true
def rY(ss:QQQ)(x:Str):Prop:=ss.any (·==x)=true
def ul(pn nm:QQQ):Wi->Prop
 | .bar x ns=>rY pn x/\ns.length<4000/\oC ns nm 6=true
 | .shut x ns=>rY nm x/\ns.length<4000/\oC ns pn 6=true
 | .always x y=>rY nm x/\rY nm y/\x≠y
 | .night x y f l=>rY nm x/\rY nm y/\x≠y/\(0<=f/\f<=23)/\(0<=l/\l<=23)/\f≠l
 | .busy x y=>rY nm x/\rY nm y/\x≠y
 | .silent x y n=>rY nm x/\rY nm y/\x≠y/\1<=n/\n<=9
 | .wait x=>rY pn x
 | .breaks x=>rY pn x
inductive rO(pn nm:QQQ):Str->D->Prop
 | l8 (x:Str) (h:rY pn x):rO pn nm "phone" (.str x)
 | name (x:Str) (h:rY nm x):rO pn nm "name" (.str x)
 | lA (cs:QQQ) (l:cs.length<4000) (h:oC cs pn 6=true):rO pn nm "phones" (names cs)
 | names (cs:QQQ) (l:cs.length<4000) (h:oC cs nm 6=true):rO pn nm "names" (names cs)
 | hour (i:Int) (h0:0<=i) (h1:i<=23):rO pn nm "hour" (.int i)
 | turns (i:Int) (h0:1<=i) (h1:i<=9):rO pn nm "turns" (.int i)
def Bu:pP:=λds M Q=>Lo λk d pl nl (pn nm:QQQ)=>ds=[.str k,d,.ref pl,.ref nl]/\ma M pl=some (pn.map D.str)/\ma M nl=some (nm.map D.str)/\rO pn nm k d/\Q (.bl true) M
def uF:pP:=λds M Q=>E1 λr (ps:List qJ)=>ds=[.ref r]/\ma M r=some (ps.map n9)/\1<=ps.length/\ps.length<=8/\(∀p∈ps,A8 p)/\Q .lB M
def uH:pP:=λds M Q=>E2 λr (gs:List rg) pl (pn:QQQ)=>ds=[.ref r,.ref pl]/\ma M r=some (gs.map oG)/\ma M pl=some (pn.map D.str)/\gs.length<=3/\(∀g∈gs,Bb pn g)/\Q .lB M
def wd:pP:=λds M Q=>Jk λv pl nl (pn nm:QQQ)=>ds=[.tup (Wi.told v),.ref pl,.ref nl]/\ma M pl=some (pn.map D.str)/\ma M nl=some (nm.map D.str)/\ul pn nm v/\Q .lB M
def uL:pP:=λds M Q=>Lo λr (ws:List oQ) pl nl (pn nm:QQQ)=>ds=[.ref r,.ref pl,.ref nl]/\ma M r=some (ws.map pY)/\ma M pl=some (pn.map D.str)/\ma M nl=some (nm.map D.str)/\ws.length<=16/\(∀w∈ws,ul pn nm w.2)/\Q .lB M
def LD{ss:QQQ}{x:Str}(h:rY ss x):inD (.str x) (ss.map D.str)=true:=by rw[u9];exact h
def GC:Fq P w K mg base 3 a.af Bu:=by
 refine fq G.af.toDG wg (λr u=>⟨_,(mI (oq (nI u u0 mO)
 (mK (mT (pN u V1 V2)))
 nu)
 (mI (oq (nI u u0 mO)
 (mK (mT (pN u V1 V3)))
 nu)
 (mI (oq (nI u u0 mO)
 (mK (mT (mM (uk G) r G.y (qP V1 V2 (oE rfl G.aI)))))
 nu)
 (mI (oq (nI u u0 mO)
 (mK (mT (mM (uk G) r G.y (qP V1 V3 (oE rfl G.aI)))))
 nu)
 (mI (oq (nI u u0 mO)
 (mK (mT (qr u mJ V1 (oE rfl G.be))))
 nu)
 (mK (mT (qr u mJ V1 (oE rfl G.bf))))))))),?_⟩)
 rintro ds M Q ⟨k,d,pl,nl,pn,nm,rfl,hp,hn,ok,q⟩
 cases ok with
 | l8 x h=>refine mH hp ⟨rfl,qk pn,M,.refl,?_⟩;show Q (.bl (inD (.str x) (pn.map D.str))) M;rw[LD h];exact q
 | name x h=>refine mH hn ⟨rfl,qk nm,M,.refl,?_⟩;show Q (.bl (inD (.str x) (nm.map D.str))) M;rw[LD h];exact q
 | lA cs l h=>exact⟨cs,pn,pl,6,rfl,hp,l,M,.refl,by rw[h];exact q⟩
 | names cs l h=>exact⟨cs,nm,nl,6,rfl,hn,l,M,.refl,by rw[h];exact q⟩
 | hour i h0 h1=>refine DB (c:=decide (0<=i)) (bV h0) ⟨M,.refl,?_⟩;show Q (.bl (decide (i<=23))) M;rw[bV h1];exact q
 | turns i h0 h1=>refine DB (c:=decide (1<=i)) (bV h0) ⟨M,.refl,?_⟩;show Q (.bl (decide (i<=9))) M;rw[bV h1];exact q
def uN:Fq P w K mg base 2 a.ad uF:=by
 refine fq G.ad.toDG o9 (λr u=>⟨_,(mI (mW (mM (oI G) r G.j (qa (qr u mJ (mU oB rfl G.c oh (oR u0)) (oE rfl G.a5)) mO)))
 (mK (qv de rfl (nO u0) (qX (n:=3) rfl (nA (oN 1 o9) (nA (oN 2 o9) (nA (oN 3 o9) qd))))
 (mI (mW (mM (oI G) r G.j (qa (mM (vZ G) r G.E (oR V1)) mO)))
 (mI (mW (mM (oI G) r G.j (qa (qr u mJ V2 (oE rfl G.a6)) mO)))
 (mK (mW (mM (oI G) r G.j (qa (qr u mJ V3 (oE rfl G.a7)) mO))))))))),?_⟩)
 rintro ds M Q ⟨r,ps,rfl,NJ,h1,h8,lC,q⟩
 have el:((ps.map n9).length:Int)=ps.length:=by rw[bi]
 refine mH NJ (DB (c:=decide ((1:Int)<=(ps.map n9).length)) (bV (by lia)) ⟨_,by rw[bV (show((ps.map n9).length:Int)<=8 by lia)],mH NJ ?_⟩);refine uX (λU M'=>M=M'/\∃x y z,U=[some (.ref r),x,y,z]) (λU M' j=>by rw[<-j.1];exact NJ) _ _ _ ⟨rfl,none,none,none,rfl⟩ ?_ ?_
 .rintro d hd U M' ⟨rfl,x,y,z,rfl⟩ nx MV
  obtain⟨p,hp,rfl⟩:=bI.mp hd;have o:=lC p hp;refine⟨rfl,⟨p.1,rfl,o.len,_,by rw[o.nm],?_⟩⟩;refine DB (c:=decide ((1:Int)<=p.2.1)) (bV o.l1) ⟨_,by rw[bV (show p.2.1<=3 from o.l2)],?_⟩;refine DB (c:=decide ((0:Int)<=p.2.2)) (bV o.r1) ⟨_,by rw[bV (show p.2.2<=9 from o.r2)],?_⟩;exact MV _ _ ⟨rfl,_,_,_,rfl⟩
 .rintro U M' ⟨rfl,x,y,z,rfl⟩
  exact⟨M,.refl,q⟩
def uJ:Fq P w K mg base 3 a.ae uH:=by
 refine fq G.ae.toDG pf (λr u=>⟨_,(mI (mW (mM (oI G) r G.j (qa (pN u (mU oB rfl G.c oh (oR u0)) (oE rfl G.a8)) mO)))
 (mK (qv de rfl (nO u0) (qX (n:=3) rfl (nA (oN 2 pf) (nA (oN 3 pf) (nA (oN 4 pf) qd))))
 (mI (mW (mM (oI G) r G.j (qa (mM (vZ G) r G.E (oR V2)) mO)))
 (mI (mW (mM (oI G) r G.j (qa (pN u V3 (oE rfl G.a9)) mO)))
 (mK (mW (mM (oI G) r G.j (qa (mM (uk G) r G.y (qP v4 V1 (oE rfl G.ba))) mO))))))))),?_⟩)
 rintro ds M Q ⟨r,gs,pl,pn,rfl,NJ,hp,h3,lC,q⟩
 have el:((gs.map oG).length:Int)=gs.length:=by rw[bi]
 refine mH NJ ⟨_,by rw[bV (show((gs.map oG).length:Int)<=3 by lia)],mH NJ ?_⟩;refine uX (λU M'=>M=M'/\∃x y z,U=[some (.ref r),some (.ref pl),x,y,z]) (λU M' j=>by rw[<-j.1];exact NJ) _ _ _ ⟨rfl,none,none,none,rfl⟩ ?_ ?_
 .rintro d hd U M' ⟨rfl,x,y,z,rfl⟩ nx MV
  obtain⟨g,hg,rfl⟩:=bI.mp hd;have o:=lC g hg;refine⟨rfl,⟨g.1,rfl,o.len,_,by rw[o.nm],?_⟩⟩;have hm:inD (.str g.2.1) [.str "all",.str "turns"]=true:=by rcases o.man with e|e<;>(rw[e];rfl)
  refine⟨rfl,rfl,.str "a group's manner is all or turns",c8 (λb=>[D.bl b,D.str "a group's manner is all or turns"]) hm,?_⟩;refine⟨g.2.2,pn,pl,4,rfl,hp,o.mF,_,by rw[o.mem],?_⟩;exact MV _ _ ⟨rfl,_,_,_,rfl⟩
 .rintro U M' ⟨rfl,x,y,z,rfl⟩
  exact⟨M,.refl,q⟩
def wm:Fq P w K mg base 4 a.ag wd:=by
 refine fq G.ag.toDG o6 (λr u=>⟨_,(mI (mW (mM (oI G) r G.j (qa (Dh G.aH rfl (nj u0 mJ)) mO)))
 (mI (mY 3 o6 (CJ G.aH rfl (nj u0 mJ)))
 (mI (mY 4 o6 (rM u0 (tG mJ) tQ))
 (mI (mW (mM (oI G) r G.j (qa (pN u (mU oB rfl G.c oh (oR v4)) (mU oB rfl G.c oh (oR V3))) mO)))
 (mI (qv de rfl (Im rfl G.aF (qa V3 v4)) (qX (n:=2) rfl (nA (oN 5 o6) (nA (oN 6 o6) qd)))
 (mK (mW (mM (oI G) r G.j (qa (mM (GC G) r G.af (oy v5 (qP v6 V1 V2))) mO)))))
 (mI (oq (nI u (rM V3 tQ (tG mJ)) (nB (qa mO mO)))
 (mK (mW (mM (oI G) r G.j (qa (pN u (nj v4 mJ) (nj v4 mJ)) mO))))
 nu)
 (mK (oq (nI u (rM V3 (tG mJ) tQ) (nB (qa mO mO)))
 (mK (mW (mM (oI G) r G.j (qa (pN u (nj v4 mJ) (nj v4 mJ)) mO))))
 nu)))))))),?_⟩)
 rintro ds M Q ⟨v,pl,nl,pn,nm,rfl,hp,hn,ok,q⟩
 have part:∀{k:Str} {d:D} {C:DK},rO pn nm k d->C (.bl true) M->Bu [.str k,d,.ref pl,.ref nl] M C:=λo c=>⟨_,_,pl,nl,pn,nm,rfl,hp,hn,o,c⟩;have need:∀{x:D} {C:DK},C .lB M->A4 [.bl true,x] M C:=λc=>⟨_,rfl,c⟩;have ne:∀{x y:Str},x≠y->(!(x==y))=true:=λh=>by simpa using h
 have nei:∀{x y:Int},x≠y->(!(x==y))=true:=λh=>by simpa using h
 have fin:∃Mw,nW Mw M/\Q .lB Mw:=⟨M,.refl,q⟩;cases v with
 | bar x ns=>obtain⟨h1,h2,h3⟩:=ok;refine⟨_,rfl,_,rfl,?_⟩;refine⟨rfl,_,_,pl,nl,pn,nm,rfl,hp,hn,.l8 x h1,_,rfl,trivial,⟨rfl,_,_,pl,nl,pn,nm,rfl,hp,hn,.names ns h2 h3,_,rfl,trivial,?_⟩⟩;exact⟨mF rfl,mF rfl,fin⟩
 | shut x ns=>obtain⟨h1,h2,h3⟩:=ok;refine⟨_,rfl,_,rfl,?_⟩;refine⟨rfl,_,_,pl,nl,pn,nm,rfl,hp,hn,.name x h1,_,rfl,trivial,⟨rfl,_,_,pl,nl,pn,nm,rfl,hp,hn,.lA ns h2 h3,_,rfl,trivial,?_⟩⟩;exact⟨mF rfl,mF rfl,fin⟩
 | always x y=>obtain⟨h1,h2,h3⟩:=ok;refine⟨_,rfl,_,rfl,?_⟩;refine⟨rfl,_,_,pl,nl,pn,nm,rfl,hp,hn,.name x h1,_,rfl,trivial,⟨rfl,_,_,pl,nl,pn,nm,rfl,hp,hn,.name y h2,_,rfl,trivial,?_⟩⟩;refine⟨mF rfl,⟨_,by rw[ne h3],?_⟩⟩;exact⟨mF rfl,fin⟩
 | night x y f l=>obtain⟨h1,h2,h3,h4,h5,h6⟩:=ok;refine⟨_,rfl,_,rfl,?_⟩;refine⟨rfl,_,_,pl,nl,pn,nm,rfl,hp,hn,.name x h1,_,rfl,trivial,⟨rfl,_,_,pl,nl,pn,nm,rfl,hp,hn,.name y h2,_,rfl,trivial,⟨rfl,_,_,pl,nl,pn,nm,rfl,hp,hn,.hour f h4.1 h4.2,_,rfl,trivial,⟨rfl,_,_,pl,nl,pn,nm,rfl,hp,hn,.hour l h5.1 h5.2,_,rfl,trivial,?_⟩⟩⟩⟩;refine⟨mF rfl,⟨_,by rw[ne h3],?_⟩⟩;refine⟨mF rfl,⟨_,by rw[nei h6],?_⟩⟩;exact fin
 | busy x y=>obtain⟨h1,h2,h3⟩:=ok;refine⟨_,rfl,_,rfl,?_⟩;refine⟨rfl,_,_,pl,nl,pn,nm,rfl,hp,hn,.name x h1,_,rfl,trivial,⟨rfl,_,_,pl,nl,pn,nm,rfl,hp,hn,.name y h2,_,rfl,trivial,?_⟩⟩;refine⟨mF rfl,⟨_,by rw[ne h3],?_⟩⟩;exact⟨mF rfl,fin⟩
 | silent x y n=>obtain⟨h1,h2,h3,h4,h5⟩:=ok;refine⟨_,rfl,_,rfl,?_⟩;refine⟨rfl,_,_,pl,nl,pn,nm,rfl,hp,hn,.name x h1,_,rfl,trivial,⟨rfl,_,_,pl,nl,pn,nm,rfl,hp,hn,.name y h2,_,rfl,trivial,⟨rfl,_,_,pl,nl,pn,nm,rfl,hp,hn,.turns n h4 h5,_,rfl,trivial,?_⟩⟩⟩;refine⟨mF rfl,⟨_,by rw[ne h3],?_⟩⟩;exact⟨mF rfl,fin⟩
 | wait x=>refine⟨_,rfl,_,rfl,?_⟩;refine⟨rfl,_,_,pl,nl,pn,nm,rfl,hp,hn,.l8 x ok,_,rfl,trivial,?_⟩;exact⟨mF rfl,mF rfl,fin⟩
 | breaks x=>refine⟨_,rfl,_,rfl,?_⟩;refine⟨rfl,_,_,pl,nl,pn,nm,rfl,hp,hn,.l8 x ok,_,rfl,trivial,?_⟩;exact⟨mF rfl,mF rfl,fin⟩
def uM:Fq P w K mg base 5 a.ah uL:=by
 refine fq G.ah.toDG pZ (λr u=>⟨_,(mI (mW (mM (oI G) r G.j (qa (pN u (mU oB rfl G.c oh (oR u0)) (oE rfl G.bb)) mO)))
 (mK (qv de rfl (nO u0) (qX (n:=2) rfl (nA (oN 3 pZ) (nA (oN 4 pZ) qd)))
 (mK (mW (mM (wm G) r G.ag (qP v4 V1 V2))))))),?_⟩)
 rintro ds M Q ⟨r,ws,pl,nl,pn,nm,rfl,NJ,hp,hn,h16,lC,q⟩
 have el:((ws.map pY).length:Int)=ws.length:=by rw[bi]
 refine mH NJ ⟨_,by rw[bV (show((ws.map pY).length:Int)<=16 by lia)],mH NJ ?_⟩;refine uX (λU M'=>M=M'/\∃x y,U=[some (.ref r),some (.ref pl),some (.ref nl),x,y]) (λU M' j=>by rw[<-j.1];exact NJ) _ _ _ ⟨rfl,none,none,rfl⟩ ?_ ?_
 .rintro d hd U M' ⟨rfl,x,y,rfl⟩ nx MV
  obtain⟨v,hv,rfl⟩:=bI.mp hd;exact⟨rfl,⟨v.2,pl,nl,pn,nm,rfl,hp,hn,lC v hv,MV _ _ ⟨rfl,_,_,rfl⟩⟩⟩
 .rintro U M' ⟨rfl,x,y,rfl⟩
  exact⟨M,.refl,q⟩
structure nc where
 lA:List qJ
 groups:List rg
 lh:List oQ
noncomputable def nc.pn(l:nc):QQQ:=l.lA.map (·.1)
noncomputable def nc.gn(l:nc):QQQ:=l.groups.map (·.1)
noncomputable def nc.nm(l:nc):QQQ:=l.pn++l.gn
structure pT(l:nc):Prop where
 p1:1<=l.lA.length
 p8:l.lA.length<=8
 po:∀p∈l.lA,A8 p
 g3:l.groups.length<=3
 go:∀g∈l.groups,Bb l.pn g
 nd:l.nm.Nodup
 my:l.lh.length<=16
 wo:∀w∈l.lh,ul l.pn l.nm w.2
def ud{ss:QQQ}(h:ss.Nodup):tw ss=true:=by unfold tw;rw[Ag ss h];simp
def wj:pP:=λds M Q=>E2 λr1 r2 r3 (l:nc)=>ds=[.ref r1,.ref r2,.ref r3]/\ma M r1=some (l.lA.map n9)/\ma M r2=some (l.groups.map oG)/\ma M r3=some (l.lh.map pY)/\pT l/\Q .lB M
noncomputable def xV:D->D
 | .tup (x::_)=>x
 | _=>.lB
def sS(ps:List qJ):(ps.map n9).map xV=(ps.map (·.1)).map D.str:=by rw[cx,cx];rfl
def tf(ps:List rg):(ps.map oG).map xV=(ps.map (·.1)).map D.str:=by rw[cx,cx];rfl
def ww:Fq P w K mg base 6 a.ai wj:=by
 refine fq G.ai.toDG qK (λr u=>⟨_,(mI (mW (mM (uN G) r G.ad (oR u0)))
 (mI (qw (i:=3) qK.nd rfl (Or.inl rfl) rfl (u7 (ix:=[none]) (N':=["phone"])) (nO u0) (nJ 0) oA (nj u0 mJ))
 (mI (mW (mM (uJ G) r G.ae (qa V1 V3)))
 (mI (mY 4 qK (m8 V3 (nS rfl (u7 (ix:=[none]) (N':=["group"])) (nO V1) (nJ 0) oA (nj u0 mJ))))
 (mI (mW (mM (oI G) r G.j (qa (mM (wD G) r G.F (oR v4)) mO)))
 (mK (mW (mM (uM G) r G.ah (qP V2 V3 v4))))))))),?_⟩)
 rintro ds M Q ⟨r1,r2,r3,l,rfl,h1,h2,h3,ok,q⟩
 have hz:=cb;have l1:=ok.p8;have l2:=ok.g3;refine⟨r1,l.lA,rfl,h1,ok.p1,ok.p8,ok.po,mH h1 ?_⟩;refine nP (f:=xV) h1 _ [] _ (by rw[bi];simp only[bZ];lia) (λd hd k hk=>?_) λp hp=>?_
 .obtain⟨x,_,rfl⟩:=bI.mp hd;exact hk
 rw[ci,sS];obtain⟨M1,e0,s1,lp⟩:=yR (ds:=(l.lA.map (·.1)).map D.str) hp;rw[<-e0];have lp:ma M1 p=some (l.pn.map D.str):=lp;refine⟨r2,l.groups,p,l.pn,rfl,s1.lst h2,lp,ok.g3,ok.go,?_⟩;refine mH (s1.lst h2) (nP (f:=xV) (s1.lst h2) _ [] _ (by rw[bi];simp only[bZ];lia) (λd hd k hk=>?_) λp2 hp2=>?_)
 .obtain⟨x,_,rfl⟩:=bI.mp hd;exact hk
 rw[ci,tf];have s2:=nW.new (c:=.lst ((l.groups.map (·.1)).map D.str)) hp2;refine mH (s2.lst lp) (mH mP ⟨?_,λp3 hp3=>?_⟩)
 .rw[bi,bi,bi];show(l.lA.map (·.1)).length+_<=_;rw[bi];lia
 have en:l.pn.map D.str++(l.groups.map (·.1)).map D.str=l.nm.map D.str:=by unfold nc.nm;rw[b5];rfl
 rw[en];have s3:=s2.trans (nW.new (c:=.lst (l.nm.map D.str)) hp3);have l3:=@mP (mL M1 p2 (.lst ((l.groups.map (·.1)).map D.str))) p3 (l.nm.map D.str);generalize mL (mL M1 p2 (.lst ((l.groups.map (·.1)).map D.str))) p3 (.lst (l.nm.map D.str))=M3 at s3 l3 ⊢;have ln:l.nm.length<4000:=by unfold nc.nm nc.pn nc.gn;rw[bz,bi,bi];lia
 refine⟨_,l.nm,rfl,.inr ⟨p3,rfl,l3⟩,ln,_,by rw[ud ok.nd],?_⟩;exact⟨r3,l.lh,p,p3,l.pn,l.nm,rfl,s3.lst (s1.lst h3),s3.lst lp,l3,ok.my,ok.wo,M,s1.trans s3,q⟩
noncomputable def GX(ph gr ws on pr gd:Addr):T0 (Str×D):=[("phones",.ref ph),("groups",.ref gr),("wishes",.ref ws),("on",.ref on),("phone_rows",.ref pr),("group_rows",.ref gd)]
noncomputable def Ke(l:nc):T0 (nZ×D):=l.lA.map λp=>(Sum.inr p.1,n9 p)
noncomputable def Ju(l:nc):T0 (nZ×D):=l.groups.map λg=>(Sum.inr g.1,oG g)
def oz(a:Ad)(M:Mp)(rs:QXQ)(ws:List oQ):Prop:=rs.length=ws.length/\∀(i:Nat) (r:Addr) (v:oQ),rs[i]?=some r->ws[i]?=some v->M r=some (.ins (v.2.cls a) v.2.l5)
def rh(a:Ad)(M:Mp)(p:Addr)(l:nc):Prop:=LG λph gr ws on pr gd (rs:QXQ)=>M p=some (.ins a.e (GX ph gr ws on pr gd))/\ma M ph=some (l.lA.map n9)/\ma M gr=some (l.groups.map oG)/\
 ma M ws=some (rs.map D.ref)/\ma M on=some (l.lh.map λw=>D.bl w.1)/\vS M pr=some (Ke l)/\vS M gd=some (Ju l)/\oz a M rs l.lh
def oz.keep{a:Ad}{M M':Mp}{p:Addr}{rs:QXQ}{ws:List oQ}(h:oz a M rs ws)(k:rR p M M')(n:∀r∈rs,r≠p):oz a M' rs ws:=⟨h.1,λi r v e1 e2=>k r _ (n r (cJ e1)) (h.2 i r v e1 e2)⟩
def oz.sub{a:Ad}{M M':Mp}{rs:QXQ}{ws:List oQ}(h:oz a M rs ws)(k:nW M M'):oz a M' rs ws:=⟨h.1,λi r v e1 e2=>k r _ (h.2 i r v e1 e2)⟩
def rh.sub{a:Ad}{M M':Mp}{p:Addr}{l:nc}(h:rh a M p l)(s:nW M M'):rh a M' p l:=by obtain⟨ph,gr,ws,on,pr,gd,rs,h1,h2,h3,h4,h5,h6,h7,h8⟩:=h;exact⟨ph,gr,ws,on,pr,gd,rs,s _ _ h1,s.lst h2,s.lst h3,s.lst h4,s.lst h5,s.dk h6,s.dk h7,h8.sub s⟩
def F6(a:Ad):pP:=λds M Q=>Jk λp r1 r2 r3 (l:nc)=>ds=[.ref p,.ref r1,.ref r2,.ref r3]/\M p=some (.ins a.e [])/\ma M r1=some (l.lA.map n9)/\ma M r2=some (l.groups.map oG)/\ma M r3=some (l.lh.map pY)/\pT l/\
 ∀M',rR p M M'->rh a M' p l->(∀Mw,(∀b c,(b=p\/M b=none)->M' b=some c->Mw b=some c)->rh a Mw p l)->Q .lB M'
def qi{M N:Mp}{p x:Addr}{c:qg}(k:rR p M N)(hp:N p=some c)(h:N x=none):M x=none:=by
 cases e:M x with
 | none=>rfl
 | some d=>
  have n:x≠p:=λz=>by rw[z,hp]at h;cases h
  rw[k x d n e]at h;cases h
def xZ{M:Mp}{a:Addr}{es:T0 (nZ×D)}(h:vS M a=some es):M a=some (.dk es):=by
 unfold vS at h;split at h
 .rename_i e;rw[e];cases h;rfl
 .cases h
theorem sX{α:Type}(f:α->Str)(g:α->D):∀l:List α,qe (l.map λx=>D.tup [.str (f x),g x])=some (l.map λx=>(Sum.inr (f x),g x))
 | []=>rfl
 | x::r=>by show(qe (r.map λx=>D.tup [.str (f x),g x])).map ((Sum.inr (f x),g x)::·)=_;rw[sX f g r];rfl
def B9{ss:QQQ}(h:ss.Nodup):(ss.map λx=>(Sum.inr x:nZ)).Nodup:=by
 induction ss with
 | nil=>exact df
 | cons x r ih=>obtain⟨h1,h2⟩:=cp.mp h;rw[b6];refine cp.mpr ⟨λz=>h1 ?_,ih h2⟩;obtain⟨y,hy,e⟩:=bI.mp z;cases e;exact hy
def vF{α:Type}{f:α->Str}{g:α->D}{l:List α}(h:(l.map f).Nodup):((l.map λx=>((Sum.inr (f x):nZ),g x)).map (·.1)).Nodup:=by rw[cx];have:=B9 h;rw[cx]at this;exact this
noncomputable def vb(d:D):D:=.tup [xV d,d]
noncomputable def LL:D->D
 | .tup (x::_)=>x
 | _=>.lB
def HB(ws:List oQ):(ws.map pY).map LL=ws.map λw=>D.bl w.1:=by rw[cx];rfl
def zS(ps:List qJ):(ps.map n9).map vb=ps.map λp=>D.tup [.str p.1,n9 p]:=by rw[cx];rfl
def yN(ps:List rg):(ps.map oG).map vb=ps.map λp=>D.tup [.str p.1,oG p]:=by rw[cx];rfl
def oz.snoc{a:Ad}{M:Mp}{rs:QXQ}{ws:List oQ}{r:Addr}{v:oQ}(h:oz a M rs ws)(n:M r=none):oz a (mL M r (.ins (v.2.cls a) v.2.l5)) (rs++[r]) (ws++[v]):=by
 refine⟨by rw[bz,bz,h.1];rfl,λi r' v' e1 e2=>?_⟩;by_cases hi:i<rs.length
 .rw[dO hi]at e1;rw[dO (by rw[<-h.1];exact hi)]at e2;have:=h.2 i r' v' e1 e2;rw[nw (IG this n)];exact this
 .have Oz:i=rs.length:=by have:=(bL.mp e1).1;rw[bz,cF]at this;lia
  subst Oz;rw[eF (bB _)]at e1;rw[h.1,eF (bB _)]at e2;simp only[k8,List.getElem?_cons_zero,iq]at e1 e2;subst e1 e2;exact mN
def FQ:Fq P w K mg base 7 a.M (F6 a):=by
 refine fq G.M.toDG yE (λr u=>⟨_,(mI (mW (mM (ww G) r G.ai (qP V1 V2 V3)))
 (mI (oP u0 (oZ yD rfl G.ab tW (oR V1)))
 (mI (oP u0 (oZ yD rfl G.ab tW (oR V2)))
 (mI (oP u0 (nS rfl (u7 (ix:=[none,none]) (N':=["on","wish"])) (nO V3) (qX (n:=2) rfl (nA (nJ 0) (nA (nJ 1) qd))) oA (mM (AH G) r G.ac (oR V1))))
 (mI (oP u0 (nS rfl (u7 (ix:=[none,none]) (N':=["on","wish"])) (nO V3) (qX (n:=2) rfl (nA (nJ 0) (nA (nJ 1) qd))) oA u0))
 (mI (oP u0 (oZ (u5 rfl) rfl G.ar vf (oR (nS rfl (u7 (ix:=[none]) (N':=["phone"])) (nO V1) (nJ 0) oA (nB (qa (nj u0 mJ) u0))))))
 (mK (oP u0 (oZ (u5 rfl) rfl G.ar vf (oR (nS rfl (u7 (ix:=[none]) (N':=["group"])) (nO V2) (nJ 0) oA (nB (qa (nj u0 mJ) u0))))))))))))),?_⟩)
 rintro ds M Q ⟨p,r1,r2,r3,l,rfl,hp,h1,h2,h3,ok,q⟩
 have hz:=cb;have l1:=ok.p8;have l2:=ok.g3;have l3:=ok.my;refine⟨r1,r2,r3,l,rfl,h1,h2,h3,ok,?_⟩;refine mH h1 λph hph=>?_;obtain⟨n1,e1,k1,c1,p1⟩:=sh (fs':=[("phones",.ref ph)]) (c:=.lst (l.lA.map n9)) hp hph;refine mV e1 ⟨(G.A "phones" rfl),by show 0<1000;decide,?_⟩;show CA _ _ _ _ (mL (mL M ph (.lst (l.lA.map n9))) p (.ins a.e [("phones",.ref ph)]));generalize mL (mL M ph (.lst (l.lA.map n9))) p (.ins a.e [("phones",.ref ph)])=N1 at k1 c1 p1 ⊢;have Nz:=k1.lst (nM h1 hp) h1;have h2':=k1.lst (nM h2 hp) h2;have h3':=k1.lst (nM h3 hp) h3;have f1:ma N1 ph=some (l.lA.map n9):=pA c1;refine mH h2' λgr hgr=>?_;obtain⟨n2,e2,k2,c2,p2⟩:=sh (fs':=[("phones",.ref ph),("groups",.ref gr)]) (c:=.lst (l.groups.map oG)) p1 hgr;refine mV e2 ⟨(G.A "groups" rfl),by show 1<1000;decide,?_⟩;show CA _ _ _ _ (mL (mL N1 gr (.lst (l.groups.map oG))) p (.ins a.e [("phones",.ref ph),("groups",.ref gr)]));generalize mL (mL N1 gr (.lst (l.groups.map oG))) p (.ins a.e [("phones",.ref ph),("groups",.ref gr)])=N2 at k2 c2 p2 ⊢;have g1:=k2.lst (nM Nz p1) Nz;have g2:=k2.lst (nM h2' p1) h2';have g3:=k2.lst (nM h3' p1) h3';have f2:=k2.lst (nM f1 p1) f1;have f3:ma N2 gr=some (l.groups.map oG):=pA c2;have kk2:=k1.trans k2;have m2:M gr=none:=qi k1 p1 hgr;clear Nz h2' h3' f1 c1 c2 k1 k2 e1 e2;refine mH g3 ?_;refine tH (l.lh.map pY) (λpre acc U Mx=>(∃x y,U=[x,y])/\nW N2 Mx/\∃rs:QXQ,acc=rs.map D.ref/\(∀r∈rs,N2 r=none)/\oz a Mx rs (l.lh.take pre.length)) (λpre acc U Mx j=>j.2.1.lst g3) _ [] [] _ _ rfl (by rw[bi];simp only[bZ];lia) ⟨⟨none,none,rfl⟩,.refl,[],rfl,λr hr=>absurd hr (bC),rfl,λi r v e=>by simp at e⟩ ?_ ?_
 .rintro pre d post e acc U Mx ⟨⟨x,y,rfl⟩,sx,rs,rfl,fr,wa⟩ k hk
  obtain⟨v,hv,rfl⟩:∃v,l.lh[pre.length]?=some v/\d=pY v:=by
   have:(l.lh.map pY)[pre.length]?=some d:=by rw[<-e];simp
   rw[bM]at this;cases z:l.lh[pre.length]? with
   | none=>rw[z]at this;cases this
   | some v=>rw[z]at this;exact⟨v,rfl,(bJ this).symm⟩
  refine⟨rfl,⟨v.2,rfl,λr hr=>hk _ _ _ ⟨⟨_,_,rfl⟩,sx.trans (.new hr),rs++[r],?_,λr' hr'=>?_,?_⟩⟩⟩
  .rw[b5];rfl
  .rcases bS.mp hr' with z|z
   .exact fr r' z
   .rw[bP.mp z];exact sx.none hr
  .rw[bz,cF,eJ,hv];exact wa.snoc hr
 rintro acc U Mx ⟨⟨x,y,rfl⟩,sx,rs,rfl,fr,wa⟩ ws hws
 have wa:oz a Mx rs l.lh:=by rw[bi,dq]at wa;exact wa
 obtain⟨n3,e3,k3,c3,p3⟩:=sh (fs':=[("phones",.ref ph),("groups",.ref gr),("wishes",.ref ws)]) (c:=.lst (rs.map D.ref)) (sx _ _ p2) hws;refine mV e3 ⟨(G.A "wishes" rfl),by show 2<1000;decide,?_⟩;show CA _ _ _ _ (mL (mL Mx ws (.lst (rs.map D.ref))) p (.ins a.e [("phones",.ref ph),("groups",.ref gr),("wishes",.ref ws)]));generalize mL (mL Mx ws (.lst (rs.map D.ref))) p (.ins a.e [("phones",.ref ph),("groups",.ref gr),("wishes",.ref ws)])=N3 at k3 c3 p3 ⊢;have px:=sx _ _ p2;have i1:=k3.lst (nM (sx.lst g1) px) (sx.lst g1);have i2:=k3.lst (nM (sx.lst g2) px) (sx.lst g2);have i3:=k3.lst (nM (sx.lst g3) px) (sx.lst g3);have f4:=k3.lst (nM (sx.lst f2) px) (sx.lst f2);have f5:=k3.lst (nM (sx.lst f3) px) (sx.lst f3);have f6:ma N3 ws=some (rs.map D.ref):=pA c3;have rp:∀r∈rs,r≠p:=λr hr z=>by have:=fr r hr;rw[z,p2]at this;cases this
 have w3:=wa.keep k3 rp;have kk3:=(kk2.trans sx.keep).trans k3;have m3:M ws=none:=qi (kk2.trans sx.keep) px hws;have mr:∀r∈rs,M r=none:=λr hr=>qi kk2 p2 (fr r hr);clear g1 g2 g3 f2 f3 c3 k3 e3 wa px kk2;refine mH i3 (rJ (f:=LL) (λU=>∃x y,U=[x,y]) i3 _ [] _ ⟨none,none,rfl⟩ (by rw[bi];simp only[bZ];lia) (λd hd U hj k hk=>?_) λon hon=>?_)
 .obtain⟨x,y,rfl⟩:=hj;obtain⟨v,_,rfl⟩:=bI.mp hd;exact⟨rfl,hk _ ⟨_,_,rfl⟩⟩
 rw[ci,HB];obtain⟨n4,e4,k4,c4,p4⟩:=sh (fs':=[("phones",.ref ph),("groups",.ref gr),("wishes",.ref ws),("on",.ref on)]) (c:=.lst (l.lh.map λw=>D.bl w.1)) p3 hon;refine mV e4 ⟨(G.A "on" rfl),by show 3<1000;decide,?_⟩;show CA _ _ _ _ (mL (mL N3 on (.lst (l.lh.map λw=>D.bl w.1))) p (.ins a.e [("phones",.ref ph),("groups",.ref gr),("wishes",.ref ws),("on",.ref on)]));generalize mL (mL N3 on (.lst (l.lh.map λw=>D.bl w.1))) p (.ins a.e [("phones",.ref ph),("groups",.ref gr),("wishes",.ref ws),("on",.ref on)])=N4 at k4 c4 p4 ⊢;have j1:=k4.lst (nM i1 p3) i1;have j2:=k4.lst (nM i2 p3) i2;have f7:=k4.lst (nM f4 p3) f4;have f8:=k4.lst (nM f5 p3) f5;have f9:=k4.lst (nM f6 p3) f6;have fa:ma N4 on=some (l.lh.map λw=>D.bl w.1):=pA c4;have w4:=w3.keep k4 rp;have kk4:=kk3.trans k4;have m4:M on=none:=qi kk3 p3 hon;clear i1 i2 i3 f4 f5 f6 c4 k4 e4 w3 kk3;refine mH j1 (nP (f:=vb) j1 _ [] _ (by rw[bi];simp only[bZ];lia) (λd hd k hk=>?_) λq1 hq1=>?_)
 .obtain⟨v,_,rfl⟩:=bI.mp hd;exact⟨mF rfl,hk⟩
 rw[ci,zS];have sq1:=nW.new (c:=.lst (l.lA.map λp=>D.tup [.str p.1,n9 p])) hq1;refine mH mP (mH (sX (λp:qJ=>p.1) n9 l.lA) ⟨vF (jQ (List.sublist_append_left _ _) ok.nd),λpr hpr=>?_⟩);obtain⟨n5,e5,k5,c5,p5⟩:=sh (fs':=[("phones",.ref ph),("groups",.ref gr),("wishes",.ref ws),("on",.ref on),("phone_rows",.ref pr)]) (c:=.dk (l.lA.map λx=>(Sum.inr x.1,n9 x))) (sq1 _ _ p4) hpr;refine mV e5 ⟨(G.A "phone_rows" rfl),by show 4<1000;decide,?_⟩;have k5:=sq1.keep.trans k5;have eput:vH "phone_rows" (.ref pr) [("phones",.ref ph),("groups",.ref gr),("wishes",.ref ws),("on",.ref on)]=([("phones",.ref ph),("groups",.ref gr),("wishes",.ref ws),("on",.ref on),("phone_rows",.ref pr)]:T0 (Str×D)):=rfl;rw[eput];generalize mL (mL (mL N4 q1 (.lst (l.lA.map λp=>D.tup [.str p.1,n9 p]))) pr (.dk (l.lA.map λx=>(Sum.inr x.1,n9 x)))) p (.ins a.e [("phones",.ref ph),("groups",.ref gr),("wishes",.ref ws),("on",.ref on),("phone_rows",.ref pr)])=N5 at k5 c5 p5 ⊢;have mm:=k5.lst (nM j2 p4) j2;have fb:=k5.lst (nM f7 p4) f7;have fc:=k5.lst (nM f8 p4) f8;have fd:=k5.lst (nM f9 p4) f9;have fe:=k5.lst (nM fa p4) fa;have ff:vS N5 pr=some (Ke l):=rG c5;have w5:=w4.keep k5 rp;have kk5:=kk4.trans k5;have m5:M pr=none:=qi (kk4.trans sq1.keep) (sq1 _ _ p4) hpr;clear j1 j2 f7 f8 f9 fa c5 k5 e5 w4 kk4;refine mH mm (nP (f:=vb) mm _ [] _ (by rw[bi];simp only[bZ];lia) (λd hd k hk=>?_) λq2 hq2=>?_)
 .obtain⟨v,_,rfl⟩:=bI.mp hd;exact⟨mF rfl,hk⟩
 rw[ci,yN];have sq2:=nW.new (c:=.lst (l.groups.map λg=>D.tup [.str g.1,oG g])) hq2;refine mH mP (mH (sX (λp:rg=>p.1) oG l.groups) ⟨vF (jQ (List.sublist_append_right _ _) ok.nd),λgd hgd=>?_⟩);obtain⟨n6,e6,k6,c6,p6⟩:=sh (fs':=GX ph gr ws on pr gd) (c:=.dk (Ju l)) (sq2 _ _ p5) hgd;have k6:=sq2.keep.trans k6;refine mV e6 ⟨(G.A "group_rows" rfl),by show 5<1000;decide,_,.refl,?_⟩;have m6:M gd=none:=qi (kk5.trans sq2.keep) (sq2 _ _ p5) hgd;have w6:=w5.keep k6 rp;have y1:=k6.lst (nM fb p5) fb;have y2:=k6.lst (nM fc p5) fc;have y3:=k6.lst (nM fd p5) fd;have y4:=k6.lst (nM fe p5) fe;have y5:=k6.dk (Jq ff p5) ff;refine q _ (kk5.trans k6) ⟨ph,gr,ws,on,pr,gd,rs,p6,y1,y2,y3,y4,y5,rG c6,w6⟩ λMw hs=>?_;exact⟨ph,gr,ws,on,pr,gd,rs,hs _ _ (.inl rfl) p6,pA (hs _ _ (.inr hph) (mZ y1)),pA (hs _ _ (.inr m2) (mZ y2)),pA (hs _ _ (.inr m3) (mZ y3)),pA (hs _ _ (.inr m4) (mZ y4)),rG (hs _ _ (.inr m5) (xZ y5)),rG (hs _ _ (.inr m6) c6),w6.1,λi r v e1 e2=>hs _ _ (.inr (mr r (cJ e1))) (w6.2 i r v e1 e2)⟩
noncomputable def nc.l8(l:nc)(x:Str):Option qJ:=l.lA.find? λp=>decide (p.1=x)
def sU(a:Ad):pP:=λds M Q=>E1 λp (l:nc)=>ds=[.ref p]/\rh a M p l/\l.lA.length<=100/\∀q,M q=none->Q (.ref q) (mL M q (.lst (l.pn.map D.str)))
def yg(a:Ad):pP:=λds M Q=>E1 λp (l:nc)=>ds=[.ref p]/\rh a M p l/\l.lA.length<=100/\l.groups.length<=100/\∀q,M q=none->Q (.ref q) (mL M q (.lst (l.nm.map D.str)))
def sr:Fq P w K mg base 1 a.ao (sU a):=by
 refine fq G.ao.toDG sv (λr u=>⟨_,(mK (mT (nS rfl (u7 (ix:=[none]) (N':=["phone"])) (nO (rD u0)) (nJ 0) oA (nj u0 mJ)))),?_⟩)
 rintro ds M Q ⟨p,l,rfl,hp,hl,q⟩
 have hz:=cb;obtain⟨ph,gr,ws,on,pr,gd,rs,h1,h2,h3,h4,h5,h6,h7,h8⟩:=hp;refine mV h1 (mH rfl (mH h2 ?_));refine nP (f:=xV) h2 _ [] _ (by rw[bi];simp only[bZ];lia) (λd hd k hk=>?_) λq1 hq1=>?_
 .obtain⟨x,_,rfl⟩:=bI.mp hd;exact hk
 rw[ci,sS];exact⟨_,.refl,q q1 hq1⟩
def wl:Fq P w K mg base 2 a.an (yg a):=by
 refine fq G.an.toDG we (λr u=>⟨_,(mK (mT (m8 (BG u0 G.e.toCls G.ao (sr G) r) (nS rfl (u7 (ix:=[none]) (N':=["group"])) (nO (rD u0)) (nJ 0) oA (nj u0 mJ))))),?_⟩)
 rintro ds M Q ⟨p,l,rfl,hp,hl,Om,q⟩
 have hz:=cb;have MA:=hp;obtain⟨ph,gr,ws,on,pr,gd,rs,h1,h2,h3,h4,h5,h6,h7,h8⟩:=hp;refine mV h1 ⟨rfl,_,⟨rfl,rfl⟩,p,l,rfl,MA,hl,λq1 hq1=>?_⟩;obtain⟨M1,e0,s1,e1⟩:=yR (ds:=l.pn.map D.str) hq1;rw[<-e0];have h3':=s1.lst h3;refine mV (s1 _ _ h1) (mH rfl (mH h3' ?_));refine nP (f:=xV) h3' _ [] _ (by rw[bi];simp only[bZ];lia) (λd hd k hk=>?_) λq2 hq2=>?_
 .obtain⟨x,_,rfl⟩:=bI.mp hd;exact hk
 rw[ci,tf];have s2:=nW.new (c:=.lst ((l.groups.map (·.1)).map D.str)) hq2;refine mH (s2.lst e1) (mH mP ⟨?_,λq3 hq3=>?_⟩)
 .rw[bi,bi,bi];show(l.lA.map (·.1)).length+_<=_;rw[bi];lia
 have en:l.pn.map D.str++(l.groups.map (·.1)).map D.str=l.nm.map D.str:=by unfold nc.nm;rw[b5];rfl
 rw[en];exact⟨_,(s1.trans s2).upd,q q3 ((s1.trans s2).none hq3)⟩
def DE{n:Nat}{pre post:T0 D}{d:D}(e:pre++d::post=(List.range n).map λi=>D.int (0+(i:Nat))):d=.int (0+(pre.length:Nat))/\pre.length<n:=by
 have h:((List.range n).map λi=>D.int (0+(i:Nat)))[pre.length]?=some d:=by rw[<-e];simp
 have hl:pre.length<n:=by
  have:=(bL.mp h).1
  simpa using this
 rw[bM,gU hl]at h;exact⟨(bJ h).symm,hl⟩
def Df{α β:Type}(f:Nat->α)(g:α->β)(n:Nat):((List.range n).map f).map g++[g (f n)]=((List.range (n+1)).map f).map g:=by rw[i7,b5,b5];rfl
theorem vP(x:Array Nat):∀(n:Nat) (acc:Array Nat),((List.replicate n x).foldl (·++·) acc).toList=acc.toList++(List.replicate n x.toList).flatten
 | 0,acc=>by simp
 | n+1,acc=>by rw[dZ,dF,vP x n (acc++x),dZ,j7,bW,cc]
theorem yZ(c:Nat):∀n:Nat,(List.replicate n [c]).flatten=List.replicate n c
 | 0=>rfl
 | n+1=>by rw[dZ,j7,yZ c n,dZ];rfl
def wV(i n:Int):(s8 (pk i) n).cps.toList=List.replicate n.toNat (97+i.toNat):=by show((List.replicate n.toNat (pk i).cps).foldl (·++·) #[]:Array Nat).toList=_;rw[vP];show[]++(List.replicate n.toNat [97+i.toNat]).flatten=_;rw[ci,yZ]
def si(s v:Int):(word s v).cps.toList=List.replicate (place s).toNat (97+(s / 36 % 26).toNat)++(97+((s / 936+v) % 26).toNat)::List.replicate (size s - 1 - place s).toNat (97+(s / 36 % 26).toNat):=by show((s8 (pk (s / 36 % 26)) (place s)).cps++(pk ((s / 936+v) % 26)).cps++(s8 (pk (s / 36 % 26)) (size s - 1 - place s)).cps).toList=_;rw[bW,bW,wV,wV];show _++[97+((s / 936+v) % 26).toNat]++_=_;rw[cc];rfl
def vi(s v:Int):1<=(word s v).length/\(word s v).length<=6:=by
 have e:(word s v).length=(word s v).cps.toList.length:=by simp[Str.length]
 rw[e,si,bz,bT,gE,gE];have h1:=yO s;have h2:=BP s;have h3:0<=place s:=cq _ (by lia);have h4:place s<size s:=cf _ h1;lia
def Dt{i:Int}(h0:0<=i)(h1:i<26):wy ⟨#[97+i.toNat]⟩ pI=true:=by
 obtain⟨n,rfl⟩:=cH h0;have hn:n<26:=by lia
 have key:∀n:_root_.Fin 26,wy ⟨#[97+n.val]⟩ pI=true:=by decide+kernel
 exact key ⟨n,hn⟩
def wZ(s v:Int):pD (word s v)=true:=by
 obtain⟨h1,h2⟩:=vi s v;unfold pD;rw[bV (show(1:Int)<=(word s v).length by lia),bV (show((word s v).length:Int)<=6 by lia),eI,eI,ck];intro c hc;rw[si]at hc;have k1:=Dt (cq (s / 36) (show(26:Int)≠0 by decide)) (cf (s / 36) (by decide));have k2:=Dt (cq (s / 936+v) (show(26:Int)≠0 by decide)) (cf (s / 936+v) (by decide));rcases bS.mp hc with z|z
 .rw[iQ z];exact k1
 .rcases br.mp z with z|z
  .rw[z];exact k2
  .rw[iQ z];exact k1
def yT{s u v:Int}(hu:0<=u)(hu':u<26)(hv:0<=v)(hv':v<26)(e:word s u=word s v):u=v:=by
 have e':(word s u).cps.toList=(word s v).cps.toList:=by rw[e]
 rw[si,si]at e';have:=(iW e');have:=(eX this).1;have a1:=cq (s / 936+u) (show(26:Int)≠0 by decide);have a2:=cq (s / 936+v) (show(26:Int)≠0 by decide);have h:(s / 936+u) % 26=(s / 936+v) % 26:=by lia
 lia
def sQ{ss:QQQ}{x:Str}(h:x∈ss):rY ss x:=kz.mpr ⟨x,h,by simp⟩
def r6{row:QQQ}{i:Int}(h0:0<=i)(h1:i<row.length):uC row i∈row:=by
 obtain⟨n,rfl⟩:=cH h0;have hn:n<row.length:=by lia
 have:uC row (n:Int)=row[n]:=by simp[uC,hn]
 rw[this];exact gB hn
def xM{row:QQQ}{i j:Int}(nd:row.Nodup)(h0:0<=i)(h1:i<row.length)(g0:0<=j)(g1:j<row.length)(e:uC row i=uC row j):i=j:=by
 obtain⟨n,rfl⟩:=cH h0;obtain⟨k,rfl⟩:=cH g0;have hn:n<row.length:=by lia
 have hk:k<row.length:=by lia
 have e1:uC row (n:Int)=row[n]:=by simp[uC,hn]
 have e2:uC row (k:Int)=row[k]:=by simp[uC,hk]
 rw[e1,e2]at e;have pw:=dP.mp nd;rcases Nat.lt_trichotomy n k with z|z|z
 .exact absurd e (pw n k hn hk z)
 .rw[z]
 .exact absurd e.symm (pw k n hk hn z)
def wN{α:Type}(f:Nat->α)(n:Nat)(h:∀i j,i<n->j<n->f i=f j->i=j):((List.range n).map f).Nodup:=by refine dP.mpr λi j hi hj Mr e=>?_;rw[bi,cS]at hi hj;rw[kA,kA,jR,jR]at e;have:=h i j hi hj e;lia
def vm{row:QQQ}{c m:Int}(hr:row≠[])(hm:0<m):1<=rq row c m/\(rq row c m:Int)<=m/\rq row c m<=row.length:=by
 have hl:0<row.length:=cX.mpr hr;have d0:=nQ (c:=c) (f:=40692) (m:=if (row.length:Int)<m then(row.length:Int)else m) (by split<;>lia);have d1:=nG (c:=c) (f:=40692) (m:=if (row.length:Int)<m then(row.length:Int)else m) (by split<;>lia);unfold rq;by_cases h:(row.length:Int)<m
 .rw[bw h]at d0 d1 ⊢;lia
 .rw[bq h]at d0 d1 ⊢;lia
def vT{row:QQQ}{c:Int}(hr:row≠[])(j:Nat):0<=(mX c 69621 row.length+(0+(j:Nat))) % (row.length:Int)/\(mX c 69621 row.length+(0+(j:Nat))) % (row.length:Int)<row.length:=by have hl:0<row.length:=cX.mpr hr;exact⟨cq _ (by lia),cf _ (by lia)⟩
def xB{d n i j:Int}(hn:0<n)(hi:0<=i)(Oz:i<n)(hj:0<=j)(MN:j<n)(e:(d+i) % n=(d+j) % n):i=j:=by
 have h1:=jk (d+i) n;have h2:=jk (d+j) n;generalize (d+i) / n=a at h1;generalize (d+j) / n=b at h2;have h3:i - j=n*(a - b):=by rw[Int.mul_sub];lia
 rcases Int.lt_trichotomy (a - b) 0 with z|z|z
 .have:n*(a - b)<=n*(-1):=gT (by lia) (by lia);lia
 .rw[z]at h3;lia
 .have:n*1<=n*(a - b):=gT (by lia) (by lia);lia
def Ah{row:QQQ}{c m:Int}(nd:row.Nodup)(hr:row≠[])(hm:0<m):(qT row c m).Nodup:=by have hl:0<row.length:=cX.mpr hr;obtain⟨_,_,l3⟩:=vm (c:=c) hr hm;refine wN _ _ λi j hi hj e=>?_;obtain⟨a0,a1⟩:=vT (c:=c) hr i;obtain⟨b0,b1⟩:=vT (c:=c) hr j;have e':=xM nd a0 a1 b0 b1 e;have:=xB (d:=mX c 69621 row.length) (n:=row.length) (i:=0+(i:Nat)) (j:=0+(j:Nat)) (by lia) (by lia) (by lia) (by lia) (by lia) e';lia
def uq{row:QQQ}{c m k:Int}(nd:row.Nodup)(hr:row≠[])(hm:0<m)(hk:m<=k):oC (qT row c m) row k=true:=by
 obtain⟨l1,l2,l3⟩:=vm (c:=c) hr hm;have el:(qT row c m).length=rq row c m:=by unfold qT;rw[bi,cS]
 unfold oC;rw[el,bV (show(1:Int)<=rq row c m by lia),bV (show(rq row c m:Int)<=k by lia),ud (Ah nd hr hm),eI,eI,eI,ck];intro x hx;unfold qT at hx;obtain⟨j,_,rfl⟩:=bI.mp hx;obtain⟨a0,a1⟩:=vT (c:=c) hr j;exact sQ (r6 a0 a1)
def zd{row:QQQ}{c m:Int}(hr:row≠[])(hm:0<m)(h:m<=100):(qT row c m).length<4000:=by
 obtain⟨l1,l2,l3⟩:=vm (c:=c) hr hm;have el:(qT row c m).length=rq row c m:=by unfold qT;rw[bi,cS]
 lia
def F7{c:Int}{own all:QQQ}(no:own.Nodup)(na:all.Nodup)(ho:own≠[])(ha:2<=all.length):ul own all (qR c own all):=by
 have hl:(0:Int)<own.length:=by have:=cX.mpr ho;lia
 have ha0:all≠[]:=λz=>by rw[z]at ha;simp at ha
 have hx:=sQ (r6 (nQ (c:=c) (f:=16807) hl) (nG (c:=c) (f:=16807) hl));have p0:=nQ (c:=c) (f:=39373) (m:=all.length) (by lia);have p1:=nG (c:=c) (f:=39373) (m:=all.length) (by lia);have e0:=nQ (c:=c) (f:=742938285) (m:=(all.length:Int) - 1) (by lia);have e1:=nG (c:=c) (f:=742938285) (m:=(all.length:Int) - 1) (by lia);have z0:=cq (mX c 39373 all.length+1+mX c 742938285 ((all.length:Int) - 1)) (show(all.length:Int)≠0 by lia);have z1:=cf (mX c 39373 all.length+1+mX c 742938285 ((all.length:Int) - 1)) (show(0:Int)<all.length by lia);have hy:=sQ (r6 p0 p1);have hzz:=sQ (r6 z0 z1);have ne:uC all (mX c 39373 all.length)≠uC all ((mX c 39373 all.length+1+mX c 742938285 ((all.length:Int) - 1)) % all.length):=λz=>by
  have q:=xM na p0 p1 z0 z1 z;have q2:(mX c 39373 all.length+0) % (all.length:Int)=(mX c 39373 all.length+(1+mX c 742938285 ((all.length:Int) - 1))) % (all.length:Int):=by rw[k9,j8 p0 p1,<-kZ];exact q
  have:=xB (by lia) (by lia) (by lia) (by lia) (by lia) q2;lia
 have f0:=nQ (c:=c) (f:=22695477) (m:=24) (by decide);have f1:=nG (c:=c) (f:=22695477) (m:=24) (by decide);have g0:=nQ (c:=c) (f:=48271) (m:=23) (by decide);have g1:=nG (c:=c) (f:=48271) (m:=23) (by decide);have t0:=nQ (c:=c) (f:=950706376) (m:=5) (by decide);have t1:=nG (c:=c) (f:=950706376) (m:=5) (by decide);unfold qR;simp only;split
 .exact⟨hx,zd ha0 (by decide) (by decide),uq na ha0 (by decide) (by decide)⟩
 .split
  .exact⟨hy,zd ho (by decide) (by decide),uq no ho (by decide) (by decide)⟩
  .split
   .exact⟨hy,hzz,ne⟩
   .split
    .refine⟨hy,hzz,ne,⟨f0,by lia⟩,⟨cq _ (by decide),?_⟩,?_⟩
     .have:=cf (mX c 22695477 24+1+mX c 48271 23) (show(0:Int)<24 by decide);lia
     .omega
    .split
     .exact⟨hy,hzz,ne⟩
     .split
      .refine⟨hy,hzz,ne,?_⟩;generalize mX c 950706376 5=d at t0 t1;have:d=0\/d=1\/d=2\/d=3\/d=4:=by lia
       rcases this with z|z|z|z|z<;>(subst z;decide)
      .split
       .exact hx
       .exact hx
def vw{x y:Str}(h:D.str x=D.str y):x=y:=by cases h;rfl
noncomputable def qj(l:QQQ):Str:=l.headD ""
noncomputable def uP(l:QQQ):Str:=l.getLastD ""
noncomputable def nX(gs:Str->QQQ):Nat->QQQ->T0 (QQQ)
 | 0,_=>[]
 | n+1,path=>(gs (uP path)).flatMap λx=>if x=qj path then[path]else if sD (qj path) x&&!(path.contains x)then nX gs n (path++[x])else[]
noncomputable def yd(gs:Str->QQQ)(n:Nat)(path:QQQ)(x:Str):T0 (QQQ):=if x=qj path then[path]else if sD (qj path) x&&!(path.contains x)then nX gs n (path++[x])else[]
def sj(gs:Str->QQQ)(n:Nat)(path:QQQ):nX gs (n+1) path=(gs (uP path)).flatMap (yd gs n path):=rfl
def nC(M:Mp):QXQ->T0 (QQQ)->Prop
 | [],[]=>True
 | q::ps,r::rs=>ma M q=some (r.map D.str)/\nC M ps rs
 | _,_=>False
theorem nC.app{M:Mp}:∀{ps qs:QXQ} {rs ts:T0 (QQQ)},nC M ps rs->nC M qs ts->nC M (ps++qs) (rs++ts)
 | [],_,[],_,_,h=>h
 | [],_,_::_,_,h,_=>h.elim
 | _::_,_,[],_,h,_=>h.elim
 | _::_,_,_::_,_,⟨h1,h2⟩,h=>⟨h1,nC.app h2 h⟩
theorem nC.mono{M M':Mp}:∀{ps:QXQ} {rs:T0 (QQQ)},nC M ps rs->(∀q∈ps,∀c,M q=some c->M' q=some c)->nC M' ps rs
 | [],[],_,_=>trivial
 | [],_::_,h,_=>h.elim
 | _::_,[],h,_=>h.elim
 | q::_,_::_,⟨h1,h2⟩,k=>⟨by
   have:=k q bG _ (mZ h1);unfold ma;rw[this],nC.mono h2 λq hq=>k q (bK _ hq)⟩
theorem nC.len{M:Mp}:∀{ps:QXQ} {rs:T0 (QQQ)},nC M ps rs->ps.length=rs.length
 | [],[],_=>rfl
 | [],_::_,h=>h.elim
 | _::_,[],h=>h.elim
 | _::_,_::_,⟨_,h⟩=>c8 (·+1) h.len
theorem nC.cell{M:Mp}:∀{ps:QXQ} {rs:T0 (QQQ)},nC M ps rs->∀{q:Addr},q∈ps->∃c,M q=some c
 | [],_,_,_,z=>by cases z
 | _::_,[],h,_,_=>h.elim
 | p::ps,r::rs,⟨h1,h2⟩,q,z=>by
  rcases br.mp z with e|e
  .subst e;exact⟨_,mZ h1⟩
  .exact h2.cell e
structure Eu(M M':Mp)(p:Addr)(rs:List (QQQ)):Prop where
 fr:M p=none
 at_:∃ps:QXQ,ma M' p=some (ps.map D.ref)/\ps.Nodup/\p∉ps/\(∀q∈ps,M q=none)/\nC M' ps rs
structure FL(M:Mp)(g:Addr)(nm:QQQ)(gs:Str->QQQ):Prop where
 at_:∃ob kvs,M g=some (.fd ob kvs)/\∀x∈nm,∃b,qQ kvs (.inr x)=some (.ref b)/\ma M b=some ((gs x).map D.str)
 cl:∀x∈nm,∀y∈gs x,y∈nm
 bd:∀n p,p≠[]->(∀x∈p,x∈nm)->(nX gs n p).length<=1000000
def se(n:Nat):pP:=λds M Q=>∃g p nm gs path,ds=[.ref g,.ref p]/\FL M g nm gs/\ma M p=some (path.map D.str)/\path≠[]/\path.Nodup/\(∀x∈path,x∈nm)/\nm.length<path.length+n/\nm.length<1000/\∀q M',nW M M'->Eu M M' q (nX gs n path)->Q (.ref q) M'
theorem pW:∀{l m:QQQ},l.Nodup->(∀x∈l,x∈m)->l.length<=m.length
 | [],_,_,_=>cu _
 | x::l,m,nd,h=>by obtain⟨n1,n2⟩:=cp.mp nd;have p:=jq (h x bG);have:=pW (l:=l) (m:=m.erase x) n2 λy hy=>(jr (λe:y=x=>n1 (e ▸ hy))).mpr (h y (bK _ hy));have:=p.length_eq;simp at this ⊢;lia
def AY{l:QQQ}(h:l≠[]):tE (l.map D.str) (-1)=some (.str (uP l)):=by
 have hp:0<l.length:=cX.mpr h;unfold tE GU;rw[bq (by decide),bw (by rw[bi];lia),Option.bind_some,bM,bi];rw[show((-1:Int)+(l.length:Nat)).toNat=l.length - 1 by lia,<-List.getLast?_eq_getElem?,List.getLast?_eq_some_getLast h];cases l with
 | nil=>exact absurd rfl h
 | cons z zs=>unfold uP;rw[ic,<-gh (by simp)];rfl
def pA{M:Mp}{p:Addr}{ds:T0 D}(h:M p=some (.lst ds)):ma M p=some ds:=by unfold ma;rw[h]
def oT{M M1:Mp}{f:Addr}{c:qg}(s:nW M M1)(h:M f=none):nW M (mL M1 f c):=λb d q=>by rw[nw (IG q h)];exact s b d q
def nN{M M1:Mp}{r:Addr}(s:nW M M1)(h:M1 r=none):M r=none:=by
 cases e:M r with
 | none=>rfl
 | some c=>rw[s r c e]at h;cases h
def nk{M M':Mp}{p:Addr}{ds:T0 D}(s:nW M M')(h:ma M p=some ds):ma M' p=some ds:=by have:=s p _ (mZ h);unfold ma;rw[this]
def Ea:Fq P w K mg base 1 a.i (se 0):=by
 show GH P w K mg base 1 a.i.f a.i.d a.i.p (se 0);rw[G.i.pe];refine G.i.fn.ok pH (λvs H Q E h=>?_) (λMv A outer s H vs Q' E hr h=>?_)
 .obtain⟨ds,M,Q,hd,_,⟨g,p,nm,gs,path,_,_,_,_,nd,sb,lt,_⟩,_⟩:=h;exact absurd (pW nd sb) (by lia)
 .obtain⟨ds,M,Q,hd,_,⟨g,p,nm,gs,path,_,_,_,_,nd,sb,lt,_⟩,_⟩:=h;exact absurd (pW nd sb) (by lia)
def AR(G:Gl K mg a){k n:Nat}(Mt:Fq P w K mg base k a.i (se n)):GH P w K mg base (k+1) a.i.f a.i.d a.i.p (se (n+1)):=by
 refine fq G.i.toDG pH (λr u=>⟨_,(mI (mY 2 pH (pR qN))
 (mI (qv de rfl (nO (BM u u0 (nj V1 (Iq mJ)))) (oN 3 pH)
 (mK (oq (nI u V3 (nj V1 mJ))
 (mK (mW (pL V2 (oR (oZ yD rfl G.ab tW (oR V1))))))
 (mK (oq (W3.b3 (yk (GQ V3 (nj V1 mJ)) (vc (nI u V3 V1))))
 (mK (mW (qZ V2 (oR (mM Mt r G.i (qa u0 (m8 V1 (pR (oR V3)))))))))
 nu)))))
 (mK (mT V2)))),?_⟩)
 rintro ds M Q ⟨g,p,nm,gs,path,rfl,ga,hp,ne,nd,sb,lt,ls,q⟩
 obtain⟨ob,kvs,e1,e2⟩:=ga.at_;obtain⟨y,ys,rfl⟩:∃y ys,path=y::ys:=by
  cases path with
  | nil=>exact absurd rfl ne
  | cons y ys=>exact⟨y,ys,rfl⟩
 refine⟨cu _,λf hf=>?_⟩;have hl:uP (y::ys)∈nm:=sb _ (by unfold uP;rw[ic,<-gh (by simp)];exact kB _);obtain⟨b,e3,e4⟩:=e2 _ hl;have s0:nW M (mL M f (.lst [])):=.new hf;refine mH (nk s0 hp) (mH (AY (by simp)) (mH (show Ht _ g=some kvs by unfold Ht;rw[s0 g _ e1]) (mH e3 (mH (nk s0 e4) ?_))));let J:T0 D->qz->Mp->Prop:=λpre U M1=>∃(x:Option D) (xs:QQQ) (ps:QXQ),U=[some (.ref g),some (.ref p),some (.ref f),x]/\pre=xs.map D.str/\nW M M1/\ma M1 f=some (ps.map D.ref)/\ps.Nodup/\f∉ps/\(∀q∈ps,M q=none)/\nC M1 ps (xs.flatMap (yd gs n (y::ys)));refine rV ((gs (uP (y::ys))).map D.str) J (λpre U M1 j=>?_) _ [] _ _ rfl ⟨none,[],[],rfl,rfl,s0,mP,df,by simp,by simp,trivial⟩ (λpre d post he U M1 j nx MV=>?_) λU M1 j=>?_
 .obtain⟨x,xs,ps,_,_,sm,_⟩:=j;exact nk sm e4
 .obtain⟨x0,xs,ps,rfl,rfl,sm,NK,Od,nf,fr,rp⟩:=j;obtain⟨x,rfl,hx⟩:∃x,d=.str x/\x∈gs (uP (y::ys)):=by have:d∈(gs (uP (y::ys))).map D.str:=he ▸ bU _ bG;obtain⟨x,hx,rfl⟩:=bI.mp this;exact⟨x,rfl,hx⟩
  have bd:∀r,(xs.flatMap (yd gs n (y::ys))++r).length<=1000000->ps.length<=1000000:=λr z=>by have:=rp.len;rw[bz]at z;lia
  have tot:(xs.flatMap (yd gs n (y::ys))++yd gs n (y::ys) x).length<=1000000:=by have b0:=ga.bd (n+1) (y::ys) (by simp) sb;obtain⟨zs,ez,e5⟩:=je.mp he.symm;obtain⟨e6,e7,e8⟩:=e5;obtain⟨x',r',e9,e10,_⟩:=ju.mp e8;have e11:zs=xs:=(dw λ_ _ z=>vw z).mp e7;cases vw e10;subst e11;rw[sj,e6,e9,cP,fz,<-cc,bz]at b0;lia
  refine mH (nk sm hp) (mH (ri (j:=0) rfl) ?_);show if (x==y)=true then _ else _
  have kp:∀(M2:Mp) (q:Addr) (c c2:qg),q∈ps->nW M1 M2->M1 q=some c->mL M2 f c2 q=some c:=λM2 q c c2 hq s e=>by rw[nw (λz:q=f=>nf (z ▸ hq))];exact s q c e
  have OE:zg M1 (.ref f):=by show(ma M1 f).isSome=true;rw[NK];rfl
  refine qy (c:=x==y) (λgx=>?_) (λgx=>?_)
  .have gx:x=y:=eq_of_beq gx;refine⟨OE,mH (show Ab M1 (D.ref p)=some ((y::ys).map D.str)from nk sm hp) λr hr=>?_⟩;refine mH (nk (.new hr) NK) ⟨?_,?_⟩
   .have:=bd _ tot;have:=cb;rw[bi];lia
   have rf:r≠f:=λz=>by subst z;rw[mZ NK]at hr;cases hr
   have rps:r∉ps:=λz=>by obtain⟨c,e⟩:=rp.cell z;rw[hr]at e;cases e
   refine MV _ _ ⟨_,xs++[x],ps++[r],rfl,by simp,oT (oT sm (nN sm hr)) hf,?_,?_,?_,?_,?_⟩
   .rw[b5];exact mP
   .exact cC.mpr ⟨Od,by simp,λu hu v hv=>by rw[bP]at hv;subst hv;exact λe=>rps (e ▸ hu)⟩
   .simp[nf,bR rf]
   .intro q hq;rcases bS.mp hq with z|z
    .exact fr q z
    .rw[bP]at z;subst z;exact nN sm hr
   .rw[cP];refine(rp.mono λq hq c e=>kp _ q c _ hq (.new hr) e).app ?_;have es:[x].flatMap (yd gs n (y::ys))=[y::ys]:=by simp[yd,qj,gx]
    rw[es];refine⟨?_,trivial⟩;exact pA (by rw[nw rf];exact mN)
  .have gx:x≠y:=by simpa using gx
   refine mH (nk sm hp) (mH (ri (j:=0) rfl) ?_);show if sD y x=true then _ else _
   have skip:(sD y x&&!((y::ys).contains x))=false->J (xs.map D.str++[D.str x]) [some (D.ref g),some (D.ref p),some (D.ref f),some (D.str x)] M1:=λz=>by
    refine⟨_,xs++[x],ps,rfl,by simp,sm,NK,Od,nf,fr,?_⟩;have es:[x].flatMap (yd gs n (y::ys))=[]:=by have z':(sD (qj (y::ys)) x&&!((y::ys).contains x))=false:=z;simp only[fz,kC,bY,yd];rw[bq (show ¬x=qj (y::ys)from gx),z'];rfl
    rw[cP,es,bY];exact rp
   refine qy (c:=sD y x) (λh1=>?_) (λh1=>MV _ _ (skip (by rw[dD.mpr h1];rfl)));refine mH (nk sm hp) ⟨rfl,qk _,?_⟩;show if (!(inD (.str x) ((y::ys).map D.str)))=true then _ else _
   rw[u9];have ec:(y::ys).any (·==x)=(y::ys).contains x:=by rw[gg];congr 1;funext z;exact jy
   rw[ec];refine qy (c:=!(y::ys).contains x) (λh2=>?_) (λh2=>MV _ _ (skip (by rw[dD.mpr h2,eP])));refine⟨OE,gp (by have:=cb;show 0<sizeLine;lia),λt1 ht1=>?_⟩;have h2:x∉y::ys:=by simpa using h2
   have s1:nW M1 (mL M1 t1 (.lst [.str x])):=.new ht1;refine mH (nk (sm.trans s1) hp) (mH mP ⟨?_,λt2 ht2=>?_⟩)
   .have:=cb;have:=pW nd sb;simp only[bi,bT,bZ]at this ⊢;lia
   have s2:=s1.trans (nW.new (c:=.lst ((y::ys).map D.str++[.str x])) ht2);refine⟨g,t2,nm,gs,y::ys++[x],rfl,⟨⟨ob,kvs,(sm.trans s2) g _ e1,λz hz=>?_⟩,ga.cl,ga.bd⟩,?_,by simp,?_,?_,?_,?_,λq M3 s3 rn=>?_⟩
   .obtain⟨b',z1,z2⟩:=e2 z hz;exact⟨b',z1,nk (sm.trans s2) z2⟩
   .rw[b5];exact mP
   .exact cC.mpr ⟨nd,by simp,λu hu v hv=>by rw[bP]at hv;subst hv;exact λe=>h2 (e ▸ hu)⟩
   .intro z hz;rcases bS.mp hz with z1|z1
    .exact sb z z1
    .rw[bP]at z1;subst z1;exact ga.cl _ hl _ hx
   .simp only[bz,bT,bZ]at lt ⊢;lia
   .exact ls
   .obtain⟨qf,qs,w1,w2,w3,w4,w5⟩:=rn;have Pe:=s2.trans s3;have es:[x].flatMap (yd gs n (y::ys))=nX gs n (y::ys++[x]):=by
     have z':(sD (qj (y::ys)) x&&!((y::ys).contains x))=true:=by rw[cO];exact⟨h1,by simpa using h2⟩
     simp only[fz,kC,bY,yd];rw[bq (show ¬x=qj (y::ys)from gx),bw z']
    have MW:yd gs n (y::ys) x=nX gs n (y::ys++[x]):=by simpa using es
    refine mH (nk Pe NK) (mH w1 ⟨?_,?_⟩)
    .have:=rp.len;have:=w5.len;have:=cb;rw[MW,bz]at tot;rw[bi,bi];lia
    have fq:f∉qs:=λz=>by have:=w4 f z;rw[s2 f _ (mZ NK)]at this;cases this
    refine MV _ _ ⟨_,xs++[x],ps++qs,rfl,by simp,oT (sm.trans Pe) hf,?_,?_,?_,?_,?_⟩
    .rw[b5];exact mP
    .refine cC.mpr ⟨Od,w2,λu hu v hv e=>?_⟩;subst e;obtain⟨c,ec⟩:=rp.cell hu;have:=w4 u hv;rw[s2 u c ec]at this;cases this
    .rw[bS];exact λz=>z.elim nf fq
    .intro r hr;rcases bS.mp hr with z|z
     .exact fr r z
     .exact nN (sm.trans s2) (w4 r z)
    .rw[cP,es];refine(rp.mono λr hr c e=>kp _ r c _ hr Pe e).app (w5.mono λr hr c e=>?_);rw[nw (λz:r=f=>fq (z ▸ hr))];exact e
 .obtain⟨x0,xs,ps,rfl,ex,sm,NK,Od,nf,fr,rp⟩:=j;have:xs=gs (uP (y::ys)):=by exact(dw λ_ _ z=>vw z).mp ex.symm
  subst this;exact⟨M1,.refl,q f M1 sm ⟨hf,ps,NK,Od,nf,fr,rp⟩⟩
theorem yX(G:Gl K mg a):∀n:Nat,GH P w K mg base (n+1) a.i.f a.i.d a.i.p (se n)
 | 0=>Ea G
 | n+1=>AR G (yX G n)
def rG{M:Mp}{p:Addr}{kvs:T0 (nZ×D)}(h:M p=some (.dk kvs)):vS M p=some kvs:=by unfold vS;rw[h]
noncomputable def rowAt(M:Mp)(q:Addr):QQQ:=((ma M q).getD []).map λd=>match d with|.str x=>x|_=>""
def vI{M:Mp}{q:Addr}{r:QQQ}(h:ma M q=some (r.map D.str)):rowAt M q=r:=by unfold rowAt;rw[h];show(r.map D.str).map _=r;rw[cx];exact jO r
theorem nC.rowAt{M:Mp}:∀{ps:QXQ} {rs:T0 (QQQ)},nC M ps rs->∀{q:Addr},q∈ps->ma M q=some ((rowAt M q).map D.str)
 | [],_,_,_,z=>by cases z
 | _::_,[],h,_,_=>h.elim
 | p::ps,r::rs,⟨h1,h2⟩,q,z=>by
  rcases br.mp z with e|e
  .subst e;rw[vI h1];exact h1
  .exact nC.rowAt h2 e
theorem nC.rows{M:Mp}:∀{ps:QXQ} {rs:T0 (QQQ)},nC M ps rs->ps.map (Z.rowAt M)=rs
 | [],[],_=>rfl
 | [],_::_,h=>h.elim
 | _::_,[],h=>h.elim
 | p::ps,r::rs,⟨h1,h2⟩=>by rw[b6,vI h1,nC.rows h2]
theorem xD{M:Mp}{f:Addr->QQQ}:∀{ps:QXQ},(∀q∈ps,ma M q=some ((f q).map D.str))->nC M ps (ps.map f)
 | [],_=>trivial
 | q::ps,h=>⟨h q bG,xD λr hr=>h r (bK _ hr)⟩
structure EV(M M':Mp)(g:Addr)(nm:QQQ)(gs:Str->QQQ):Prop where
 fr:M g=none
 at_:∃kvs,M' g=some (.dk kvs)/\kvs.map (·.1)=nm.map Sum.inr/\∀x∈nm,∃b,M b=none/\b≠g/\qQ kvs (.inr x)=some (.ref b)/\ma M' b=some ((gs x).map D.str)
noncomputable def Wi.lD:Wi->Option (Str×Str)
 | .always x y=>some (x,y)
 | .night x y _ _=>some (x,y)
 | .busy x y=>some (x,y)
 | .silent x y _=>some (x,y)
 | _=>none
noncomputable def nc.led(l:nc)(x:Str):QQQ:=l.lh.filterMap λw=>if w.1 then(w.2.lD.bind λp=>if p.1=x then some p.2 else none)else none
def Hr(l:nc)(gs:Str->QQQ):Prop:=∀x∈l.nm,(gs x).Nodup/\∀y,y∈gs x↔y∈l.led x
def BL(a:Ad):pP:=λds M Q=>∃p l,ds=[.ref p]/\rh a M p l/\pT l/\∀g gs M',Hr l gs->nW M M'->EV M M' g l.nm gs->Q (.ref g) M'
def LY(l:nc)(gs:Str->QQQ):Prop:=(∀x∈l.nm,∀y∈gs x,y∈l.nm)/\(∀n p,p≠[]->(∀x∈p,x∈l.nm)->(nX gs n p).length<=1000000)/\(l.nm.flatMap λx=>nX gs 12 [x]).length<=1000000
def Fc(a:Ad):pP:=λds M Q=>∃p l,ds=[.ref p]/\rh a M p l/\pT l/\
 ∀q gs rs M',Hr l gs->nW M M'->Eu M M' q rs->rs.Perm (l.nm.flatMap λx=>nX gs 12 [x])->rs.Pairwise (λr t=>su t r=false)->Q (.ref q) M'
def nR{ss:QQQ}{x:Str}(h:rY ss x):x∈ss:=by
 obtain⟨y,hy,e⟩:=kz.mp h;have:y=x:=by simpa using e
 exact this ▸ hy
noncomputable def pK(f:Str->Nat)(l:QQQ):Nat:=(l.map f).sum
theorem ve{f g:Str->Nat}:∀{l:QQQ},(∀x∈l,f x<=g x)->pK f l<=pK g l
 | [],_=>bB _
 | x::l,h=>Nat.add_le_add (h x bG) (ve λy hy=>h y (bK _ hy))
theorem y9(f g:Str->Nat):∀l:QQQ,pK (λx=>f x+g x) l=pK f l+pK g l
 | []=>rfl
 | x::l=>by show f x+g x+pK (λx=>f x+g x) l=(f x+pK f l)+(g x+pK g l);rw[y9 f g l];lia
theorem yM{f:Str->Nat}{p q:Str->Bool}(h:∀y,q y=true->p y=true):∀l:QQQ,pK f (l.filter q)<=pK f (l.filter p)
 | []=>bB _
 | y::l=>by
  have ih:=yM (f:=f) h l;rw[dz,dz];by_cases hq:q y=true
  .rw[bw hq,bw (h y hq)];exact jE ih _
  .rw[bq hq];split
   .exact bQ ih (i8 _ _)
   .exact ih
theorem vn{f:Str->Nat}{p q:Str->Bool}{x:Str}(h:∀y,q y=true->p y=true)(px:p x=true)(qx:q x=false):∀{l:QQQ},x∈l->f x+pK f (l.filter q)<=pK f (l.filter p)
 | [],z=>by cases z
 | y::l,z=>by
  rw[dz,dz];rcases br.mp z with e|e
  .subst e;rw[bw px,qx,bq (by simp)];exact jE (yM h l) _
  .have ih:=vn (f:=f) h px qx e;by_cases hq:q y=true
   .rw[bw hq,bw (h y hq)];show f x+(f y+pK f (l.filter q))<=f y+pK f (l.filter p);lia
   .rw[bq hq];split
    .exact bQ ih (i8 _ _)
    .exact ih
theorem vd{α β:Type}{f:α->List β}{B:Nat}:∀{l:List α},(∀x∈l,(f x).length<=B)->(l.flatMap f).length<=l.length*B
 | [],_=>by simp
 | x::l,h=>by have:=vd (l:=l) λy hy=>h y (bK _ hy);have:=h x bG;rw[fz,bz,bT,jM];lia
def vJ{p:QQQ}(h:p≠[]):uP p∈p:=by
 cases p with
 | nil=>exact absurd rfl h
 | cons y ys=>unfold uP;rw[ic,<-gh (by simp)];exact kB _
theorem wF{gs:Str->QQQ}{nm:QQQ}(cl:∀x∈nm,∀y∈gs x,y∈nm):∀(n:Nat) (path:QQQ),path≠[]->(∀x∈path,x∈nm)->(nX gs n path).length<=2 ^ ((gs (uP path)).length+pK (λx=>(gs x).length) (nm.filter λx=>!(path.contains x)))
 | 0,_,_,_=>cu _
 | n+1,path,hp,hs=>by
  rw[sj,Nat.pow_add];refine bQ (vd (B:=2 ^ pK (λx=>(gs x).length) (nm.filter λx=>!(path.contains x))) λx hx=>?_) (fN _ (fT Nat.lt_two_pow_self));unfold yd;split
  .exact Nat.one_le_two_pow
  .split
   .rename_i c;have c2:x∉path:=by simpa using(eO.mp c).2
    have hx:=cl _ (hs _ (vJ hp)) _ hx;have ih:=wF cl n (path++[x]) (by simp) λy hy=>by
     rcases bS.mp hy with z|z
     .exact hs y z
     .rw[bP.mp z];exact hx
    have e:uP (path++[x])=x:=by unfold uP;simp
    rw[e]at ih;refine bQ ih (gS (by decide) ?_);exact vn (f:=λx=>(gs x).length) (λy hy=>by simp at hy ⊢;exact hy.1) (by simpa using c2) (by simp) hx
   .exact cu _
def Dw{gs:Str->QQQ}{nm:QQQ}{B:Nat}(cl:∀x∈nm,∀y∈gs x,y∈nm)(hb:pK (λx=>(gs x).length) nm<=B)(n:Nat){path:QQQ}(hp:path≠[])(hs:∀x∈path,x∈nm):(nX gs n path).length<=2 ^ B:=by
 refine bQ (wF cl n path hp hs) (gS (by decide) (bQ ?_ hb));have:=vn (f:=λx=>(gs x).length) (p:=λ_=>true) (q:=λx=>!(path.contains x)) (x:=uP path) (l:=nm) (λ_ _=>rfl) rfl (by simpa using vJ hp) (hs _ (vJ hp))
 rwa [List.filter_eq_self.mpr (λ_ _=>rfl)]at this
noncomputable def Cu(x:Str)(w:oQ):Option Str:=if w.1 then(w.2.lD.bind λp=>if p.1=x then some p.2 else none)else none
theorem BB{s:Str}:∀{nm:QQQ},nm.Nodup->pK (λx=>if s=x then 1 else 0) nm<=1
 | [],_=>cu _
 | x::nm,nd=>by
  obtain⟨n1,n2⟩:=cp.mp nd;show(if s=x then 1 else 0)+pK _ nm<=1;by_cases e:s=x
  .subst e;have:pK (λx=>if s=x then 1 else 0) nm<=pK (λ_=>0) nm:=ve λy hy=>by rw[bq (λz:s=y=>n1 (z.symm ▸ hy))];exact bB _
   have z:∀l:QQQ,pK (λ_=>0) l=0:=λl=>by
    induction l with
    | nil=>rfl
    | cons _ _ ih=>show 0+pK _ _=0;rw[ih]
   rw[z]at this;rw[bw rfl];lia
  .rw[bq e,jN];exact BB n2
theorem Bm{nm:QQQ}(nd:nm.Nodup):∀ws:List oQ,pK (λx=>(ws.filterMap (Cu x)).length) nm<=ws.length
 | []=>by
  have z:∀l:QQQ,pK (λx=>(([]:List oQ).filterMap (Cu x)).length) l=0:=λl=>by
   induction l with
   | nil=>rfl
   | cons _ _ ih=>show 0+pK _ _=0;rw[ih]
  exact jI (z nm)
 | w::ws=>by
  have ih:=Bm nd ws;have st:pK (λx=>((w::ws).filterMap (Cu x)).length) nm<=pK (λx=>(if (w.2.lD.elim Str.empty (·.1))=x then 1 else 0)+(ws.filterMap (Cu x)).length) nm:=ve λx _=>by
   rw[eV];cases e:Cu x w with
   | none=>exact i8 _ _
   | some y=>
    have:w.2.lD.elim Str.empty (·.1)=x:=by
     unfold Cu at e;split at e
     .cases el:w.2.lD with
      | none=>rw[el]at e;cases e
      | some p=>
       rw[el]at e;have e:(if p.1=x then some p.2 else none)=some y:=e;split at e
       .rename_i h;exact h
       .cases e
     .cases e
    rw[bw this,bT];lia
  rw[y9]at st;have:=BB (s:=w.2.lD.elim Str.empty (·.1)) nd;rw[bT];lia
def za{l:nc}(ok:pT l){w:oQ}(h:w∈l.lh){p:Str×Str}(e:w.2.lD=some p):p.1∈l.nm/\p.2∈l.nm/\p.1≠p.2:=by
 have:=ok.wo w h;cases ew:w.2<;>rw[ew]at e this<;>cases e
 .exact⟨nR this.1,nR this.2.1,this.2.2⟩
 .exact⟨nR this.1,nR this.2.1,this.2.2.1⟩
 .exact⟨nR this.1,nR this.2.1,this.2.2⟩
 .exact⟨nR this.1,nR this.2.1,this.2.2.1⟩
def xp{l:nc}{x y:Str}:y∈l.led x↔∃w∈l.lh,w.1=true/\w.2.lD=some (x,y):=by
 unfold nc.led;rw[fU];constructor
 .rintro ⟨w,hw,e⟩
  refine⟨w,hw,?_⟩;split at e
  .rename_i h1;cases el:w.2.lD with
   | none=>rw[el]at e;cases e
   | some p=>
    rw[el]at e;have e:(if p.1=x then some p.2 else none)=some y:=e;split at e
    .rename_i h;exact⟨h1,by rw[<-h,<-bJ e]⟩
    .cases e
  .cases e
 .rintro ⟨w,hw,h1,h2⟩
  refine⟨w,hw,?_⟩;rw[bw h1,h2];show(if x=x then some y else none)=some y;rw[bw rfl]
def AU{l:nc}(ok:pT l):l.nm.length<=11:=by have:=ok.p8;have:=ok.g3;unfold nc.nm nc.pn nc.gn;rw[bz,bi,bi];lia
def Ir{l:nc}(ok:pT l){gs:Str->QQQ}(go:Hr l gs):LY l gs:=by
 have cl:∀x∈l.nm,∀y∈gs x,y∈l.nm:=λx hx y hy=>by obtain⟨w,hw,_,e⟩:=xp.mp (((go x hx).2 y).mp hy);exact(za ok hw e).2.1
 have sm:pK (λx=>(gs x).length) l.nm<=16:=bQ (ve λx hx=>pW (go x hx).1 λy hy=>((go x hx).2 y).mp hy) (bQ (Bm ok.nd l.lh) ok.my);have h:=λn p hp hs=>Dw cl sm n (path:=p) hp hs;refine⟨cl,λn p hp hs=>bQ (h n p hp hs) (by decide),bQ (vd (B:=2 ^ 16) λx hx=>h 12 [x] (by simp) λy hy=>by rw[bP.mp hy];exact hx) ?_⟩;have:=AU ok;have:l.nm.length*2 ^ 16<=11*2 ^ 16:=fN _ this;lia
def zD(G:Gl K mg a)(NB:Fq P w K mg base 13 a.B (BL a))(Mt:Fq P w K mg base 13 a.i (se 12)):Fq P w K mg base 14 a.C (Fc a):=by
 refine fq G.C.toDG qF (λr u=>⟨_,(mI (mY 1 qF (mM NB r G.B (oR u0)))
 (mI (mY 2 qF (pR qN))
 (mI (qv de rfl (Bt V1) (oN 3 qF)
 (mK (mW (qZ V2 (oR (mM Mt r G.i (qa V1 (pR (oR V3)))))))))
 (mK (mT (mU (vL u) rfl G.ay ug (oR V2))))))),?_⟩)
 rintro ds M Q ⟨p,l,rfl,pa,ok,q⟩
 have ln:=AU ok;refine⟨p,l,rfl,pa,ok,λg gs M1 go s1 gn=>?_⟩;obtain⟨cl,bd,bt⟩:=Ir ok go;refine⟨cu _,λf hf=>?_⟩;obtain⟨gf,kvs,e1,ek,e2⟩:=gn;have fg:g≠f:=IG e1 hf;refine mH (rG (by rw[nw fg];exact e1)) ⟨l.nm,ek,λob=>?_⟩;generalize eb:mL M1 g (.fd ob kvs)=Mb;have sb:nW M Mb:=by rw[<-eb];exact oT s1 gf
 have bf:Mb f=none:=by rw[<-eb,nw (bR fg)];exact hf
 have bg:Mb g=some (.fd ob kvs):=by rw[<-eb];exact mN
 have bl:∀x∈l.nm,∃b,qQ kvs (.inr x)=some (.ref b)/\ma Mb b=some ((gs x).map D.str):=λx hx=>by obtain⟨b,_,n2,n3,n4⟩:=e2 x hx;exact⟨b,n3,pA (by rw[<-eb,nw n2];exact mZ n4)⟩
 have sw:mL (mL M1 f (.lst [])) g (.fd ob kvs)=mL Mb f (.lst []):=by
  rw[<-eb];funext z;unfold mL;by_cases z1:z=g
  .rw[bw z1,bq (λz2=>fg (z1.symm.trans z2)),bw z1]
  .rw[bq z1,bq z1]
 rw[sw];clear sw eb e1 e2;let J:T0 D->qz->Mp->Prop:=λpre U M1=>∃(x:Option D) (xs:QQQ) (ps:QXQ),U=[some (.ref p),some (.ref g),some (.ref f),x]/\pre=xs.map D.str/\nW Mb M1/\ma M1 f=some (ps.map D.ref)/\ps.Nodup/\f∉ps/\(∀q∈ps,Mb q=none)/\nC M1 ps (xs.flatMap λx=>nX gs 12 [x]);refine rV (l.nm.map D.str) J (λpre U M1 j=>?_) _ [] _ _ rfl ⟨none,[],[],rfl,rfl,.new bf,mP,df,by simp,by simp,trivial⟩ (λpre d post he U M1 j nx MV=>?_) λU M1 j=>?_
 .obtain⟨x,xs,ps,_,_,sm,_⟩:=j;exact sm g _ bg
 .obtain⟨x0,xs,ps,rfl,rfl,sm,NK,Od,nf,fr,rp⟩:=j;obtain⟨x,rfl,hx⟩:∃x,d=.str x/\x∈l.nm:=by have:d∈l.nm.map D.str:=he ▸ bU _ bG;obtain⟨x,hx,rfl⟩:=bI.mp this;exact⟨x,rfl,hx⟩
  have tot:(xs.flatMap (λx=>nX gs 12 [x])++nX gs 12 [x]).length<=1000000:=by have b0:=bt;obtain⟨zs,ez,e6,e7,e8⟩:=je.mp he.symm;obtain⟨x',r',e9,e10,_⟩:=ju.mp e8;have e11:zs=xs:=(dw λ_ _ z=>vw z).mp e7;cases vw e10;subst e11;rw[e6,e9,cP,fz,<-cc,bz]at b0;lia
  have OE:zg M1 (.ref f):=by show(ma M1 f).isSome=true;rw[NK];rfl
  refine⟨OE,gp (by have:=cb;show 0<sizeLine;lia),λt1 ht1=>?_⟩;have s2:nW M1 (mL M1 t1 (.lst [.str x])):=.new ht1;refine⟨g,t1,l.nm,gs,[x],rfl,⟨⟨ob,kvs,(sm.trans s2) g _ bg,λz hz=>?_⟩,cl,bd⟩,mP,by simp,by simp,λz hz=>?_,by simp;lia,by lia,λq M3 s3 rn=>?_⟩
  .obtain⟨b',z1,z2⟩:=bl z hz;exact⟨b',z1,nk (sm.trans s2) z2⟩
  .rw[bP]at hz;subst hz;exact hx
  .obtain⟨qf,qs,w1,w2,w3,w4,w5⟩:=rn;have Pe:=s2.trans s3;refine mH (nk Pe NK) (mH w1 ⟨?_,?_⟩)
   .have:=rp.len;have:=w5.len;have:=cb;rw[bz]at tot;rw[bi,bi];lia
   have fq:f∉qs:=λz=>by have:=w4 f z;rw[s2 f _ (mZ NK)]at this;cases this
   refine MV _ _ ⟨_,xs++[x],ps++qs,rfl,by simp,oT (sm.trans Pe) bf,?_,?_,?_,?_,?_⟩
   .rw[b5];exact mP
   .refine cC.mpr ⟨Od,w2,λu hu v hv e=>?_⟩;subst e;obtain⟨c,ec⟩:=rp.cell hu;have:=w4 u hv;rw[s2 u c ec]at this;cases this
   .rw[bS];exact λz=>z.elim nf fq
   .intro r hr;rcases bS.mp hr with z|z
    .exact fr r z
    .exact nN (sm.trans s2) (w4 r z)
   .rw[cP];have es:[x].flatMap (λx=>nX gs 12 [x])=nX gs 12 [x]:=by simp
    rw[es];refine(rp.mono λr hr c e=>?_).app (w5.mono λr hr c e=>?_)
    .rw[nw (λz:r=f=>nf (z ▸ hr))];exact Pe r c e
    .rw[nw (λz:r=f=>fq (z ▸ hr))];exact e
 .obtain⟨x0,xs,ps,rfl,ex,sm,NK,Od,nf,fr,rp⟩:=j;have:xs=l.nm:=(dw λ_ _ z=>vw z).mp ex.symm;subst this;refine⟨ps,rowAt M1,NK,λr hr=>rp.rowAt hr,λout r hr op ow=>⟨_,.refl,q r gs (out.map (rowAt M1)) _ go (oT (sb.trans sm) (nN (sb.trans sm) hr)) ⟨nN (sb.trans sm) hr,out,mP,op.nodup_iff.mpr Od,?_,λz hz=>nN sb (fr z (op.mem_iff.mp hz)),?_⟩ ?_ ?_⟩⟩
  .intro z;obtain⟨c,ec⟩:=rp.cell (op.mem_iff.mp z);rw[hr]at ec;cases ec
  .refine xD λz hz=>?_;obtain⟨c,ec⟩:=rp.cell (op.mem_iff.mp hz);exact nk (.new hr) (rp.rowAt (op.mem_iff.mp hz))
  .rw[<-rp.rows];exact op.map _
  .rw[dE];exact ow
noncomputable def wL(xs:QQQ)(bs:QXQ):T0 (nZ×D):=(xs.zip bs).map λp=>(Sum.inr p.1,D.ref p.2)
noncomputable def CV(xs:QQQ)(bs:QXQ):T0 D:=(xs.zip bs).map λp=>D.tup [.str p.1,.ref p.2]
theorem vv:∀(xs:QQQ) (bs:QXQ),qe (CV xs bs)=some (wL xs bs)
 | [],_=>rfl
 | _::_,[]=>rfl
 | x::xs,b::bs=>by show(qe (CV xs bs)).map _=_;rw[vv xs bs];rfl
theorem tY:∀{xs:QQQ} {bs:QXQ},xs.length=bs.length->(wL xs bs).map (·.1)=xs.map Sum.inr
 | [],_,_=>rfl
 | _::_,[],h=>by cases h
 | x::xs,b::bs,h=>by show Sum.inr x::(wL xs bs).map (·.1)=_;rw[tY (Nat.succ.inj h)];rfl
def Be{xs:QQQ}{bs:QXQ}(h:xs.length=bs.length)(x:Str)(b:Addr):CV (xs++[x]) (bs++[b])=CV xs bs++[.tup [.str x,.ref b]]:=by unfold CV;rw[List.zip_append h,b5];rfl
structure yI(M M':Mp)(xs:QQQ)(bs:QXQ)(r:Str->QQQ):Prop where
 ln:xs.length=bs.length
 nd:bs.Nodup
 fr:∀b∈bs,M b=none
 l7:nC M' bs (xs.map r)
def yI.add{M M1:Mp}{xs:QQQ}{bs:QXQ}{x:Str}{b:Addr}(h:yI M M1 xs bs λ_=>[])(s:nW M M1)(hb:M1 b=none):yI M (mL M1 b (.lst [])) (xs++[x]) (bs++[b]) λ_=>[] where
 ln:=by rw[bz,bz,h.ln];rfl
 nd:=cC.mpr ⟨h.nd,by simp,λu hu v hv e=>by
  rw[bP]at hv;obtain⟨c,ec⟩:=h.l7.cell hu;rw[e,hv,hb]at ec;cases ec⟩
 fr:=λq hq=>by
  rcases bS.mp hq with z|z
  .exact h.fr q z
  .rw[bP]at z;subst z;exact nN s hb
 l7:=by rw[b5];exact(h.l7.mono λq _ c e=>(nW.new hb) q c e).app ⟨mP,trivial⟩
def xh(x z:Str)(d:D)(kvs:T0 (nZ×D)):qQ ((.inr x,d)::kvs) (.inr z)=if x=z then some d else qQ kvs (.inr z):=by
 unfold qQ;rw[eD];by_cases e:x=z
 .subst e;simp
 .have:decide ((Sum.inr x:nZ)=Sum.inr z)=false:=by simp[e]
  rw[bq e];simp only[this]
theorem qC{M:Mp}{r:Str->QQQ}{x:Str}:∀{xs:QQQ} {bs:QXQ},nC M bs (xs.map r)->x∈xs->∃b∈bs,qQ (wL xs bs) (.inr x)=some (.ref b)/\ma M b=some ((r x).map D.str)
 | [],_,_,h=>by cases h
 | _::_,[],h,_=>h.elim
 | z::xs,b::bs,⟨h1,h2⟩,hx=>by
  show ∃b'∈b::bs,qQ ((.inr z,.ref b)::wL xs bs) (.inr x)=some (.ref b')/\_;rw[xh];by_cases e:z=x
  .subst e;rw[bw rfl];exact⟨b,bG,rfl,h1⟩
  .rw[bq e];obtain⟨b',m,g1,g2⟩:=qC h2 ((br.mp hx).resolve_left (bR e));exact⟨b',bK _ m,g1,g2⟩
theorem yY{M:Mp}{r:Str->QQQ}{x:Str}{n:QQQ}{b:Addr}:∀{xs:QQQ} {bs:QXQ},nC M bs (xs.map r)->xs.Nodup->bs.Nodup->x∈xs->qQ (wL xs bs) (.inr x)=some (.ref b)->nC (mL M b (.lst (n.map D.str))) bs (xs.map λz=>if z=x then n else r z)
 | [],_,_,_,_,h,_=>by cases h
 | _::_,[],h,_,_,_,_=>h.elim
 | z::xs,c::bs,⟨h1,h2⟩,n1,n2,hx,g=>by
  have g:qQ ((.inr z,.ref c)::wL xs bs) (.inr x)=some (.ref b):=g;rw[xh]at g;obtain⟨m1,m2⟩:=cp.mp n1;obtain⟨k1,k2⟩:=cp.mp n2;by_cases e:z=x
  .subst e;rw[bw rfl]at g;cases g;have same:xs.map (λy=>if y=z then n else r y)=xs.map r:=gX λy hy=>bq (λe:y=z=>m1 (e ▸ hy));refine⟨?_,?_⟩
   .show ma _ b=some ((if z=z then n else r z).map D.str);rw[bw rfl];exact mP
   .show nC _ bs (xs.map λy=>if y=z then n else r y);rw[same];exact h2.mono λq hq c' ec=>by rw[nw (λe:q=b=>k1 (e ▸ hq))];exact ec
  .rw[bq e]at g;have hx':=(br.mp hx).resolve_left (bR e);obtain⟨b',mb,gb,_⟩:=qC h2 hx';rw[g]at gb;cases gb;refine⟨?_,yY h2 m2 k2 hx' g⟩;show ma _ c=some ((if z=x then n else r z).map D.str);rw[bq e];exact pA (by rw[nw (λe:c=b=>k1 (e ▸ mb))];exact mZ h1)
noncomputable def nc.lM(l:nc)(n:Nat)(x:Str):QQQ:=(l.lh.take n).filterMap λw=>if w.1 then(w.2.lD.bind λp=>if p.1=x then some p.2 else none)else none
def zc{l:nc}{n:Nat}{v:oQ}(h:l.lh[n]?=some v)(x:Str):l.lM (n+1) x=l.lM n x++(if v.1 then(v.2.lD.bind λp=>if p.1=x then some p.2 else none)else none).toList:=by
 unfold nc.lM;rw[eJ,h,jl];cases e:(if v.1 then(v.2.lD.bind λp=>if p.1=x then some p.2 else none)else none)with
 | none=>simp[e]
 | some z=>simp[e]
def tF{l:nc}{n:Nat}{v:oQ}(h:l.lh[n]?=some v)(z:(v.1&&v.2.lD.isSome)=false)(x:Str):l.lM (n+1) x=l.lM n x:=by
 rw[zc h];cases e1:v.1
 .simp
 .cases e2:v.2.lD with
  | none=>simp
  | some p=>rw[e1,e2]at z;cases z
def xP{l:nc}{n:Nat}{v:oQ}(h:l.lh[n]?=some v){s y:Str}(h1:v.1=true)(h2:v.2.lD=some (s,y))(x:Str):l.lM (n+1) x=if x=s then l.lM n s++[y]else l.lM n x:=by
 rw[zc h,h1,h2];by_cases e:x=s
 .subst e;simp
 .simp[e,bR e]
def yI.same{M M':Mp}{xs:QQQ}{bs:QXQ}{r t:Str->QQQ}(h:yI M M' xs bs r)(e:∀x,t x=r x):yI M M' xs bs t:=by obtain rfl:t=r:=funext e;exact h
def uU{l:nc}(ok:pT l)(n:Nat)(x:Str):(l.lM n x).length<sizeLine:=by have h1:(l.lM n x).length<=16:=bQ (iR ..) (by rw[cV];exact bQ (kq ..) ok.my);have h3:=cb;lia
def yI.put{M M3:Mp}{xs:QQQ}{bs:QXQ}{r t:Str->QQQ}{x y:Str}{b:Addr}(h:yI M M3 xs bs r)(nn:xs.Nodup)(mb:b∈bs)(g:qQ (wL xs bs) (.inr x)=some (.ref b))(hx:x∈xs)(e:∀z,t z=if z=x then r x++[y]else r z):yI M (mL M3 b (.lst ((r x).map D.str++[.str y]))) xs bs t:=by
 obtain rfl:t=λz=>if z=x then r x++[y]else r z:=funext e
 refine⟨h.ln,h.nd,h.fr,?_⟩;have:=yY (n:=r x++[y]) h.l7 nn h.nd hx g
 rwa [b5]at this
def Gc{l:nc}(ok:pT l)(x:Str):(l.led x).length<=16:=
 bQ (iR ..) ok.my
def yI.addG{M M1:Mp}{xs:QQQ}{bs:QXQ}{r:Str->QQQ}{x:Str}{b:Addr}{n:QQQ}(h:yI M M1 xs bs r)(s:nW M M1)(hb:M1 b=none)(hx:x∉xs):yI M (mL M1 b (.lst (n.map D.str))) (xs++[x]) (bs++[b]) (λz=>if z=x then n else r z) where
 ln:=by rw[bz,bz,h.ln];rfl
 nd:=cC.mpr ⟨h.nd,by simp,λu hu v hv e=>by
  rw[bP]at hv;obtain⟨c,ec⟩:=h.l7.cell hu;rw[e,hv,hb]at ec;cases ec⟩
 fr:=λq hq=>by
  rcases bS.mp hq with z|z
  .exact h.fr q z
  .rw[bP]at z;subst z;exact nN s hb
 l7:=by rw[b5];have e1:xs.map (λz=>if z=x then n else r z)=xs.map r:=gX λy hy=>bq (λe:y=x=>hx (e ▸ hy));rw[e1];refine(h.l7.mono λq _ c e=>(nW.new hb) q c e).app ⟨?_,trivial⟩;show ma _ b=some ((if x=x then n else r x).map D.str);rw[bw rfl];exact mP
def zq:Fq P w K mg base 13 a.B (BL a):=by
 refine fq G.B.toDG qD (λr u=>⟨_,(mI (mY 1 qD (oZ (u5 rfl) rfl G.ar vf (oR (nS rfl (u7 (ix:=[none]) (N':=["name"])) (nO (BG u0 G.e.toCls G.an (wl G) r)) (nJ 0) oA (nB (qa u0 (pR qN)))))))
 (mI (qv de rfl (FG rfl G.aF (qa (rD u0) (rD u0))) (qX (n:=2) rfl (nA (oN 2 qD) (nA (oN 3 qD) qd)))
 (mK (oq (W3.b3 (yk (wX V2) (vc (nI u (nj (rK (R:=Bd a) V3 (Gd G) (r.mono (by first|decide|lia))) mJ) mO))))
 (mK (mW (pL (FM u V1 (nj (rK (R:=yp a) V3 (AN G) (r.mono (by first|decide|lia))) mJ)) (oR (nj (rK (R:=yp a) V3 (AN G) (r.mono (by first|decide|lia))) mJ)))))
 nu)))
 (mK (mT (oZ (u5 rfl) rfl G.ar vf (oR (nS rfl (u7 (ix:=[none,some 1]) (N':=["name","goals"])) (Bt V1) (nJ 0) oA (nB (qa u0 (CO rfl (BM u V1 u0) rfl G.ay rfl G.aG ug Dx)))))))))),?_⟩)
 rintro ds M Q ⟨p,l,rfl,pa,ok,q⟩
 have g3:=ok.g3;have p8:=ok.p8;have hn:l.nm.length<=200:=by unfold nc.nm nc.pn nc.gn;rw[bz,bi,bi];lia
 have nn:=ok.nd;have zz:=cb;obtain⟨ph,gr,ws,on,pr,gd,rs,e0,e1,e2,e3,e4,e5⟩:=id pa;refine mV e0 ⟨rfl,_,⟨rfl,rfl⟩,p,l,rfl,pa,?_,?_,λq0 hq0=>?_⟩
 .omega
 .omega
 have s0:nW M (mL M q0 (.lst (l.nm.map D.str))):=.new hq0;refine mH mP (tH (l.nm.map D.str) (λpre acc U M1=>∃(x:Option D) (xs:QQQ) (bs:QXQ),U=[x]/\pre=xs.map D.str/\acc=CV xs bs/\nW (mL M q0 (.lst (l.nm.map D.str))) M1/\yI M M1 xs bs λ_=>[]) (λ_ acc U M1 j=>?_) _ [] [] _ _ rfl (by simp;lia) ⟨none,[],[],rfl,rfl,rfl,.refl,rfl,df,by simp,trivial⟩ (λpre d post he acc U M1 j k hk=>?_) λacc U M1 j c hc=>?_)
 .obtain⟨_,_,_,_,_,_,sm,_⟩:=j;exact nk sm mP
 .obtain⟨x0,xs,bs,rfl,rfl,rfl,sm,bx⟩:=j;obtain⟨x,rfl,hx⟩:∃x,d=.str x/\x∈l.nm:=by have:d∈l.nm.map D.str:=he ▸ bU _ bG;obtain⟨x,hx,rfl⟩:=bI.mp this;exact⟨x,rfl,hx⟩
  refine⟨cu _,λb hb=>⟨by show 2<=sizeLine;lia,hk _ _ _ ⟨_,xs++[x],bs++[b],rfl,by simp,(Be bx.ln x b).symm,sm.trans (.new hb),bx.add (s0.trans sm) hb⟩⟩⟩
 .obtain⟨x0,xs,bs,rfl,ex,rfl,sm,bx⟩:=j;have:xs=l.nm:=(dw λ_ _ z=>vw z).mp ex.symm;subst this;refine mH mP (mH (vv _ _) ⟨?_,λg hg=>?_⟩)
  .rw[tY bx.ln];exact dE.mpr (nn.imp λh e=>h (j9 e))
  have s3:nW M1 (mL (mL M1 c (.lst (CV l.nm bs))) g (.dk (wL l.nm bs))):=(nW.new hc).trans (.new hg);have sM:=s0.trans (sm.trans s3);have bg:mL (mL M1 c (.lst (CV l.nm bs))) g (.dk (wL l.nm bs)) g=some (.dk (wL l.nm bs)):=mN;have gM:M g=none:=nN (s0.trans (sm.trans (.new hc))) hg;have gb:g∉bs:=λz=>by obtain⟨c',ec⟩:=bx.l7.cell z;rw[(nW.new hc) g c' ec]at hg;cases hg
  have bx2:yI M (mL (mL M1 c (.lst (CV l.nm bs))) g (.dk (wL l.nm bs))) l.nm bs λ_=>[]:=⟨bx.ln,bx.nd,bx.fr,bx.l7.mono λq _ c e=>s3 q c e⟩;clear bx hc hg s3 sm;generalize mL (mL M1 c (.lst (CV l.nm bs))) g (.dk (wL l.nm bs))=M2 at sM bg bx2 ⊢;obtain⟨e6,e7,e8⟩:=e5;refine mV (sM _ _ e0) (mH rfl (mV (sM _ _ e0) (mH rfl (mH (nk sM e4) (mH (nk sM e3) ?_)))));have zl:∀i d,(rB (l.lh.map λw=>D.bl w.1) (rs.map D.ref))[i]?=some d->∃(v:oQ) (r:Addr),l.lh[i]?=some v/\rs[i]?=some r/\d=D.tup [.bl v.1,.ref r]:=λi d h=>by
   rw[L3.vg,bM,bM]at h;cases z1:l.lh[i]? with
   | none=>rw[z1]at h;cases h
   | some v=>
    cases z2:rs[i]? with
    | none=>rw[z1,z2]at h;cases h
    | some r=>rw[z1,z2]at h;cases h;exact⟨v,r,z1,z2,rfl⟩
  refine rV (rB (l.lh.map λw=>D.bl w.1) (rs.map D.ref)) (λpre U M3=>∃(x y:Option D),U=[some (.ref p),some (.ref g),x,y]/\nW M M3/\M3 g=some (.dk (wL l.nm bs))/\yI M M3 l.nm bs (l.lM pre.length)) (λpre U M3 j=>?_) _ [] _ _ rfl ⟨none,none,rfl,sM,bg,bx2⟩ (λpre d post he U M3 j nx MV=>?_) λU M3 j=>?_
  .obtain⟨_,_,_,s,_⟩:=j;exact⟨nk s e4,nk s e3⟩
  .obtain⟨x0,y0,rfl,s,cg,bx⟩:=j;obtain⟨v,r,v1,r1,rfl⟩:=zl pre.length d (by rw[<-show pre++d::post=rB (l.lh.map λw=>D.bl w.1) (rs.map D.ref)from he];simp);have hM:=s _ _ (e8.2 _ r v r1 v1);have Na:∀M4,nW M M4->M4 g=some (.dk (wL l.nm bs))->yI M M4 l.nm bs (l.lM (pre.length+1))->nx [some (.ref p),some (.ref g),some (.bl v.1),some (.ref r)] M4:=λM4 s4 c4 b4=>MV _ _ ⟨_,_,rfl,s4,c4,by rw[bz];exact b4⟩;refine⟨rfl,?_⟩;show if v.1=true then _ else _
   refine qy (c:=v.1) (λhv=>?_) (λhv=>Na M3 s cg (bx.same λx=>tF v1 (by simp[dD.mpr hv]) x));have wk:=ok.wo v (cJ v1);obtain⟨o,u⟩:=v;cases u with
   | bar x ns=>refine mV hM ⟨rfl,_,.inl ⟨.inl rfl,rfl⟩,r,rfl,mH rfl (mH rfl ?_)⟩;exact Na M3 s cg (bx.same λz=>tF v1 (eP o) z)
   | shut x ns=>refine mV hM ⟨rfl,_,.inl ⟨.inr rfl,rfl⟩,r,rfl,mH rfl (mH rfl ?_)⟩;exact Na M3 s cg (bx.same λz=>tF v1 (eP o) z)
   | always x y=>obtain⟨b,mb,NC,lb⟩:=qC (x:=x) bx.l7 (nR wk.1);refine mV hM ⟨rfl,_,.inr (.inl ⟨.inl rfl,rfl⟩),r,_,_,.str y,rfl,hM,rfl,mH rfl (mH rfl ?_)⟩;refine mV hM ⟨rfl,_,⟨⟨_,rfl⟩,rfl⟩,r,_,rfl,hM,?_⟩;refine mH (rG cg) (mH NC ⟨by show(ma M3 b).isSome=true;rw[lb];rfl,?_⟩);refine mV hM ⟨rfl,_,⟨⟨_,rfl⟩,rfl⟩,r,_,rfl,hM,?_⟩;refine mH lb ⟨?_,Na _ (oT s (bx.fr b mb)) (by rw[nw (λz:g=b=>gb (z ▸ mb))];exact cg) (bx.put nn mb NC (nR wk.1) (xP v1 hv rfl))⟩;rw[bi];exact uU ok _ _
   | night x y f1 f2=>obtain⟨b,mb,NC,lb⟩:=qC (x:=x) bx.l7 (nR wk.1);refine mV hM ⟨rfl,_,.inr (.inl ⟨.inr (.inl rfl),rfl⟩),r,_,_,.str y,rfl,hM,rfl,mH rfl (mH rfl ?_)⟩;refine mV hM ⟨rfl,_,⟨⟨_,rfl⟩,rfl⟩,r,_,rfl,hM,?_⟩;refine mH (rG cg) (mH NC ⟨by show(ma M3 b).isSome=true;rw[lb];rfl,?_⟩);refine mV hM ⟨rfl,_,⟨⟨_,rfl⟩,rfl⟩,r,_,rfl,hM,?_⟩;refine mH lb ⟨?_,Na _ (oT s (bx.fr b mb)) (by rw[nw (λz:g=b=>gb (z ▸ mb))];exact cg) (bx.put nn mb NC (nR wk.1) (xP v1 hv rfl))⟩;rw[bi];exact uU ok _ _
   | busy x y=>obtain⟨b,mb,NC,lb⟩:=qC (x:=x) bx.l7 (nR wk.1);refine mV hM ⟨rfl,_,.inr (.inl ⟨.inr (.inr (.inl rfl)),rfl⟩),r,_,_,.str y,rfl,hM,rfl,mH rfl (mH rfl ?_)⟩;refine mV hM ⟨rfl,_,⟨⟨_,rfl⟩,rfl⟩,r,_,rfl,hM,?_⟩;refine mH (rG cg) (mH NC ⟨by show(ma M3 b).isSome=true;rw[lb];rfl,?_⟩);refine mV hM ⟨rfl,_,⟨⟨_,rfl⟩,rfl⟩,r,_,rfl,hM,?_⟩;refine mH lb ⟨?_,Na _ (oT s (bx.fr b mb)) (by rw[nw (λz:g=b=>gb (z ▸ mb))];exact cg) (bx.put nn mb NC (nR wk.1) (xP v1 hv rfl))⟩;rw[bi];exact uU ok _ _
   | silent x y k1=>obtain⟨b,mb,NC,lb⟩:=qC (x:=x) bx.l7 (nR wk.1);refine mV hM ⟨rfl,_,.inr (.inl ⟨.inr (.inr (.inr rfl)),rfl⟩),r,_,_,.str y,rfl,hM,rfl,mH rfl (mH rfl ?_)⟩;refine mV hM ⟨rfl,_,⟨⟨_,rfl⟩,rfl⟩,r,_,rfl,hM,?_⟩;refine mH (rG cg) (mH NC ⟨by show(ma M3 b).isSome=true;rw[lb];rfl,?_⟩);refine mV hM ⟨rfl,_,⟨⟨_,rfl⟩,rfl⟩,r,_,rfl,hM,?_⟩;refine mH lb ⟨?_,Na _ (oT s (bx.fr b mb)) (by rw[nw (λz:g=b=>gb (z ▸ mb))];exact cg) (bx.put nn mb NC (nR wk.1) (xP v1 hv rfl))⟩;rw[bi];exact uU ok _ _
   | wait x=>refine mV hM ⟨rfl,_,.inr (.inr (.inl ⟨rfl,rfl⟩)),r,_,_,.str x,rfl,hM,rfl,mH rfl (mH rfl ?_)⟩;exact Na M3 s cg (bx.same λz=>tF v1 (eP o) z)
   | breaks x=>refine mV hM ⟨rfl,_,.inr (.inr (.inr ⟨rfl,rfl⟩)),r,rfl,mH rfl (mH rfl ?_)⟩;exact Na M3 s cg (bx.same λz=>tF v1 (eP o) z)
  .obtain⟨x0,y0,rfl,s,cg,bx⟩:=j;have eL:(rB (l.lh.map λw=>D.bl w.1) (rs.map D.ref)).length=l.lh.length:=by rw[L3.sd,bi,bi,e8.1,k7]
   have bx:yI M M3 l.nm bs l.led:=bx.same λx=>by rw[eL];unfold nc.lM nc.led;rw[dq]
   refine mH (rG cg) ⟨l.nm,tY bx.ln,λob=>?_⟩;generalize eb:mL M3 g (.fd ob (wL l.nm bs))=Mb;have sb:nW M Mb:=by rw[<-eb];exact oT s gM
   have fg:Mb g=some (.fd ob (wL l.nm bs)):=by rw[<-eb];exact mN
   have fb:nC Mb bs (l.nm.map l.led):=by rw[<-eb];exact bx.l7.mono λq hq c e=>by rw[nw (λz:q=g=>gb (z ▸ hq))];exact e
   clear eb cg;refine tH (l.nm.map D.str) (λpre acc U M4=>∃(x:Option D) (xs:QQQ) (cs:QXQ) (gs:Str->QQQ),U=[x,some (.ref g)]/\pre=xs.map D.str/\acc=CV xs cs/\nW Mb M4/\yI M M4 xs cs gs/\∀z∈xs,(gs z).Perm (nE (l.led z))) (λ_ acc U M4 j=>?_) _ [] [] _ _ rfl (by simp;lia) ⟨none,[],[],λ_=>[],rfl,rfl,rfl,.refl,⟨rfl,df,by simp,trivial⟩,by simp⟩ (λpre d post he acc U M4 j k hk=>?_) λacc U M4 j c hc=>?_
   .obtain⟨_,_,_,_,_,_,_,sm,_⟩:=j;exact sm g _ fg
   .obtain⟨x0,xs,cs,gs,rfl,rfl,rfl,sm,b4,pm⟩:=j;obtain⟨x,rfl,hx⟩:∃x,d=.str x/\x∈l.nm:=by have:d∈l.nm.map D.str:=he ▸ bU _ bG;obtain⟨x,hx,rfl⟩:=bI.mp this;exact⟨x,rfl,hx⟩
    have nx:x∉xs:=λz=>by have n2:(l.nm.map D.str).Nodup:=dE.mpr (nn.imp λh e=>h (vw e));rw[<-show xs.map D.str++D.str x::post=l.nm.map D.str from he]at n2;exact(cC.mp n2).2.2 _ (jA z) _ bG rfl
    obtain⟨b,mb,NC,lb⟩:=qC (x:=x) fb hx;refine mH (show Ht M4 g=some (wL l.nm bs)by unfold Ht;rw[sm g _ fg]) (mH NC ?_);refine mH (nk sm lb) (mH (tN _) ⟨?_,λr ms hr p1 p2=>?_⟩)
    .have:=Gc ok x;lia
    refine⟨by show 2<=sizeLine;lia,hk _ _ _ ⟨_,xs++[x],cs++[r],λz=>if z=x then ms else gs z,rfl,by simp,(Be b4.ln x r).symm,sm.trans (.new hr),b4.addG (sb.trans sm) hr nx,λz hz=>?_⟩⟩;rcases bS.mp hz with z1|z1
    .show(if z=x then ms else gs z).Perm _;rw[bq (λe:z=x=>nx (e ▸ z1))];exact pm z z1
    .rw[bP]at z1;subst z1;show(if z=z then ms else gs z).Perm _;rw[bw rfl];exact p1
   .obtain⟨x0,xs,cs,gs,rfl,ex,rfl,sm,b4,pm⟩:=j;have:xs=l.nm:=(dw λ_ _ z=>vw z).mp ex.symm;subst this;refine mH mP (mH (vv _ _) ⟨?_,λg2 NN=>?_⟩)
    .rw[tY b4.ln];exact dE.mpr (nn.imp λh e=>h (j9 e))
    have s5:nW M4 (mL (mL M4 c (.lst (CV l.nm cs))) g2 (.dk (wL l.nm cs))):=(nW.new hc).trans (.new NN);have s6:=sb.trans (sm.trans s5);refine⟨_,.refl,q g2 gs _ (λz hz=>⟨(pm z hz).nodup_iff.mpr (Bo _),λy=>(pm z hz).mem_iff.trans (EF y _)⟩) s6 ⟨nN (sb.trans (sm.trans (.new hc))) NN,wL l.nm cs,mN,tY b4.ln,λz hz=>?_⟩⟩;obtain⟨b,mb,NC,lb⟩:=qC (x:=z) b4.l7 hz;refine⟨b,b4.fr b mb,λe=>?_,NC,nk s5 lb⟩;subst e;rw[(nW.new hc) b _ (mZ lb)]at NN;cases NN
def Ch(gs:Str->QQQ):Str->QQQ->Prop
 | _,[]=>True
 | a,x::xs=>x∈gs a/\Ch gs x xs
def yA{p e:QQQ}(h:p≠[]):qj (p++e)=qj p:=by
 cases p with
 | nil=>exact absurd rfl h
 | cons a p=>rfl
def yq(p:QQQ)(x:Str):uP (p++[x])=x:=by unfold uP;simp
theorem pU{gs:Str->QQQ}{r:QQQ}:∀(n:Nat) (path:QQQ),path≠[]->(r∈nX gs n path↔∃ext,r=path++ext/\ext.length<n/\Ch gs (uP path) ext/\(∀x∈ext,sD (qj path) x=true)/\ext.Nodup/\(∀x∈ext,x∉path)/\qj path∈gs (uP (path++ext)))
 | 0,path,_=>⟨λh=>(nomatch h),λ⟨_,_,h,_⟩=>absurd h (i6 _)⟩
 | n+1,path,hp=>by
  rw[sj,dN];have hp2:∀x,path++[x]≠[]:=λx=>by simp
  constructor
  .rintro ⟨x,hx,hr⟩
   unfold yd at hr;by_cases e:x=qj path
   .rw[bw e,bP]at hr;subst hr;exact⟨[],by simp,iM _,trivial,by simp,df,by simp,by rw[bY,<-e];exact hx⟩
   .rw[bq e]at hr;by_cases c:(sD (qj path) x&&!(path.contains x))=true
    .rw[bw c]at hr;obtain⟨c1,c2⟩:=eO.mp c;have c2:x∉path:=by simpa using c2
     obtain⟨ext,e1,e2,e3,e4,e5,e6,e7⟩:=(pU n (path++[x]) (hp2 x)).mp hr;rw[yA hp]at e4 e7;rw[yq]at e3;refine⟨x::ext,by rw[e1,cc];rfl,iS e2,⟨hx,e3⟩,λz hz=>?_,cp.mpr ⟨λz=>e6 x z (by simp),e5⟩,λz hz=>?_,by rw[cc]at e7;exact e7⟩
     .rcases br.mp hz with q|q
      .subst q;exact c1
      .exact e4 z q
     .rcases br.mp hz with q|q
      .subst q;exact c2
      .exact λw=>e6 z q (fF _ w)
    .rw[bq c]at hr;cases hr
  .rintro ⟨ext,rfl,e2,e3,e4,e5,e6,e7⟩
   cases ext with
   | nil=>rw[bY]at e7 ⊢;exact⟨qj path,e7,by unfold yd;rw[bw rfl];simp⟩
   | cons x ext=>
    obtain⟨f1,f2⟩:=e3;obtain⟨n1,n2⟩:=cp.mp e5;have g1:=e4 x bG;have g2:=e6 x bG;have ne:x≠qj path:=λz=>by rw[z,xu]at g1;cases g1
    refine⟨x,f1,?_⟩;unfold yd;rw[bq ne,bw (eO.mpr ⟨g1,by simpa using g2⟩)];refine(pU n (path++[x]) (hp2 x)).mpr ⟨ext,by rw[cc];rfl,fm e2,by rw[yq];exact f2,λz hz=>by rw[yA hp];exact e4 z (bK _ hz),n2,λz hz w=>?_,by rw[yA hp,cc];exact e7⟩;rcases bS.mp w with q|q
    .exact e6 z (bK _ hz) q
    .rw[bP]at q;subst q;exact n1 hz
def DY{gs:Str->QQQ}{n:Nat}{path r:QQQ}{x:Str}(h:r∈yd gs n path x):(x=qj path/\r=path)\/∃e,r=path++x::e:=by
 unfold yd at h;split at h
 .rename_i e;exact .inl ⟨e,by simpa using h⟩
 .split at h
  .obtain⟨ext,e1,_⟩:=(pU n (path++[x]) (by simp)).mp h;exact .inr ⟨ext,by rw[e1,cc];rfl⟩
  .cases h
theorem zE{gs:Str->QQQ}{nm:QQQ}(g1:∀x∈nm,(gs x).Nodup)(g2:∀x∈nm,∀y∈gs x,y∈nm):∀(n:Nat) (path:QQQ),path≠[]->uP path∈nm->(nX gs n path).Nodup
 | 0,_,_,_=>df
 | n+1,path,hp,hl=>by
  rw[sj];refine fE.mpr ⟨λx hx=>?_,(g1 _ hl).imp λ{x y} ne r hr t ht e=>?_⟩
  .unfold yd;split
   .exact iV ..
   .split
    .exact zE g1 g2 n (path++[x]) (by simp) (by rw[yq];exact g2 _ hl _ hx)
    .exact df
  .subst e;rcases DY hr with⟨a1,a2⟩|⟨e1,a2⟩<;>rcases DY ht with⟨b1,b2⟩|⟨e2,b2⟩
   .exact ne (a1.trans b1.symm)
   .rw[a2]at b2;have:=c8 List.length b2;simp at this
   .rw[b2]at a2;have:=c8 List.length a2;simp at this
   .rw[a2]at b2;exact ne (eX (iW b2)).1
theorem wW{lt:QQQ->QQQ->Bool}(as:∀a b,lt a b=false->lt b a=false->a=b):∀{l m:T0 (QQQ)},l.Nodup->m.Nodup->l.Pairwise (λr t=>lt t r=false)->m.Pairwise (λr t=>lt t r=false)->(∀x,x∈l↔x∈m)->l=m
 | [],[],_,_,_,_,_=>rfl
 | [],b::m,_,_,_,_,h=>by have:=(h b).mpr bG;cases this
 | a::l,[],_,_,_,_,h=>by have:=(h a).mp bG;cases this
 | a::l,b::m,n1,n2,s1,s2,h=>by
  obtain⟨p1,p2⟩:=fZ.mp s1;obtain⟨q1,q2⟩:=fZ.mp s2;obtain⟨m1,m2⟩:=cp.mp n1;obtain⟨k1,k2⟩:=cp.mp n2;have e:a=b:=by
   rcases br.mp ((h a).mp bG)with z|z
   .exact z
   .rcases br.mp ((h b).mpr bG)with w|w
    .exact w.symm
    .exact as a b (q1 a z) (p1 b w)
  subst e;rw[wW as m2 k2 p2 q2 λx=>⟨λhx=>?_,λhx=>?_⟩]
  .exact((br.mp ((h x).mp (bK _ hx))).resolve_left λe=>m1 (e ▸ hx))
  .exact((br.mp ((h x).mpr (bK _ hx))).resolve_left λe=>k1 (e ▸ hx))
theorem zk:∀a b:QQQ,su a b=false->su b a=false->a=b
 | [],[],_,_=>rfl
 | [],_::_,h,_=>by simp[su]at h
 | _::_,[],_,h=>by simp[su]at h
 | x::xs,y::ys,h1,h2=>by
  simp only[su]at h1 h2;by_cases e:x=y
  .subst e;rw[bw rfl]at h1 h2;rw[zk xs ys h1 h2]
  .rw[bq e]at h1;rw[bq (bR e)]at h2;rcases yG e with z|z
   .rw[z]at h1;cases h1
   .rw[z]at h2;cases h2
noncomputable def qG(r:QQQ)(k:Nat):Str:=if k=0 then uP r else r.getD (k - 1) ""
noncomputable def p7(r:QQQ)(ps:T0 (Str×Str)):Bool:=(List.range r.length).all λk=>ps.contains (qG r k,r.getD k "")
def Fo:pP:=λds M Q=>∃p q r ps,ds=[.ref p,.ref q]/\ma M p=some (r.map D.str)/\ma M q=some (ps.map qA)/\r.length<=100/\Q (.bl (p7 r ps)) M
def Eb{r:QQQ}{k:Nat}(h:k<r.length):tE (r.map D.str) (k:Nat)=some (.str (r.getD k "")):=ri (by rw[bM,bF h];simp[List.getD,h])
def C9{r:QQQ}{k:Nat}(h:k<r.length):tE (r.map D.str) ((k:Int) - 1)=some (.str (qG r k)):=by
 unfold qG;by_cases e:k=0
 .subst e;rw[bw rfl];exact AY (λz=>by rw[z]at h;cases h)
 .rw[bq e,show((k:Int) - 1)=((k - 1:Nat):Int)by lia];exact Eb (by lia)
def FN:Fq P w K mg base 1 a.am Fo:=by
 refine fq G.am.toDG tZ (λr u=>⟨_,(mK (mT (mU (yl rfl) rfl G.aq yo (oR (nS rfl (u7 (ix:=[none,some 0,some 1]) (N':=["_law_k","_law_row","_law_pairs"])) (r9 rfl G.aa (oR (mU oB rfl G.c oh (oR u0)))) (nJ 0) oA (Hq u (nB (qa (nj V1 (m8 u0 mJ)) (nj V1 u0))) V2)))))),?_⟩)
 rintro ds M Q ⟨p,q,r,ps,rfl,hp,hq,hl,qq⟩
 have zz:=cb;have rl:((r.map D.str).length:Int)=r.length:=by rw[bi]
 refine mH hp ?_;refine⟨rfl,⟨by rw[rl];lia,by rw[rl];lia⟩,?_⟩;refine rJ (f:=λd=>match d with|.int i=>.bl (ps.contains (qG r i.toNat,r.getD i.toNat ""))|_=>.lB) (λU=>∃x,U=[x,some (.ref p),some (.ref q)]) trivial _ [] _ ⟨_,rfl⟩ (by simp;lia) (λd hd U hδ k hk=>?_) λc hc=>?_
 .obtain⟨x,rfl⟩:=hδ;obtain⟨j,hj,rfl⟩:=bI.mp hd;have hj:j<r.length:=by simpa using hj
  have hk:∀δ',(∃x,δ'=[x,some (D.ref p),some (D.ref q)])->k δ' (.bl (ps.contains (qG r j,r.getD j ""))) M:=λδ' z=>by
   have:=hk δ' z;have e:((0:Int)+(j:Nat)).toNat=j:=by lia
   simp only[e]at this;exact this
  rw[Int.zero_add];refine mH hp (mH (C9 hj) (mH hp (mH (Eb hj) ⟨by show 2<=sizeLine;lia,ps,hq,hk _ ⟨_,rfl⟩⟩)))
 .rw[ci,cx];have em:((λd=>match d with|D.int i=>D.bl (ps.contains (qG r i.toNat,r.getD i.toNat ""))|_=>D.lB)∘λ(i:Nat)=>D.int (0+(i:Nat)))=λ(i:Nat)=>D.bl (ps.contains (qG r i,r.getD i "")):=by
   funext i;have e:((0:Int)+(i:Nat)).toNat=i:=by lia
   show D.bl (ps.contains (qG r ((0:Int)+(i:Nat)).toNat,r.getD ((0:Int)+(i:Nat)).toNat ""))=_;rw[e]
  rw[em];refine mH mP (mH (tU (λi:Nat=>ps.contains (qG r i,r.getD i "")) _) ⟨M,.new hc,?_⟩);have e:((List.map (λi:Nat=>ps.contains (qG r i,r.getD i "")) (List.range ((r.map D.str).length:Int).toNat)).all id)=p7 r ps:=by rw[fX,bi];rfl
  rw[e];exact qq
noncomputable def more(nm:QQQ)(row:QQQ):T0 (QQQ):=(nm.filter λx=>sD (qj row) x&&!(row.contains x)).map λx=>row++[x]
noncomputable def ub(nm:QQQ):Nat->T0 (QQQ)
 | 0=>nm.map λx=>[x]
 | k+1=>(ub nm k).flatMap (more nm)
noncomputable def uo(nm:QQQ):T0 (QQQ):=(List.range (nm.length - 1)).flatMap λk=>ub nm (k+1)
def HK:pP:=λds M Q=>∃p nm,ds=[.ref p]/\ma M p=some (nm.map D.str)/\1<=nm.length/\nm.length<=12/\(∀k,(ub nm k).length<=100000)/\(uo nm).length<=1000000/\∀q rs M',nW M M'->Eu M M' q rs->rs.Perm (uo nm)->rs.Pairwise (λr t=>su t r=false)->Q (.ref q) M'
theorem rW{g:yJ}{tt:wu}{te:T3}{ok:Mp->Prop}{Q:DK}(all:T0 D)(J:T0 D->T0 D->qz->Mp->Prop)(lC:∀p acc U M,J p acc U M->ok M):∀(ds pre acc:T0 D) (U:qz) (M:Mp),pre++ds=all->acc.length+ds.length<=sizeLine->J pre acc U M->
  (∀pre d post,pre++d::post=all->∀acc U M,J pre acc U M->∀(k:qz->DK) (k2:qz->Mp->Prop),(∀δ2 y M4,J (pre++[d]) (acc++[y]) δ2 M4->k δ2 y M4)->(∀δ2 M3,J (pre++[d]) acc δ2 M3->k2 δ2 M3)->g d U M λδ2 M2=>tt δ2 M2 λb M3=>if b=true then te δ2 M3 (k δ2)else k2 δ2 M3)->
  (∀acc U M,J all acc U M->∀p,M p=none->Q (.ref p) (mL M p (.lst acc)))->rk g tt te ok Q ds acc U M
 | [],pre,acc,U,M,e,hl,j,_,hq=>⟨by simpa using hl,hq acc U M (by rw[<-e,bY];exact j)⟩
 | d::r,pre,acc,U,M,e,hl,j,ht,hq=>by rw[bT]at hl;refine⟨by lia,?_⟩;refine ht pre d r e acc U M j (λδ2 y M4=>ok M4/\rk g tt te ok Q r (acc++[y]) δ2 M4) (λδ2 M3=>ok M3/\rk g tt te ok Q r acc δ2 M3) (λδ2 y M4 j'=>⟨lC _ _ _ _ j',rW all J lC r (pre++[d]) (acc++[y]) δ2 M4 (by rw[<-e,cc];rfl) ?_ j' ht hq⟩) λδ2 M3 j'=>⟨lC _ _ _ _ j',rW all J lC r (pre++[d]) acc δ2 M3 (by rw[<-e,cc];rfl) (by lia) j' ht hq⟩;rw[bz,cF];lia
theorem HS{f:Nat->T0 (QQQ)}{B:Nat}(h:∀k,(f k).length<=B):∀n,((List.range n).flatMap f).length<=n*B
 | 0=>by simp
 | n+1=>by
  have:=HS h n;have:=h n;have e:[n].flatMap f=f n:=by simp
  rw[i7,cP,bz,jM,e];lia
theorem nC.get{M:Mp}:∀{ps:QXQ} {rs:T0 (QQQ)},nC M ps rs->∀{i:Nat} {q:Addr},ps[i]?=some q->∃r,rs[i]?=some r/\ma M q=some (r.map D.str)
 | [],_,_,_,_,e=>by simp at e
 | _::_,[],h,_,_,_=>h.elim
 | p::ps,r::rs,⟨h1,h2⟩,0,q,e=>by
  have:p=q:=by simpa using e
  subst this;exact⟨r,rfl,h1⟩
 | p::ps,r::rs,⟨h1,h2⟩,i+1,q,e=>by obtain⟨r',e1,e2⟩:=nC.get h2 (i:=i) (by simpa using e);exact⟨r',by simpa using e1,e2⟩
theorem CW{nm:QQQ}{r:QQQ}:∀{k:Nat},r∈ub nm k->∃y ys,r=y::ys
 | 0,h=>by obtain⟨x,_,rfl⟩:=bI.mp h;exact⟨x,[],rfl⟩
 | k+1,h=>by obtain⟨s,hs,hr⟩:=dN.mp h;obtain⟨x,_,rfl⟩:=bI.mp hr;obtain⟨y,ys,rfl⟩:=CW hs;exact⟨y,ys++[x],rfl⟩
theorem uY{nm:QQQ}{r:QQQ}:∀{k:Nat},r∈ub nm k->r.length=k+1
 | 0,h=>by obtain⟨x,_,rfl⟩:=bI.mp h;rfl
 | k+1,h=>by obtain⟨s,hs,hr⟩:=dN.mp h;obtain⟨x,_,rfl⟩:=bI.mp hr;rw[bz,uY hs];rfl
structure RL(M0 M:Mp)(ps:QXQ)(rs:List (QQQ)):Prop where
 nd:ps.Nodup
 fr:∀q∈ps,M0 q=none
 rows:nC M ps rs
def RL.nil{M0 M:Mp}:RL M0 M [] []:=⟨df,by simp,trivial⟩
def RL.up{M0 M M':Mp}{ps:QXQ}{rs:T0 (QQQ)}(h:RL M0 M ps rs)(s:nW M M'):RL M0 M' ps rs:=⟨h.nd,h.fr,h.rows.mono λq _ c e=>s q c e⟩
def RL.put{M0 M:Mp}{ps:QXQ}{rs:T0 (QQQ)}{f:Addr}{c:qg}(h:RL M0 M ps rs)(n:f∉ps):RL M0 (mL M f c) ps rs:=⟨h.nd,h.fr,h.rows.mono λq hq c e=>by rw[nw (λz:q=f=>n (z ▸ hq))];exact e⟩
def RL.app{M0 M1 M2:Mp}{ps us:QXQ}{rs ts:T0 (QQQ)}(h:RL M0 M2 ps rs)(s:nW M0 M1)(Ot:∀q∈ps,∃c,M1 q=some c)(g:RL M1 M2 us ts):RL M0 M2 (ps++us) (rs++ts) where
 nd:=cC.mpr ⟨h.nd,g.nd,λu hu v hv e=>by
  subst e;obtain⟨c,ec⟩:=Ot u hu;rw[g.fr u hv]at ec;cases ec⟩
 fr:=λq hq=>by
  rcases bS.mp hq with z|z
  .exact h.fr q z
  .exact nN s (g.fr q z)
 rows:=h.rows.app g.rows
def RL.one{M0 M:Mp}{b:Addr}{r:QQQ}(s:nW M0 M)(hb:M b=none):RL M (mL M b (.lst (r.map D.str))) [b] [r]:=⟨by simp,λq hq=>by rw[bP]at hq;subst hq;exact hb,mP,trivial⟩
def Gr:Fq P w K mg base 1 a.al HK:=by
 refine fq G.al.toDG oH (λr u=>⟨_,(mI (qw (i:=1) oH.nd rfl (Or.inl rfl) rfl (u7 (ix:=[none]) (N':=["_law_name"])) (nO u0) (nJ 0) oA (pR (oR u0)))
 (mI (mY 2 oH (pR qN))
 (mI (qv de rfl (B6 rfl G.aa (qa mJ (m8 (mU oB rfl G.c oh (oR u0)) mJ))) (oN 3 oH)
 (mI (mY 4 oH (pR qN))
 (mI (qv de rfl (nO V1) (oN 5 oH)
 (mK (mW (qZ v4 (oR (nS rfl (u7 (ix:=[none,some 5]) (N':=["_law_name","_law_row"])) (nO u0) (nJ 0) (AL (W3.b3 (yk (GQ u0 (nj V1 mJ)) (vc (nI u u0 V1))))) (m8 V1 (pR (oR u0)))))))))
 (mI (mY 1 oH v4)
 (mK (mY 2 oH (m8 V2 V1)))))))
 (mK (mT (mU (vL u) rfl G.ay ug (oR V2))))))),?_⟩)
 rintro ds M Q ⟨p,nm,rfl,hp,l1,l2,b1,b2,q⟩
 have zz:=cb;refine mH hp (tH (nm.map D.str) (λpre acc U M1=>∃(x:Option D) (xs:QQQ) (ps:QXQ),U=[x]/\pre=xs.map D.str/\acc=ps.map D.ref/\nW M M1/\RL M M1 ps (xs.map λx=>[x])) (λ_ acc U M1 j=>?_) _ [] [] _ _ rfl (by simp;lia) ⟨none,[],[],rfl,rfl,rfl,.refl,.nil⟩ (λpre d post he acc U M1 j k hk=>?_) λacc U M1 j h hh=>?_)
 .obtain⟨_,_,_,_,_,_,sm,_⟩:=j;exact nk sm hp
 .obtain⟨x0,xs,ps,rfl,rfl,rfl,sm,rl⟩:=j;obtain⟨x,rfl,hx⟩:∃x,d=.str x/\x∈nm:=by have:d∈nm.map D.str:=he ▸ bU _ bG;obtain⟨x,hx,rfl⟩:=bI.mp this;exact⟨x,rfl,hx⟩
  refine⟨gp (by show 0<sizeLine;lia),λb hb=>hk _ _ _ ⟨_,xs++[x],ps++[b],rfl,by simp,by simp,sm.trans (.new hb),?_⟩⟩;rw[b5];exact(rl.up (.new hb)).app sm (λq hq=>rl.rows.cell hq) (RL.one (r:=[x]) sm hb)
 .obtain⟨x0,xs,ps,rfl,ex,rfl,sm,rl⟩:=j;have:nm=xs:=((dw λ_ _ z=>vw z).mp ex.symm).symm;subst this;refine⟨cu _,λf hf=>?_⟩;have s2:nW M1 (mL (mL M1 h (.lst (ps.map D.ref))) f (.lst [])):=(nW.new hh).trans (.new hf);have hM:M h=none:=nN sm hh;have fM:M f=none:=nN (sm.trans (.new hh)) hf;have c1:ma (mL (mL M1 h (.lst (ps.map D.ref))) f (.lst [])) h=some (ps.map D.ref):=nk (.new hf) mP;have c2:ma (mL (mL M1 h (.lst (ps.map D.ref))) f (.lst [])) f=some ([]:T0 D):=mP;have r2:=rl.up s2;have s3:=sm.trans s2;generalize mL (mL M1 h (.lst (ps.map D.ref))) f (.lst [])=M2 at c1 c2 r2 s3;clear s2 rl sm hh hf;refine mH (nk s3 hp) ⟨rfl,⟨by decide,by decide,by rw[bi];lia,by rw[bi];lia⟩,?_⟩;have eN:(((nm.map D.str).length:Int)+1 - 2).toNat=nm.length - 1:=by rw[bi];lia
  rw[eN];clear x0 ex;refine rV ((List.range (nm.length - 1)).map λn=>D.int (2+(n:Nat))) (λpre U M3=>∃(h f:Addr) (ps qs:QXQ) (x y z:Option D),U=[some (.ref p),some (.ref h),some (.ref f),x,y,z]/\nW M M3/\ma M3 h=some (ps.map D.ref)/\ma M3 f=some (qs.map D.ref)/\RL M M3 ps (ub nm pre.length)/\RL M M3 qs ((List.range pre.length).flatMap λk=>ub nm (k+1))) (λ_ _ _ _=>trivial) _ [] _ _ rfl ⟨h,f,ps,[],none,none,none,rfl,s3,c1,c2,r2,.nil⟩ (λpre d post he U M3 j nx MV=>?_) λU M3 j=>?_
  .clear c1 c2 r2 s3 hM fM;obtain⟨h,f,ps,qs,x,y,z,rfl,sm,c1,c2,r1,r2⟩:=j;have lk:(ub nm (pre.length+1)).length<=100000:=b1 _;refine⟨cu _,λL hL=>?_⟩;have sL:nW M3 (mL M3 L (.lst [])):=.new hL;refine mH (nk sL c1) ?_;refine rV (ps.map D.ref) (λNg U M5=>∃(w:Option D) (ts:QXQ),U=[some (.ref p),some (.ref h),some (.ref f),some d,some (.ref L),w]/\nW M3 M5/\ma M5 L=some (ts.map D.ref)/\L∉ts/\RL M3 M5 ts (((ub nm pre.length).take Ng.length).flatMap (more nm))) (λNg U M5 j=>?_) _ [] _ _ rfl ⟨z,[],rfl,sL,mP,by simp,.nil⟩ (λNg d2 post2 he2 U M5 j nx2 hnx2=>?_) λU M5 j=>?_
   .obtain⟨_,_,_,s5,_⟩:=j;exact nk s5 c1
   .obtain⟨w,ts,rfl,s5,cL,nL,rt⟩:=j;have e3:(ps.map D.ref)[Ng.length]?=some d2:=by rw[<-he2];simp
    rw[bM]at e3;obtain⟨pi,e4,rfl⟩:=eh.mp e3;obtain⟨r,e5,e6⟩:=r1.rows.get e4;have e7:=nk s5 e6;have eS:((ub nm pre.length).take (Ng.length+1)).flatMap (more nm)=((ub nm pre.length).take Ng.length).flatMap (more nm)++more nm r:=by rw[eJ,e5,cP];simp
    have tot:(((ub nm pre.length).take Ng.length).flatMap (more nm)++more nm r).length<=100000:=by rw[<-eS];refine bQ ?_ lk;show _<=((ub nm pre.length).flatMap (more nm)).length;rw[<-dj (Ng.length+1) (ub nm pre.length),cP,bz,dj];lia
    have OE:zg M5 (.ref L):=by show(ma M5 L).isSome=true;rw[cL];rfl
    refine⟨OE,mH (nk (sm.trans s5) hp) (rW (nm.map D.str) (λpre3 acc U M6=>∃(x:Option D) (xs:QQQ) (us:QXQ),U=[x,some (.ref pi)]/\pre3=xs.map D.str/\acc=us.map D.ref/\nW M5 M6/\RL M5 M6 us (more xs r)) (λ_ acc U M6 j=>?_) _ [] [] _ _ rfl (by simp;lia) ⟨none,[],[],rfl,rfl,rfl,.refl,.nil⟩ (λpre3 d3 post3 he3 acc U M6 j k k2 hk M8=>?_) λacc U M6 j c hc=>?_)⟩
    .obtain⟨_,_,_,_,_,_,s6,_⟩:=j;exact nk ((sm.trans s5).trans s6) hp
    .obtain⟨x0,xs,us,rfl,rfl,rfl,s6,ru⟩:=j;obtain⟨x,rfl,hx⟩:∃x,d3=.str x/\x∈nm:=by have:d3∈nm.map D.str:=he3 ▸ bU _ bG;obtain⟨x,hx,rfl⟩:=bI.mp this;exact⟨x,rfl,hx⟩
     obtain⟨y,ys,rfl⟩:∃y ys,r=y::ys:=CW (cJ e5);have no:(sD y x&&!((y::ys).contains x))=false->k2 [some (.str x),some (.ref pi)] M6:=λz=>M8 _ _ ⟨_,xs++[x],us,rfl,by simp,rfl,s6,by
      have e:more (xs++[x]) (y::ys)=more xs (y::ys):=by unfold more;rw[ie];have z':(sD (qj (y::ys)) x&&!((y::ys).contains x))=false:=z;simp only[dz,z',i9,bY,gY,fY]
      rw[e];exact ru⟩
     refine mH (nk s6 e7) (mH (ri (j:=0) rfl) ?_);show if sD y x=true then _ else _
     refine qy (c:=sD y x) (λh1=>?_) (λh1=>no (by rw[dD.mpr h1];rfl));refine mH (nk s6 e7) ⟨rfl,qk _,?_⟩;show if (!(inD (.str x) ((y::ys).map D.str)))=true then _ else _
     rw[u9];have ec:(y::ys).any (·==x)=(y::ys).contains x:=by rw[gg];congr 1;funext z;exact jy
     rw[ec];refine qy (c:=!(y::ys).contains x) (λh2=>?_) (λh2=>no (by rw[dD.mpr h2,eP]));refine⟨gp (by show 0<sizeLine;lia),λt1 ht1=>?_⟩;have s7:nW M6 (mL M6 t1 (.lst [.str x])):=.new ht1;refine mH (nk (s6.trans s7) e7) (mH mP ⟨?_,λt2 ht2=>hk _ _ _ ⟨_,xs++[x],us++[t2],rfl,by simp,by simp,s6.trans (s7.trans (.new ht2)),?_⟩⟩)
     .have:=uY (cJ e5);have h4:pre.length<nm.length - 1:=by have:=c8 List.length he;simp at this;lia
      simp only[bi,bT,bZ]at this ⊢;lia
     .have e:more (xs++[x]) (y::ys)=more xs (y::ys)++[y::ys++[x]]:=by
       unfold more;rw[ie,b5];have z':(sD (qj (y::ys)) x&&!((y::ys).contains x))=true:=by rw[cO];exact⟨h1,h2⟩
       simp only[dz,z',i9,gi,b6,gL]
      rw[e];have o:=RL.one (M0:=M5) (r:=y::ys++[x]) (s6.trans s7) ht2;rw[b5]at o;exact(ru.up (s7.trans (.new ht2))).app (s6.trans s7) (λq hq=>by obtain⟨c,ec⟩:=ru.rows.cell hq;exact⟨c,s7 q c ec⟩) o
    .obtain⟨x0,xs,us,rfl,ex,rfl,s6,ru⟩:=j;have:nm=xs:=((dw λ_ _ z=>vw z).mp ex.symm).symm;subst this;have Lu:L∉us:=λz=>by have:=ru.fr L z;rw[mZ cL]at this;cases this
     have Lc:L≠c:=IG (s6 _ _ (mZ cL)) hc;refine mH (nk (s6.trans (.new hc)) cL) (mH mP ⟨?_,hnx2 _ _ ⟨_,ts++us,rfl,oT (s5.trans (s6.trans (.new hc))) hL,by rw[b5];exact mP,by rw[bS];exact λz=>z.elim nL Lu,?_⟩⟩)
     .have h1:=rt.rows.len;have h2:=ru.rows.len;rw[bz]at tot;rw[bi,bi];lia
     .rw[bz];show RL M3 _ (ts++us) (((ub nm pre.length).take (Ng.length+1)).flatMap (more nm));rw[eS];exact((rt.up (s6.trans (nW.new (c:=.lst (us.map D.ref)) hc))).app s5 (λq hq=>rt.rows.cell hq) (ru.up (.new hc))).put (by rw[bS];exact λz=>z.elim nL Lu)
   .obtain⟨w,ts,rfl,s5,cL,nL,rt⟩:=j;have eT:((ub nm pre.length).take (ps.map D.ref).length).flatMap (more nm)=ub nm (pre.length+1):=by rw[bi,r1.rows.len,dq];rfl
    rw[eT]at rt;refine mH (nk s5 c2) (mH cL ⟨?_,λf2 hf2=>MV _ _ ⟨L,f2,ts,qs++ts,_,_,_,rfl,sm.trans (s5.trans (.new hf2)),nk (.new hf2) cL,by rw[b5];exact mP,?_,?_⟩⟩)
    .have h1:=r2.rows.len;have h2:=rt.rows.len;have h3:=HS (f:=λk=>ub nm (k+1)) (B:=100000) (λk=>b1 (k+1)) pre.length;have h4:pre.length<nm.length - 1:=by have:=c8 List.length he;simp at this;lia
     rw[bi,bi];have h5:pre.length*100000<=12*100000:=fN _ (by lia);lia
    .rw[bz];exact⟨rt.nd,λq hq=>nN sm (rt.fr q hq),(rt.up (.new hf2)).rows⟩
    .rw[bz];have e2:(List.range (pre.length+[d].length)).flatMap (λk=>ub nm (k+1))=(List.range pre.length).flatMap (λk=>ub nm (k+1))++ub nm (pre.length+1):=by show(List.range (pre.length+1)).flatMap _=_;rw[i7,cP];simp
     rw[e2];exact(r2.up (s5.trans (.new hf2))).app sm (λq hq=>r2.rows.cell hq) (rt.up (.new hf2))
  .obtain⟨h,f,ps,qs,x,y,z,rfl,sm,c1,c2,r1,r2⟩:=j;have eA:((List.range (nm.length - 1)).map λn=>D.int (2+(n:Nat))).length=nm.length - 1:=by simp
   rw[eA]at r2;refine⟨qs,rowAt M3,c2,λr hr=>r2.rows.rowAt hr,λout r hr op ow=>⟨_,.refl,q r (out.map (rowAt M3)) _ (oT sm (nN sm hr)) ⟨nN sm hr,out,mP,op.nodup_iff.mpr r2.nd,?_,λz hz=>r2.fr z (op.mem_iff.mp hz),?_⟩ ?_ ?_⟩⟩
   .intro z;obtain⟨c,ec⟩:=r2.rows.cell (op.mem_iff.mp z);rw[hr]at ec;cases ec
   .refine xD λz hz=>?_;exact nk (.new hr) (r2.rows.rowAt (op.mem_iff.mp hz))
   .have:=op.map (rowAt M3);rw[r2.rows.rows]at this;exact this
   .rw[dE];exact ow
def tK{nm row r:QQQ}:r∈more nm row↔∃x∈nm,sD (qj row) x=true/\x∉row/\r=row++[x]:=by
 unfold more;constructor
 .intro h;obtain⟨x,hx,rfl⟩:=bI.mp h;obtain⟨h1,h2⟩:=eZ.mp hx;obtain⟨c1,c2⟩:=eO.mp h2;exact⟨x,h1,c1,by simpa using c2,rfl⟩
 .rintro ⟨x,h1,c1,c2,rfl⟩
  exact bI.mpr ⟨x,eZ.mpr ⟨h1,eO.mpr ⟨c1,by simpa using c2⟩⟩,rfl⟩
def w9(nm r:QQQ):Prop:=∃y ys,r=y::ys/\y∈nm/\(∀x∈ys,x∈nm/\sD y x=true)/\ys.Nodup
def w9.nd{nm r:QQQ}(h:w9 nm r):r.Nodup:=by obtain⟨y,ys,rfl,_,h2,h3⟩:=h;refine cp.mpr ⟨λz=>?_,h3⟩;have:=(h2 y z).2;rw[xu]at this;cases this
def w9.sub{nm r:QQQ}(h:w9 nm r):∀x∈r,x∈nm:=by
 obtain⟨y,ys,rfl,h1,h2,h3⟩:=h;intro x hx;rcases br.mp hx with e|e
 .rw[e];exact h1
 .exact(h2 x e).1
theorem tI{nm:QQQ}:∀{k:Nat} {r:QQQ},r∈ub nm k↔w9 nm r/\r.length=k+1
 | 0,r=>by
  constructor
  .intro h;obtain⟨x,hx,rfl⟩:=bI.mp h;exact⟨⟨x,[],rfl,hx,by simp,df⟩,rfl⟩
  .rintro ⟨⟨y,ys,rfl,hy,_,_⟩,e⟩
   have:ys=[]:=dY.mp (by simpa using e);subst this;exact bI.mpr ⟨y,hy,rfl⟩
 | k+1,r=>by
  constructor
  .intro h;obtain⟨s,hs,hr⟩:=dN.mp h;obtain⟨⟨y,ys,rfl,hy,a1,a2⟩,e⟩:=tI.mp hs;obtain⟨x,hx,c1,c2,rfl⟩:=tK.mp hr;refine⟨⟨y,ys++[x],rfl,hy,λz hz=>?_,cC.mpr ⟨a2,by simp,λu hu v hv e=>?_⟩⟩,by rw[bz,e];rfl⟩
   .rcases bS.mp hz with q|q
    .exact a1 z q
    .rw[bP.mp q];exact⟨hx,c1⟩
   .rw[bP.mp hv]at e;subst e;exact c2 (bK _ hu)
  .rintro ⟨⟨y,ys,rfl,hy,a1,a2⟩,e⟩
   have ne:ys≠[]:=λz=>by rw[z]at e;simp at e
   have ey:=List.dropLast_concat_getLast ne;generalize ys.dropLast=zs at ey;generalize ys.getLast ne=x at ey;subst ey;obtain⟨n1,_,n3⟩:=cC.mp a2;have hx:=a1 x (by simp);refine dN.mpr ⟨y::zs,tI.mpr ⟨⟨y,zs,rfl,hy,λz hz=>a1 z (fF _ hz),n1⟩,by simpa using e⟩,tK.mpr ⟨x,hx.1,hx.2,λz=>?_,rfl⟩⟩;rcases br.mp z with q|q
   .have:=hx.2;rw[q,xu]at this;cases this
   .exact n3 x q x (by simp) rfl
theorem Ep{nm:QQQ}(nd:nm.Nodup):∀k,(ub nm k).Nodup
 | 0=>dE.mpr (nd.imp λne e=>ne (eX e).1)
 | k+1=>fE.mpr ⟨λs _=>dE.mpr ((nd.filter _).imp λne e=>ne (by simpa using e)),(Ep nd k).imp λ{s t} ne r hr u hu e=>by
   obtain⟨x,_,_,_,rfl⟩:=tK.mp hr;obtain⟨y,_,_,_,rfl⟩:=tK.mp hu;exact ne (List.append_inj' e rfl).1⟩
def DI{nm:QQQ}(nd:nm.Nodup):(uo nm).Nodup:=
 fE.mpr ⟨λk _=>Ep nd (k+1),List.nodup_range.imp λ{i j} ne r hr u hu e=>by
  subst e;have:=uY hr;have:=uY hu;exact ne (by lia)⟩
def uf{nm r:QQQ}:r∈uo nm↔w9 nm r/\2<=r.length:=by
 constructor
 .intro h;obtain⟨k,_,hr⟩:=dN.mp h;obtain⟨h1,h2⟩:=tI.mp hr;exact⟨h1,by lia⟩
 .rintro ⟨h1,h2⟩
  have:=pW h1.nd h1.sub;exact dN.mpr ⟨r.length - 2,dA.mpr (by lia),tI.mpr ⟨h1,by lia⟩⟩
theorem BN{nm:QQQ}(h:nm.length<=5):∀k,(ub nm k).length<=5 ^ (k+1)
 | 0=>by show(nm.map _).length<=5;rw[bi];exact h
 | k+1=>by show((ub nm k).flatMap (more nm)).length<=5 ^ (k+1)*5;refine bQ (vd (B:=5) λr _=>?_) (fN _ (BN h k));unfold more;rw[bi];exact bQ (jm ..) h
def DN{nm:QQQ}(h:nm.length<=5)(k:Nat):(ub nm k).length<=3125:=by
 by_cases hk:k<5
 .exact bQ (BN h k) (gS (n:=5) (j:=5) (by decide) hk)
 .have:ub nm k=[]:=List.eq_nil_iff_forall_not_mem.mpr λr hr=>by obtain⟨h1,h2⟩:=tI.mp hr;have:=pW h1.nd h1.sub;lia
  rw[this];decide
def zQ{nm:QQQ}(h:nm.length<=5):(uo nm).length<=1000000:=by have:=HS (f:=λk=>ub nm (k+1)) (B:=3125) (λk=>DN h (k+1)) (nm.length - 1);unfold uo;lia
def Kv(ps:T0 (Str×Str)):Str->QQQ->Prop
 | _,[]=>True
 | a,x::xs=>(a,x)∈ps/\Kv ps x xs
theorem x6{ps:T0 (Str×Str)}:∀(ys:QQQ) (y:Str),Kv ps y ys↔∀k,k<ys.length->((y::ys).getD k "",ys.getD k "")∈ps
 | [],y=>⟨λ_ k h=>absurd h (i6 _),λ_=>trivial⟩
 | x::xs,y=>⟨λ⟨h1,h2⟩ k hk=>match k,hk with
   | 0,_=>h1
   | k+1,hk=>(x6 xs x).mp h2 k (fm hk),λh=>⟨h 0 (iM _),(x6 xs x).mpr λk hk=>h (k+1) (iS hk)⟩⟩
def zP{ps:T0 (Str×Str)}{y:Str}{ys:QQQ}:p7 (y::ys) ps=true↔(uP (y::ys),y)∈ps/\Kv ps y ys:=by
 unfold p7;rw[ck,x6];constructor
 .intro h;refine⟨by simpa [qG]using h 0 (dA.mpr (iM _)),λk hk=>?_⟩;have:=h (k+1) (dA.mpr (iS hk))
  simpa [qG]using this
 .rintro ⟨h1,h2⟩ k hk
  have hk:=dA.mp hk;cases k with
  | zero=>simpa [qG]using h1
  | succ k=>simpa [qG]using h2 k (fm hk)
theorem C7{gs:Str->QQQ}{nm:QQQ}{ps:T0 (Str×Str)}(he:∀x∈nm,∀y,y∈gs x↔(x,y)∈ps):∀(ys:QQQ) (y:Str),y∈nm->(∀x∈ys,x∈nm)->(Ch gs y ys↔Kv ps y ys)
 | [],_,_,_=>⟨id,id⟩
 | x::xs,y,hy,h=>and_congr (he y hy x) (C7 he xs x (h x bG) λz hz=>h z (bK _ hz))
theorem Hd{gs:Str->QQQ}{nm:QQQ}(cl:∀x∈nm,∀y∈gs x,y∈nm):∀(ys:QQQ) (y:Str),y∈nm->Ch gs y ys->∀x∈ys,x∈nm
 | [],_,_,_=>by simp
 | x::xs,y,hy,⟨h1,h2⟩=>λz hz=>by
  have hx:=cl y hy x h1;rcases br.mp hz with e|e
  .rw[e];exact hx
  .exact Hd cl xs x hx h2 z e
def Eg{l:nc}(ok:pT l){gs:Str->QQQ}(go:Hr l gs){ps:T0 (Str×Str)}(hp:∀x y,(x,y)∈ps↔y∈l.led x)(r:QQQ):r∈(l.nm.flatMap λx=>nX gs 12 [x])↔r∈uo l.nm/\p7 r ps=true:=by
 have he:∀x∈l.nm,∀y,y∈gs x↔(x,y)∈ps:=λx hx y=>((go x hx).2 y).trans (hp x y).symm;have cl:=(Ir ok go).1;rw[dN,uf];constructor
 .rintro ⟨x,hx,hr⟩
  obtain⟨ext,rfl,e2,e3,e4,e5,e6,e7⟩:=(pU 12 [x] (by simp)).mp hr;have hi:=Hd cl ext x hx e3;have e7:x∈gs (uP (x::ext)):=e7;have hl:uP (x::ext)∈l.nm:=by
   rcases br.mp (vJ (p:=x::ext) (by simp))with z|z
   .rw[z];exact hx
   .exact hi _ z
  have ne:ext≠[]:=λz=>by subst z;obtain⟨w,hw,_,e⟩:=xp.mp (((go x hx).2 x).mp e7);exact(za ok hw e).2.2 rfl
  refine⟨⟨⟨x,ext,rfl,hx,λz hz=>⟨hi z hz,e4 z hz⟩,e5⟩,?_⟩,zP.mpr ⟨(he _ hl x).mp e7,(C7 he ext x hx hi).mp e3⟩⟩;have:=cX.mpr ne;show 2<=ext.length+1;lia
 .rintro ⟨⟨h1,h2⟩,h3⟩
  have Mm:=pW h1.nd h1.sub;have:=AU ok;have OR:=h1.nd;have O1:=h1.sub;obtain⟨y,ys,rfl,hy,a1,a2⟩:=h1;obtain⟨g1,g2⟩:=zP.mp h3;have hi:∀x∈ys,x∈l.nm:=λx hx=>(a1 x hx).1;rw[bT]at Mm;refine⟨y,hy,(pU 12 [y] (by simp)).mpr ⟨ys,rfl,by lia,(C7 he ys y hy hi).mpr g2,λx hx=>(a1 x hx).2,a2,λx hx z=>?_,(he _ (O1 _ (vJ (by simp))) y).mpr g1⟩⟩;rw[bP.mp z]at hx;exact(cp.mp OR).1 hx
def yF{l:nc}(ok:pT l){gs:Str->QQQ}(go:Hr l gs):(l.nm.flatMap λx=>nX gs 12 [x]).Nodup:=
 fE.mpr ⟨λx hx=>zE (λz hz=>(go z hz).1) (Ir ok go).1 12 [x] (by simp) hx,ok.nd.imp λ{x y} ne r hr u hu e=>by
  obtain⟨e1,rfl,_⟩:=(pU 12 [x] (by simp)).mp hr;obtain⟨e2,rfl,_⟩:=(pU 12 [y] (by simp)).mp hu;exact ne (eX e).1⟩
def BW{l:nc}(ok:pT l){gs:Str->QQQ}(go:Hr l gs){ps:T0 (Str×Str)}(hp:∀x y,(x,y)∈ps↔y∈l.led x){rs ts:T0 (QQQ)}(p1:rs.Perm (l.nm.flatMap λx=>nX gs 12 [x]))(s1:rs.Pairwise λr t=>su t r=false)(p2:ts.Perm (uo l.nm))(s2:ts.Pairwise λr t=>su t r=false):rs=ts.filter λr=>p7 r ps:=by refine wW zk (p1.nodup_iff.mpr (yF ok go)) ((p2.nodup_iff.mpr (DI ok.nd)).filter _) s1 (s2.filter _) λx=>?_;rw[p1.mem_iff,Eg ok go hp,eZ,p2.mem_iff]
noncomputable def LO(s:Int)(i:Nat):qJ:=(word s (0+(i:Nat)),1+(0+(i:Nat)) % 3,0+(i:Nat))
noncomputable def oY(s:Int):List qJ:=(List.range (2+mX s 48271 3).toNat).map (LO s)
noncomputable def pG(s:Int):QQQ:=(oY s).map (·.1)
noncomputable def nY(s:Int):List rg:=if s % 2=0 then[]else[(word s 8,"all",(pG s).take 2)]
noncomputable def pO(s:Int):QQQ:=pG s++(nY s).map (·.1)
noncomputable def Cv(c:Int)(all:QQQ):Wi:=
 let pl:=mX c 39373 all.length;let y:=uC all pl;let z:=uC all ((pl+1+mX c 742938285 ((all.length:Int) - 1)) % all.length);let h:=mX c 69621 24;let k:=mX c 16807 4
 if k=0 then .always y z
 else if k=1 then .night y z h ((h+5) % 24)
 else if k=2 then .busy y z
 else .silent y z (1+h % 9)
noncomputable def rj(ns:T0 Int)(i:Nat):Int:=cell ns (1+(0+(i:Nat)))+31*(0+(i:Nat))*(0+(i:Nat))
noncomputable def tS(c:Int)(own nm:QQQ):oQ:=(decide (0<mX c 22695477 6),if mX c 950706376 8=0 then qR c own nm else Cv c nm)
noncomputable def qH(ns:T0 Int)(n:Nat):List oQ:=(List.range n).map λi=>tS (rj ns i) (pG (cell ns 0)) (pO (cell ns 0))
noncomputable def Jf(s:Int):Nat:=(mX s 1664525 17).toNat
noncomputable def vt(ns:T0 Int):nc:=⟨oY (cell ns 0),nY (cell ns 0),qH ns (Jf (cell ns 0))⟩
def Iw:pP:=λds M Q=>A9 λc n all=>ds=[.int c,.ref n]/\ma M n=some (all.map D.str)/\2<=all.length/\all.length<=64/\Q (.tup (Cv c all).told) M
def xw(s:Int):2<=(oY s).length/\(oY s).length<=4:=by have d0:=nQ (c:=s) (f:=48271) (m:=3) (by decide);have d1:=nG (c:=s) (f:=48271) (m:=3) (by decide);unfold oY;rw[bi,cS];lia
def Bi(s:Int):pG s=(List.range (2+mX s 48271 3).toNat).map λi=>word s (0+(i:Nat)):=by unfold pG oY;rw[cx];rfl
def vA(s:Int):2<=(pG s).length/\(pG s).length<=4:=by have:=xw s;unfold pG;rw[bi];exact this
def rS(s:Int):(nY s).length<=1:=by
 unfold nY;split
 .exact cu _
 .exact bB _
def vh(s:Int):2<=(pO s).length/\(pO s).length<=5:=by have:=vA s;have:=rS s;unfold pO;rw[bz,bi];lia
def x8(s:Int):(pG s).Nodup:=by have d1:=nG (c:=s) (f:=48271) (m:=3) (by decide);rw[Bi];refine wN _ _ λi j hi hj e=>?_;have:=yT (by lia) (by lia) (by lia) (by lia) e;lia
def Cy(s:Int):(pO s).Nodup:=by
 unfold pO nY;split
 .rw[gL,bY];exact x8 s
 .refine cC.mpr ⟨x8 s,by simp,λx hx y hy e=>?_⟩;have d1:=nG (c:=s) (f:=48271) (m:=3) (by decide);rw[Bi]at hx;obtain⟨i,hi,rfl⟩:=bI.mp hx;have hi:=dA.mp hi;have hy:y=word s 8:=by simpa using hy
  rw[hy]at e;have:=yT (by lia) (by lia) (by lia) (by lia) e;lia
def GN{c:Int}{all:QQQ}(na:all.Nodup)(ha:2<=all.length):uC all (mX c 39373 all.length)∈all/\uC all ((mX c 39373 all.length+1+mX c 742938285 ((all.length:Int) - 1)) % all.length)∈all/\uC all (mX c 39373 all.length)≠uC all ((mX c 39373 all.length+1+mX c 742938285 ((all.length:Int) - 1)) % all.length):=by
 have p0:=nQ (c:=c) (f:=39373) (m:=all.length) (by lia);have p1:=nG (c:=c) (f:=39373) (m:=all.length) (by lia);have e0:=nQ (c:=c) (f:=742938285) (m:=(all.length:Int) - 1) (by lia);have e1:=nG (c:=c) (f:=742938285) (m:=(all.length:Int) - 1) (by lia);have z0:=cq (mX c 39373 all.length+1+mX c 742938285 ((all.length:Int) - 1)) (show(all.length:Int)≠0 by lia);have z1:=cf (mX c 39373 all.length+1+mX c 742938285 ((all.length:Int) - 1)) (show(0:Int)<all.length by lia);refine⟨r6 p0 p1,r6 z0 z1,λz=>?_⟩;have q:=xM na p0 p1 z0 z1 z;have q2:(mX c 39373 all.length+0) % (all.length:Int)=(mX c 39373 all.length+(1+mX c 742938285 ((all.length:Int) - 1))) % (all.length:Int):=by rw[k9,j8 p0 p1,<-kZ];exact q
 have:=xB (by lia) (by lia) (by lia) (by lia) (by lia) q2;lia
def Iu{c:Int}{own all:QQQ}(na:all.Nodup)(ha:2<=all.length):ul own all (Cv c all):=by
 obtain⟨h1,h2,ne⟩:=GN (c:=c) na ha;have hy:=sQ h1;have hz:=sQ h2;have f0:=nQ (c:=c) (f:=69621) (m:=24) (by decide);have f1:=nG (c:=c) (f:=69621) (m:=24) (by decide);unfold Cv;simp only;split
 .exact⟨hy,hz,ne⟩
 .split
  .exact⟨hy,hz,ne,⟨f0,by lia⟩,⟨by lia,by lia⟩,by lia⟩
  .split
   .exact⟨hy,hz,ne⟩
   .exact⟨hy,hz,ne,by lia,by lia⟩
def ET{c:Int}{own all:QQQ}(no:own.Nodup)(na:all.Nodup)(ho:own≠[])(ha:2<=all.length):ul own all (tS c own all).2:=by
 unfold tS;simp only;split
 .exact F7 no na ho ha
 .exact Iu na ha
def EB(ns:T0 Int):pT (vt ns):=by
 have pl:=xw (cell ns 0);have ol:=vA (cell ns 0);have nl:=vh (cell ns 0);have nd:=Cy (cell ns 0);have no:=x8 (cell ns 0);have one:pG (cell ns 0)≠[]:=λz=>by rw[z]at ol;exact absurd ol.1 (by decide)
 refine⟨by show 1<=(oY (cell ns 0)).length;lia,by show(oY (cell ns 0)).length<=8;lia,λp hp=>?_,bQ (rS _) (by decide),λg hg=>?_,nd,?_,λv hv=>?_⟩
 .obtain⟨i,hi,rfl⟩:=bI.mp hp;have hi:=dA.mp hi;have d1:=nG (c:=cell ns 0) (f:=48271) (m:=3) (by decide);exact⟨bQ (vi (cell ns 0) (0+(i:Nat))).2 (by decide),wZ _ _,by show(1:Int)<=1+(0+(i:Int)) % 3;lia,by show(1:Int)+(0+(i:Int)) % 3<=3;lia,by show(0:Int)<=0+(i:Int);lia,by show(0:Int)+(i:Int)<=9;lia⟩
 .have hg:g∈nY (cell ns 0):=hg;unfold nY at hg;split at hg
  .cases hg
  .rw[bP.mp hg];have tl:((pG (cell ns 0)).take 2).length=2:=by rw[cV];lia
   refine⟨bQ (vi (cell ns 0) 8).2 (by decide),wZ _ _,.inl rfl,by show((pG (cell ns 0)).take 2).length<4000;lia,?_⟩;show oC ((pG (cell ns 0)).take 2) (pG (cell ns 0)) 4=true;unfold oC;rw[tl,bV (show(1:Int)<=(2:Nat)by decide),bV (show((2:Nat):Int)<=4 by decide),ud (no.sublist (jT 2 _)),eI,eI,eI,ck];exact λx hx=>sQ (js hx)
 .show(qH ns (Jf (cell ns 0))).length<=16;have d1:=nG (c:=cell ns 0) (f:=1664525) (m:=17) (by decide);unfold qH Jf;rw[bi,cS];lia
 .obtain⟨i,hi,rfl⟩:=bI.mp hv;exact ET no nd one nl.1
def zZ:Fq P w K mg base 3 a.ak Iw:=by
 refine fq G.ak.toDG oF (λr u=>⟨_,(mI (mY 2 oF (mM (ou G) r G.g (qP u0 mJ (mU oB rfl G.c oh (oR V1)))))
 (mI (mY 3 oF (nj V1 V2))
 (mI (mY 4 oF (nj V1 (m8 (m8 (m8 V2 mJ) (mM (ou G) r G.g (qP u0 mJ (m8 (mU oB rfl G.c oh (oR V1)) mJ)))) (mU oB rfl G.c oh (oR V1)))))
 (mI (mY 5 oF (mM (ou G) r G.g (qP u0 mJ mJ)))
 (mI (mY 6 oF (pR (oy (nB (qP mO V3 v4)) (qP (nB (oy mO (oy V3 (qP v4 v5 (m8 (m8 v5 mJ) mJ))))) (nB (qP mO V3 v4)) (nB (oy mO (qP V3 v4 (m8 mJ (m8 v5 mJ)))))))))
 (mK (mT (nj v6 (mM (ou G) r G.g (qP u0 mJ mJ)))))))))),?_⟩)
 rintro ds M Q ⟨c,n,all,rfl,hn,h2,l2,q⟩
 have OD:all≠[]:=λz=>by rw[z]at h2;simp at h2
 have e2:((all.map D.str).length:Int)=all.length:=by rw[bi]
 have p2:(0:Int)<all.length:=by lia
 have p3:(0:Int)<(all.length:Int) - 1:=by lia
 refine mH hn ⟨c,_,_,rfl,by rw[e2];exact p2,?_⟩;rw[e2];refine mH hn (mH (Ac (nQ p2) (nG p2)) ?_);refine mH hn ⟨c,_,_,rfl,by rw[e2];exact p3,?_⟩;rw[e2];refine mH hn ⟨by rw[e2];exact p2,?_⟩;rw[e2];refine mH hn (mH (yh OD _) ?_);refine⟨c,_,_,rfl,by decide,mF rfl,by decide,mF rfl,mF rfl,by decide,mF rfl,mF rfl,λr hr=>?_⟩;refine⟨c,_,_,rfl,by decide,mH mP (mH (x:=D.tup (Cv c all).told) ?_ ⟨M,.new hr,q⟩)⟩;have k0:0<=mX c 16807 4:=nQ (by decide);have k1:mX c 16807 4<4:=nG (by decide);unfold Cv;simp only;generalize mX c 16807 4=k at k0 k1;rcases(show k=0\/k=1\/k=2\/k=3 by lia)with e|e|e|e<;>subst e<;>rfl
def G7(n:Nat)(ss:QQQ):(ss.map D.str).all (tX n)=true:=by rw[fX];exact ck.mpr λx _=>by cases n<;>rfl
def Cz(v:Wi)(n:Nat):tX (n+2) (.tup v.told)=true:=by
 cases v with
 | bar x ns=>show(true&&(true&&(tX (n+1) (names ns)&&true)))=true;have:tX (n+1) (names ns)=true:=G7 n ns;rw[this];rfl
 | shut x ns=>show(true&&(true&&(tX (n+1) (names ns)&&true)))=true;have:tX (n+1) (names ns)=true:=G7 n ns;rw[this];rfl
 | always x y=>rfl
 | night x y f l=>rfl
 | busy x y=>rfl
 | silent x y m=>rfl
 | wait x=>rfl
 | breaks x=>rfl
def Dn{M:Mp}{a:Addr}{ds:T0 D}(h:ma M a=some ds):LU M (.ref a)=some (.type "list"):=by show Af (M a)=_;rw[mZ h];rfl
noncomputable def Ei(M:Mp):D->D
 | .ref r=>match M r with
  | some (.ins _ fs)=>(fs.lookup ("form":Str)).getD .lB
  | _=>.lB
 | _=>.lB
def A7{a:Ad}{M:Mp}{r:Addr}{v:Wi}(h:M r=some (.ins (v.cls a) v.l5)):Ei M (.ref r)=.tup v.told:=by show(match M r with|some (.ins _ fs)=>(fs.lookup ("form":Str)).getD .lB|_=>.lB)=_;rw[h];rfl
theorem zC{a:Ad}{M:Mp}:∀{rs:QXQ} {ws:List oQ},oz a M rs ws->(rs.map D.ref).map (Ei M)=ws.map λw=>D.tup w.2.told
 | [],[],_=>rfl
 | [],_::_,h=>by have:=h.1;simp at this
 | _::_,[],h=>by have:=h.1;simp at this
 | r::rs,v::ws,h=>by have h0:=h.2 0 r v rfl rfl;have hr:oz a M rs ws:=⟨by simpa using h.1,λi r' v' e1 e2=>h.2 (i+1) r' v' (by simpa using e1) (by simpa using e2)⟩;rw[b6,b6,b6,A7 h0,zC hr]
noncomputable def He:D->D
 | .tup [_,x]=>x
 | _=>.lB
def Ej(ws:List oQ):(ws.map pY).map He=ws.map λw=>D.tup w.2.told:=by rw[cx];rfl
noncomputable def EK:T0 D:=[.str "always",.str "night",.str "busy",.str "silent"]
noncomputable def pj(l:nc):T0 (Str×Str):=l.lh.filterMap λw=>if w.1 then w.2.lD else none
def IH(v:Wi):tE v.told 0=some (.str v.word):=by cases v<;>rfl
def Gj(v:Wi):inD (.str v.word) EK=v.lD.isSome:=by cases v<;>rfl
def A6{v:Wi}{p:Str×Str}(h:v.lD=some p):tE v.told 1=some (.str p.1)/\tE v.told 2=some (.str p.2):=by cases v<;>cases h<;>exact⟨rfl,rfl⟩
def Ci{l:nc}(x y:Str):(x,y)∈pj l↔y∈l.led x:=by
 rw[xp];unfold pj;rw[fU];constructor
 .rintro ⟨w,hw,e⟩
  split at e
  .rename_i h;exact⟨w,hw,h,e⟩
  .cases e
 .rintro ⟨w,hw,h1,h2⟩
  exact⟨w,hw,by rw[bw h1];exact h2⟩
def FU{α β:Type}{f:α->Option β}{l:List α}{n:Nat}{v:α}(h:l[n]?=some v):(l.take (n+1)).filterMap f=(l.take n).filterMap f++(f v).toList:=by rw[kS,h,jl];show _++[v].filterMap f=_;rw[eV,List.filterMap_nil];cases f v<;>rfl
def GA{α:Type}{f:α->Bool}{l:List α}{n:Nat}{v:α}(h:l[n]?=some v):(l.take (n+1)).filter f=(l.take n).filter f++(if f v=true then[v]else[]):=by rw[kS,h,ie];show _++[v].filter f=_;rw[dz,i9]
def Al{α β:Type}{f:α->β}{l:List α}{pre post:List β}{d:β}(e:pre++d::post=l.map f):∃v,l[pre.length]?=some v/\d=f v:=by
 have h:(l.map f)[pre.length]?=some d:=by rw[<-e];simp
 rw[bM]at h;cases ev:l[pre.length]? with
 | none=>rw[ev]at h;cases h
 | some v=>rw[ev]at h;exact⟨v,rfl,(bJ h).symm⟩
theorem BK{M:Mp}{n:Nat}:∀{ps qs:QXQ} {rs:T0 (QQQ)},nC M ps rs->nC M qs rs->og (sA M (n+2)) (ps.map D.ref) (qs.map D.ref)=some true
 | [],[],_,_,_=>rfl
 | [],_::_,[],_,h=>h.elim
 | [],_::_,_::_,h,_=>h.elim
 | _::_,[],[],h,_=>h.elim
 | _::_,[],_::_,_,h=>h.elim
 | _::_,_::_,[],h,_=>h.elim
 | p::ps,q::qs,r::rs,⟨h1,h2⟩,⟨g1,g2⟩=>by
  have e:sA M (n+2) (.ref p) (.ref q)=some true:=xg h1 g1 λd hd=>by obtain⟨x,_,rfl⟩:=bI.mp hd;exact vQ n _ (by cases n<;>rfl)
  show(sA M (n+2) (.ref p) (.ref q)).bind _=_;rw[e];show(og (sA M (n+2)) (ps.map D.ref) (qs.map D.ref)).map _=_;rw[BK h2 g2];rfl
def zr{M:Mp}{x y:Addr}{ps qs:QXQ}{rs:T0 (QQQ)}(h1:ma M x=some (ps.map D.ref))(h2:ma M y=some (qs.map D.ref))(r1:nC M ps rs)(r2:nC M qs rs):sA M 9 (.ref x) (.ref y)=some true:=by show((ma M x).bind λi=>(ma M y).bind λj=>if i.length=j.length then og (sA M 8) i j else some false)=_;rw[h1,h2];show(if (ps.map D.ref).length=(qs.map D.ref).length then og (sA M 8) (ps.map D.ref) (qs.map D.ref)else some false)=_;rw[bw (by rw[bi,bi,r1.len,r2.len])];exact BK r1 r2
theorem rE{M:Mp}{f:QQQ->Bool}:∀{ps:QXQ} {rs:T0 (QQQ)},nC M ps rs->nC M (ps.filter λq=>f (rowAt M q)) (rs.filter f)
 | [],[],_=>trivial
 | [],_::_,h=>h.elim
 | _::_,[],h=>h.elim
 | q::ps,r::rs,⟨h1,h2⟩=>by
  rw[dz,dz,vI h1];split
  .exact⟨h1,rE h2⟩
  .exact rE h2
def C8:pP:=λds M Q=>∃ns:T0 Int,ds=[.rl (ns.map D.int)]/\ns.length<=63/\Q (.bl true) M
noncomputable def LF(s:Int)(d:D):D:=match d with|.int i=>.tup [.str (word s i),.int (1+i % 3),.int i]|_=>.lB
def FY(s:Int)(g:D):L3.qM [g] none (some (s % 2))=if s % 2=0 then[]else[g]:=by have h0:=cq s (show(2:Int)≠0 by decide);have h1:=cf s (show(0:Int)<2 by decide);rcases(show s % 2=0\/s % 2=1 by lia)with e|e<;>rw[e]<;>rfl
def Fv{o:QQQ}(h:2<=o.length):L3.qM (o.map D.str) none (some 2)=(o.take 2).map D.str:=by
 unfold L3.qM;have e:HT.oV (o.map D.str).length (o.map D.str).length (some 2)=2:=by have:=HT.GJ (o.map D.str).length (o.map D.str).length 2;rw[bi]at this ⊢;rw[show((2:Nat):Int)=2 from rfl]at this;rw[this];lia
 rw[e,HT.Dp,kR,List.map_take]
def IK:Fq P w K mg base 20 a.L C8:=by
 have MR:=zD (P:=P) (w:=w) (base:=base) G (zq G) (yX G 12);refine fq G.L.toDG oM (λr u=>⟨_,(mI (mY 1 oM (mM (GW G) r G.H (qa u0 mJ)))
 (mI (qw (i:=2) oM.nd rfl (Or.inl rfl) rfl (u7 (ix:=[none,some 1]) (N':=["_law_k","_law_seed"])) (r9 rfl G.aa (oR (m8 mJ (mM (ou G) r G.g (qP V1 mJ mJ))))) (nJ 0) oA (nB (qP (mM (BQ G) r G.I (qa V1 u0)) (m8 mJ (m8 u0 mJ)) u0)))
 (mI (qw (i:=3) oM.nd rfl (Or.inl rfl) rfl (u7 (ix:=[none]) (N':=["_law_phone"])) (nO V2) (nJ 0) oA (nj u0 mJ))
 (mI (mY 4 oM (rM (pR (oR (nB (qP (mM (BQ G) r G.I (qa V1 mJ)) mO (oZ zG rfl G.aD zw (oR (rM V3 tQ (tG mJ)))))))) tQ (tG (m8 V1 mJ))))
 (mI (mY 5 oM (m8 V3 (nS rfl (u7 (ix:=[none]) (N':=["_law_group"])) (nO v4) (nJ 0) oA (nj u0 mJ))))
 (mI (mY 6 oM (pR qN))
 (mI (qv de rfl (r9 rfl G.aa (oR (mM (ou G) r G.g (qP V1 mJ mJ)))) (oN 7 oM)
 (mI (mY 8 oM (m8 (mM (GW G) r G.H (qa u0 (m8 mJ v7))) (m8 (m8 mJ v7) v7)))
 (mI (mY 9 oM (mM (zZ G) r G.ak (qa v8 v5)))
 (mI (oq (nI u (mM (ou G) r G.g (qP v8 mJ mJ)) mJ)
 (mK (mY 9 oM (mM (Fh G) r G.aj (qP v8 V3 v5))))
 nu)
 (mK (mW (pL v6 (oR (nB (qa (pN u (mM (ou G) r G.g (qP v8 mJ mJ)) mJ) v9))))))))))
 (mI (mY 10 oM (re (FQ G) r G.e G.aJ G.M.toDG (qP V2 v4 v6)))
 (mI (mY 11 oM (nB (oy mO (qP mO mO mO))))
 (mI (mY 12 oM (nS rfl (u7 (ix:=[none,none,some 11]) (N':=["_law_on","_law_told","_law_forwarding"])) (nO v6) (qX (n:=2) rfl (nA (nJ 0) (nA (nJ 1) qd))) (AL (W3.b3 (yk (wX u0) (vc (nI u (nj V1 mJ) V2))))) (nB (qa (nj V1 mJ) (nj V1 mJ)))))
 (mI (qw (i:=13) oM.nd rfl (Or.inl rfl) rfl (u7 (ix:=[none,some 12]) (N':=["_law_row","_law_pairs"])) (nO (mM (Gr G) r G.al (oR v5))) (nJ 0) (AL (wX (mM (FN G) r G.am (qa u0 V1)))) u0)
 (mI (mY 14 oM (mM MR r G.C (oR KN)))
 (mI (oq (W3.b3 (GV (AM (wX (mU wO rfl G.aE sN (qa J9 (GR rfl G.ab tW))))) (GV (AM (wX (mU (yl rfl) rfl G.aq yo (oR (nS rfl (u7 (ix:=[none]) (N':=["_law_row"])) (nO J9) (nJ 0) oA (mU (AK (K:=K) rfl) rfl G.aE sN (qa u0 (GR rfl G.ab tW)))))))) (HC (nI u J9 LR)))))
 (mK (mT Jt))
 nu)
 (mI (qv de rfl (nO J9) (oN 15 oM)
 (mK (mW (pL LX (oR mO)))))
 (mI (mW (pL J9 (oR (pR qN))))
 (mI (mY 16 oM (pN u (nS rfl (u7 (ix:=[none]) (N':=["_law_wish_here"])) (nO (rD KN)) (nJ 0) oA (rK (R:=yp a) u0 (AN G) (r.mono (by first|decide|lia)))) (nS rfl (u7 (ix:=[none,none]) (N':=["_law_on","_law_told"])) (nO v6) (qX (n:=2) rfl (nA (nJ 0) (nA (nJ 1) qd))) oA V1)))
 (mK (mT (xQ (pN u (mM MR r G.C (oR KN)) LR) (Ap LW)))))))))))))))))))),?_⟩)
 rintro ds M Q ⟨ns,rfl,hl,q⟩
 have hz:=cb;refine⟨ns,0,rfl,?_⟩;have po:=EB ns;have MA:vt ns=⟨oY (cell ns 0),nY (cell ns 0),qH ns (Jf (cell ns 0))⟩:=rfl;have hnm:(vt ns).nm=pO (cell ns 0):=rfl;have pl:=xw (cell ns 0);have ol:=vA (cell ns 0);have gl:=rS (cell ns 0);have nl:=vh (cell ns 0);have d0:=nQ (c:=cell ns 0) (f:=48271) (m:=3) (by decide);have d1:=nG (c:=cell ns 0) (f:=48271) (m:=3) (by decide);have ep:oY (cell ns 0)=(List.range (2+mX (cell ns 0) 48271 3).toNat).map (LO (cell ns 0)):=rfl;have wn:qH ns=λn=>(List.range n).map λi=>tS (rj ns i) (pG (cell ns 0)) (pO (cell ns 0)):=rfl;have eg:nY (cell ns 0)=if cell ns 0 % 2=0 then[]else[((word (cell ns 0) 8,"all",(pG (cell ns 0)).take 2):rg)]:=rfl;have eo:(oY (cell ns 0)).map (·.1)=pG (cell ns 0):=rfl;have en:pO (cell ns 0)=pG (cell ns 0)++(nY (cell ns 0)).map (·.1):=rfl;refine⟨_,_,_,rfl,by decide,rfl,⟨?_,?_⟩,?_⟩
 .show -(2 ^ 62)<=2+mX (cell ns 0) 48271 3;lia
 .show 2+mX (cell ns 0) 48271 3<2 ^ 62;lia
 refine nP (f:=LF (cell ns 0)) trivial ((List.range (2+mX (cell ns 0) 48271 3).toNat).map λi=>D.int (0+(i:Nat))) [] _ (by rw[bi,cS];simp only[bZ];lia) (λd hd k hk=>?_) λr1 NJ=>?_
 .obtain⟨i,_,rfl⟩:=bI.mp hd;exact⟨_,_,rfl,by decide,mF rfl,hk⟩
 have e1:[]++((List.range (2+mX (cell ns 0) 48271 3).toNat).map λi=>D.int (0+(i:Nat))).map (LF (cell ns 0))=(oY (cell ns 0)).map n9:=by rw[ci,ep,cx,cx];rfl
 rw[e1];obtain⟨M1,e0,s1,a1⟩:=yR (ds:=(oY (cell ns 0)).map n9) NJ;rw[<-e0];refine mH a1 (nP (f:=xV) a1 _ [] _ (by rw[bi];simp only[bZ];lia) (λd hd k hk=>?_) λo ho=>?_)
 .obtain⟨x,_,rfl⟩:=bI.mp hd;exact hk
 rw[ci,sS,eo];obtain⟨M2,e0,t2,bo⟩:=yR (ds:=(pG (cell ns 0)).map D.str) ho;rw[<-e0];have s2:=s1.trans t2;have b1:=t2.lst a1;clear e1 t2;refine⟨_,_,rfl,mH bo λx3 hx3=>?_⟩;refine mH mP ⟨mF rfl,mF rfl,λx5 hx5=>⟨by decide,mH mP λr2 hr2=>?_⟩⟩;have eg':L3.qM [.tup [.str (word (cell ns 0) 8),.str "all",.tup (L3.qM ((pG (cell ns 0)).map D.str) none (some 2))]] none (some (cell ns 0 % 2))=(nY (cell ns 0)).map oG:=by rw[FY,Fv ol.1,eg];split<;>rfl
 rw[eg'];have t3:=((nW.new (c:=.lst (L3.qM ((pG (cell ns 0)).map D.str) none (some 2))) hx3).trans (.new (c:=.lst [.tup [.str (word (cell ns 0) 8),.str "all",.tup (L3.qM ((pG (cell ns 0)).map D.str) none (some 2))]]) hx5)).trans (.new (c:=.lst ((nY (cell ns 0)).map oG)) hr2);have c2:=@mP (mL (mL M2 x3 (.lst (L3.qM ((pG (cell ns 0)).map D.str) none (some 2)))) x5 (.lst [.tup [.str (word (cell ns 0) 8),.str "all",.tup (L3.qM ((pG (cell ns 0)).map D.str) none (some 2))]])) r2 ((nY (cell ns 0)).map oG);have c1:=t3.lst b1;have co:=t3.lst bo;have s3:=s2.trans t3;generalize mL (mL (mL M2 x3 (.lst (L3.qM ((pG (cell ns 0)).map D.str) none (some 2)))) x5 (.lst [.tup [.str (word (cell ns 0) 8),.str "all",.tup (L3.qM ((pG (cell ns 0)).map D.str) none (some 2))]])) r2 (.lst ((nY (cell ns 0)).map oG))=M3 at s3 c1 c2 co ⊢;clear t3 hr2 hx5 hx3 eg';refine mH c2 (nP (f:=xV) c2 _ [] _ (by rw[bi];simp only[bZ];lia) (λd hd k hk=>?_) λx4 hx4=>?_)
 .obtain⟨x,_,rfl⟩:=bI.mp hd;exact hk
 rw[ci,tf];have t4:=nW.new (c:=.lst (((nY (cell ns 0)).map (·.1)).map D.str)) hx4;refine mH (t4.lst co) (mH mP ⟨?_,λn hn=>?_⟩)
 .rw[bi,bi,bi];lia
 have en':(pG (cell ns 0)).map D.str++((nY (cell ns 0)).map (·.1)).map D.str=(pO (cell ns 0)).map D.str:=by rw[en,b5]
 rw[en'];have t5:=t4.trans (nW.new (c:=.lst ((pO (cell ns 0)).map D.str)) hn);have en5:=@mP (mL M3 x4 (.lst (((nY (cell ns 0)).map (·.1)).map D.str))) n ((pO (cell ns 0)).map D.str);have f1:=t5.lst c1;have f2:=t5.lst c2;have fo:=t5.lst co;have s5:=s3.trans t5;generalize mL (mL M3 x4 (.lst (((nY (cell ns 0)).map (·.1)).map D.str))) n (.lst ((pO (cell ns 0)).map D.str))=M5 at s5 f1 f2 fo en5 ⊢;clear c1 c2 co b1 bo a1 t4 t5 s1 s2 s3 en' ep NJ ho hx4 hn d0 d1;have one:pG (cell ns 0)≠[]:=λz=>by rw[z]at ol;exact absurd ol.1 (by decide)
 generalize hown:pG (cell ns 0)=own at *;generalize hnn:pO (cell ns 0)=nm at *;have d0:=nQ (c:=cell ns 0) (f:=1664525) (m:=17) (by decide);have d1:=nG (c:=cell ns 0) (f:=1664525) (m:=17) (by decide);refine⟨mF rfl,λr3 hr3=>?_⟩;have t6:=nW.new (c:=.lst []) hr3;have g3:=@mP M5 r3 [];have nn:n≠r3:=λz=>by have:=mZ en5;rw[z,hr3]at this;cases this
 have no:o≠r3:=λz=>by have:=mZ fo;rw[z,hr3]at this;cases this
 have f3:=t6.lst en5;have f4:=t6.lst fo;have k6:nW M (mL M5 r3 (.lst [])):=s5.trans t6;have nr:M r3=none:=s5.none hr3;generalize hM6:mL M5 r3 (.lst [])=M6 at f3 f4 k6 g3 t6 ⊢;dsimp only[qY];refine KS (t:=IU _ _ _) (λU M7=>rR r3 M6 M7/\ma M7 r3=some ((qH ns (Jf (cell ns 0))).map pY)/\∃x1 x2 x3,U=[some (.rl (ns.map D.int)),some (.int (cell ns 0)),some (.ref r1),some (.ref o),some (.ref r2),some (.ref n),some (.ref r3),x1,x2,x3,none,none,none,none,none,none,none]) (λnx2 OL=>?_) ?_
 .refine⟨_,_,_,rfl,by decide,rfl,⟨?_,?_⟩,?_⟩
  .show -(2 ^ 62)<=mX (cell ns 0) 1664525 17;lia
  .show mX (cell ns 0) 1664525 17<2 ^ 62;lia
  refine rV ((List.range (Jf (cell ns 0))).map λi=>D.int (0+(i:Nat))) (λpre U M'=>rR r3 M6 M'/\ma M' r3=some ((qH ns pre.length).map pY)/\∃x1 x2 x3,U=[some (.rl (ns.map D.int)),some (.int (cell ns 0)),some (.ref r1),some (.ref o),some (.ref r2),some (.ref n),some (.ref r3),x1,x2,x3,none,none,none,none,none,none,none]) (λp U M' j=>trivial) _ [] _ _ rfl ⟨λ_ _ _ h=>h,g3,none,none,none,rfl⟩ ?_ ?_
  .rintro pre d post e U M' ⟨kp,lr,x1,x2,x3,rfl⟩ nx MV
   obtain⟨rfl,Mr⟩:=DE e;have Mr:pre.length<(mX (cell ns 0) 1664525 17).toNat:=Mr;generalize hi:pre.length=i at Mr MV lr ⊢;have c31:B7 31 (0+(i:Int)):=.inl ⟨by decide,by decide⟩;have cm:B7 (31*(0+(i:Int))) (0+(i:Int)):=.inr ⟨by lia,by lia⟩;have ln:=kp.lst nn f3;have lo:=kp.lst no f4;have ec:cell ns (1+(0+(i:Int)))+31*(0+(i:Int))*(0+(i:Int))=rj ns i:=rfl;refine⟨ns,_,rfl,c31,cm,rj ns i,n,nm,rfl,ln,nl.1,by lia,?_⟩;dsimp only[qY];refine KS (t:=JU _ _ _) (λU M2=>M2=M'/\U=[some (.rl (ns.map D.int)),some (.int (cell ns 0)),some (.ref r1),some (.ref o),some (.ref r2),some (.ref n),some (.ref r3),some (.int (0+(i:Int))),some (.int (rj ns i)),some (.tup (tS (rj ns i) own nm).2.told),none,none,none,none,none,none,none]) (λLa hn3=>?_) ?_
   .refine⟨rj ns i,_,_,rfl,by decide,mH rfl (qy (λh=>?_) (λh=>?_))⟩
    .have h:mX (rj ns i) 950706376 8=0:=by simpa using h
     refine⟨rj ns i,o,n,own,nm,rfl,lo,ln,one,nl.1,by lia,by lia,hn3 _ _ ⟨rfl,?_⟩⟩;unfold tS;rw[bw h];rfl
    .have h:¬mX (rj ns i) 950706376 8=0:=by simpa using h
     refine hn3 _ _ ⟨rfl,?_⟩;unfold tS;rw[bq h];rfl
   rintro U M2 ⟨rfl,rfl⟩
   refine⟨by show(ma M2 r3).isSome=true;rw[lr];rfl,_,_,_,rfl,by decide,mF rfl,mH lr ⟨?_,?_⟩⟩
   .unfold qH;rw[bi,bi,cS];lia
   .refine MV _ _ ⟨kp.trans .put,?_,_,_,_,rfl⟩;rw[mP,bz,hi];show some (_++[pY (tS (rj ns i) own nm)])=_;rw[wn];simp only;rw[Df (λi=>tS (rj ns i) own nm)];rfl
  .rintro U M' ⟨kp,lr,x1,x2,x3,rfl⟩
   rw[bi,cS]at lr;exact OL _ _ ⟨kp,lr,_,_,_,rfl⟩
 rintro U M7 ⟨kp,lr,x1,x2,x3,rfl⟩
 have no:∀{x:Addr} {ds:T0 D},ma M5 x=some ds->ma M7 x=some ds:=λ{x ds} h=>kp.lst (λz=>by have:=mZ h;rw[z,hr3]at this;cases this) (t6.lst h);have g1:=no f1;have g2:=no f2;have gn:=no en5;have s7:nW M M7:=λb c h=>kp b c (λz=>by rw[z,nr]at h;cases h) (k6 b c h);clear no kp f1 f2 fo en5 f3 f4 k6 t6 g3 hM6 hr3 s5 nn d0 d1;refine λp hp=>?_;have t8:=nW.new (c:=.ins a.e []) hp;refine⟨p,r1,r2,r3,vt ns,rfl,mN,t8.lst g1,t8.lst g2,t8.lst lr,po,λM0 kp pa _=>⟨rfl,?_⟩⟩;have sm:nW M7 M0:=λb c h=>kp b c (IG h hp) (t8 b c h);have hn:=sm.lst gn;have hr:=sm.lst lr;have s0:=s7.trans sm;clear g1 g2 gn lr t8 kp hp s7 sm;have hr:ma M0 r3=some ((vt ns).lh.map pY):=hr;have hnL:nm=(vt ns).nm:=hnn.symm;have l16:=po.my;clear hown hnn wn eg eo en MA hnm one ol pl gl;generalize vt ns=L at *;subst hnL;refine⟨mF rfl,mH hr (rW (L.lh.map pY) (λpre acc U M'=>M'=M0/\acc=((L.lh.take pre.length).filterMap λw=>if w.1 then w.2.lD else none).map qA/\∃x y,U=[x,y,some (.tup EK)]) (λ_ _ _ _ j=>by rw[j.1];exact hr) _ [] [] _ _ rfl (by rw[bi];simp only[bZ];lia) ⟨rfl,rfl,none,none,rfl⟩ (λpre d post e acc U M' j k k2 hk M8=>?_) λacc U M' j pq hpq=>?_)⟩
 .obtain⟨rfl,rfl,x,y,rfl⟩:=j;obtain⟨v,hv,rfl⟩:=Al e;have Na:=FU (f:=λw:oQ=>if w.1 then w.2.lD else none) hv;have el:(pre++[pY v]).length=pre.length+1:=by simp
  refine⟨rfl,qy (λh=>?_) (λh=>?_)⟩
  .have h:v.1=true:=h;refine mH (IH v.2) (mH rfl ⟨rfl,rfl,?_⟩);show if inD (.str v.2.word) EK=true then _ else _
   rw[Gj];simp only[h,gi]at Na;cases ew:v.2.lD with
   | none=>rw[ew]at Na;refine FB (M8 _ _ ⟨rfl,?_,_,_,rfl⟩);rw[el,Na,Option.toList_none,bY]
   | some pr=>rw[ew]at Na;refine Iz (mH (A6 ew).1 (mH (A6 ew).2 ⟨mF rfl,hk _ _ _ ⟨rfl,?_,_,_,rfl⟩⟩));rw[el,Na,b5];rfl
  .have h:v.1=false:=by simpa using h
   simp only[h]at Na;refine M8 _ _ ⟨rfl,?_,_,_,rfl⟩;rw[el,Na];show _=List.map qA (_++[]);rw[bY]
 obtain⟨rfl,rfl,x,y,rfl⟩:=j;have ept:List.filterMap (λw:oQ=>if w.1 then w.2.lD else none) (L.lh.take (L.lh.map pY).length)=pj L:=by rw[bi,dq];rfl
 rw[ept];obtain⟨M9,e0,t9,hq9⟩:=yR (ds:=(pj L).map qA) hpq;rw[<-e0];have hn9:=t9.lst hn;have hr9:=t9.lst hr;have pa9:=pa.sub t9;have s9:=s0.trans t9;clear t9 hn pa s0 hpq ept;refine⟨n,L.nm,rfl,hn9,by lia,by lia,λk=>bQ (DN nl.2 k) (by decide),zQ nl.2,λq1 ts M10 s10 rn pm pw=>?_⟩;obtain⟨_,ps,l1,Od,_,_,rp⟩:=rn;have hq10:=s10.lst hq9;have tb:ts.length<=1000000:=by rw[pm.length_eq];exact zQ nl.2
 refine mH l1 (rW (ps.map D.ref) (λpre acc U M'=>M'=M10/\acc=((ps.take pre.length).filter λq=>p7 (rowAt M10 q) (pj L)).map D.ref/\∃x,U=[x,some (.ref pq)]) (λ_ _ _ _ j=>by rw[j.1];exact l1) _ [] [] _ _ rfl (by rw[bi,rp.len];simp only[bZ];lia) ⟨rfl,rfl,none,rfl⟩ (λpre d post e acc U M' j k k2 hk M8=>?_) λacc U M' j du hdu=>?_)
 .obtain⟨rfl,rfl,x,rfl⟩:=j;obtain⟨v,hv,rfl⟩:=Al e;have Na:=GA (f:=λq=>p7 (rowAt M' q) (pj L)) hv;have el:(pre++[D.ref v]).length=pre.length+1:=by simp
  have hm:v∈ps:=cJ hv;have Mm:(rowAt M' v).length<=100:=by
   have:rowAt M' v∈ts:=by rw[<-rp.rows];exact bI.mpr ⟨v,hm,rfl⟩
   have:=(uf.mp (pm.mem_iff.mp this)).1;have:=pW this.nd this.sub;lia
  refine⟨v,pq,rowAt M' v,pj L,rfl,rp.rowAt hm,hq10,Mm,qy (λh=>?_) (λh=>?_)⟩
  .have h:p7 (rowAt M' v) (pj L)=true:=h;refine hk _ _ _ ⟨rfl,?_,_,rfl⟩;rw[el,Na,bw h,b5];rfl
  .have h:¬p7 (rowAt M' v) (pj L)=true:=h;refine M8 _ _ ⟨rfl,?_,_,rfl⟩;rw[el,Na,bq h,bY]
 obtain⟨rfl,rfl,x,rfl⟩:=j;have rf:=rE (f:=λr=>p7 r (pj L)) rp;rw[bi,dq];generalize (ps.filter λq=>p7 (rowAt M' q) (pj L))=dp at rf ⊢;have fd:∀{gs rs},Hr L gs->rs.Perm (L.nm.flatMap λx=>nX gs 12 [x])->rs.Pairwise (λr t=>su t r=false)->rs=ts.filter λr=>p7 r (pj L):=λgo p1 w1=>BW po go Ci p1 w1 pm pw;have fb:(ts.filter λr=>p7 r (pj L)).length<=1000000:=bQ (jm ..) tb;have fs5:∀r∈(ts.filter λr=>p7 r (pj L)),r.length<=5:=λr hr=>by have:=(uf.mp (pm.mem_iff.mp (eZ.mp hr).1)).1;have:=pW this.nd this.sub;lia
 generalize (ts.filter λr=>p7 r (pj L))=dr at rf fd fb fs5;obtain⟨M11,e0,t11,hd11⟩:=yR (ds:=dp.map D.ref) hdu;rw[<-e0];have rf11:=rf.mono λq _ c e=>t11 q c e;have s11:=s10.trans t11;have hr11:=s11.lst hr9;have Pf:=pa9.sub s11;have sM:=s9.trans s11;clear t11 rf s11 s10 hq10 hr9 pa9 hn9 hq9 s9 hdu l1 rp Od pm pw tb;refine⟨p,L,rfl,Pf,po,λq2 gs rs M12 go s12 rn p12 w12=>?_⟩;cases fd go p12 w12;obtain⟨qf,fs,l2,nd2,nq,fr,rp⟩:=rn;have OE:=Dn l2;refine mH OE ⟨λC z=>(by cases z),mH G.aC (FB ?_)⟩;have rl:fs.length<=1000000:=by rw[rp.len];exact fb
 refine mH l2 (nP (f:=λ_=>D.bl true) l2 _ [] _ (by rw[bi];simp only[bZ];lia) (λd hd k hk=>?_) λc3 hc3=>?_)
 .obtain⟨f,hf,rfl⟩:=bI.mp hd;exact mH (Dn (rp.rowAt hf)) ⟨λC z=>(by cases z),mH G.aC hk⟩
 rw[ci];refine mH mP (mH (tU (λ_=>true) (fs.map D.ref)) ?_);have Nl:((fs.map D.ref).map λ_=>true).all id=true:=by rw[fX];exact ck.mpr λ_ _=>rfl
 rw[Nl];obtain⟨M13,e0,t13,_⟩:=yR (ds:=(fs.map D.ref).map λ_=>D.bl true) hc3;rw[<-e0];have s13:=s12.trans t13;have l13:=t13.lst l2;have OF:=rp.mono λq _ c e=>t13 q c e;have qf13:=qf;refine FB ?_;have hd13:=s13.lst hd11;have rf13:=rf11.mono λq _ c e=>s13 q c e;refine mH (zr l13 hd13 OF rf13) (FB ?_);clear t13 hc3 rp l2 OE s12 Nl;dsimp only[La];refine KS (t:=IU _ _ _) (λU M14=>(∀b c,b∉fs->M13 b=some c->M14 b=some c)/\∃x,U=[some (.rl (ns.map D.int)),some (.int (cell ns 0)),some (.ref r1),some (.ref o),some (.ref r2),some (.ref n),some (.ref r3),x1,x2,x3,some (.ref p),some (.tup EK),some (.ref pq),some (.ref du),some (.ref q2),x,none]) (λnx2 OL=>?_) ?_
 .refine mH l13 ?_;refine rV (fs.map D.ref) (λpre U M'=>((∀b c,b∉fs->M13 b=some c->M' b=some c)/\∀f∈fs,∃xs,ma M' f=some xs/\xs.length<=5+pre.length)/\pre.length<=fs.length/\∃x,U=[some (.rl (ns.map D.int)),some (.int (cell ns 0)),some (.ref r1),some (.ref o),some (.ref r2),some (.ref n),some (.ref r3),x1,x2,x3,some (.ref p),some (.tup EK),some (.ref pq),some (.ref du),some (.ref q2),x,none]) (λp U M' j=>?_) _ [] _ _ rfl ⟨⟨λ_ _ _ h=>h,λf hf=>⟨_,OF.rowAt hf,?_⟩⟩,cu _,none,rfl⟩ ?_ ?_
  .exact pA (j.1.1 q2 _ nq (mZ l13))
  .have:rowAt M13 f∈dr:=by rw[<-OF.rows];exact bI.mpr ⟨f,hf,rfl⟩
   rw[bi];exact fs5 _ this
  .rintro pre d post e U M' ⟨⟨kp,ko⟩,MA,x,rfl⟩ nx MV
   obtain⟨v,hv,rfl⟩:=Al e;have hm:v∈fs:=cJ hv;obtain⟨xs,hx,hxl⟩:=ko v hm;have Mr:pre.length<fs.length:=(bL.mp hv).1;refine⟨by show(ma M' v).isSome=true;rw[hx];rfl,mH hx ⟨by lia,MV _ _ ⟨⟨λb c hb h=>?_,λf hf=>?_⟩,?_,_,rfl⟩⟩⟩
   .rw[nw (λz:b=v=>hb (z ▸ hm))];exact kp b c hb h
   .by_cases ef:f=v
    .subst ef;refine⟨_,mP,?_⟩;rw[bz,bz,cF,cF];lia
    .obtain⟨ys,hy,hyl⟩:=ko f hf;refine⟨ys,pA (by rw[nw ef];exact mZ hy),?_⟩;rw[bz];lia
   .rw[bz,cF];lia
  .rintro U M' ⟨⟨kp,_⟩,_,x,rfl⟩
   exact OL _ _ ⟨kp,_,rfl⟩
 rintro U M14 ⟨kp,x,rfl⟩
 have s14:nW M11 M14:=λb c h=>kp b c (λz=>by rw[fr b z]at h;cases h) (s13 b c h);have l14:=pA (kp q2 _ nq (mZ l13));clear kp s13 l13 OF hd13 rf13;refine⟨by show(ma M14 q2).isSome=true;rw[l14];rfl,mF rfl,λe0 he0=>?_⟩;have t15:=nW.new (c:=.lst []) he0;refine mH (t15.lst l14) ⟨by rw[bi];lia,?_⟩;have s15:nW M11 (mL (mL M14 e0 (.lst [])) q2 (.lst (fs.map D.ref++[.ref e0]))):=oT (s14.trans t15) qf;generalize mL (mL M14 e0 (.lst [])) q2 (.lst (fs.map D.ref++[.ref e0]))=M15 at s15 ⊢;clear t15 he0 s14 l14 nd2 nq fr;have pa15:=Pf.sub s15;have hr15:=s15.lst hr11;have pa0:=pa15;obtain⟨ph,gr,ws,on,pr,gd,rs,i1,h2,h3,h4,h5,h6,h7,h8⟩:=pa0;have rsl:rs.length=L.lh.length:=h8.1;refine mV i1 (mH rfl (mH h4 ?_));refine nP (f:=Ei M15) h4 _ [] _ (by rw[bi];simp only[bZ];lia) (λd hd k hk=>?_) λc2 hc2=>?_
 .obtain⟨r,hr,rfl⟩:=bI.mp hd;obtain⟨i,hi,e⟩:=fP hr;have hv:L.lh[i]?=some L.lh[i]:=bF (by lia);have c:=h8.2 i r _ (by rw[bF hi,e]) hv;rw[A7 c]at hk;exact mV c ⟨by cases(L.lh[i]).2<;>rfl,xq a,⟨⟨_,rfl⟩,rfl⟩,r,_,rfl,c,hk⟩
 rw[ci,zC h8];obtain⟨M16,e0,u2,b2⟩:=yR (ds:=L.lh.map λw=>D.tup w.2.told) hc2;rw[<-e0];have s16:=s15.trans u2;have Ph:=u2.lst hr15;refine mH Ph (rJ (f:=He) (λU=>∃x y,U=[x,y]) Ph _ [] _ ⟨none,none,rfl⟩ (by rw[bi];simp only[bZ];lia) (λd hd U hj k hk=>?_) λc3 hc3=>?_)
 .obtain⟨x,y,rfl⟩:=hj;obtain⟨v,_,rfl⟩:=bI.mp hd;exact⟨rfl,hk _ ⟨_,_,rfl⟩⟩
 rw[ci,Ej];have u3:=nW.new (c:=.lst (L.lh.map λw=>D.tup w.2.told)) hc3;have q4:sA (mL M16 c3 (.lst (L.lh.map λw=>D.tup w.2.told))) 9 (.ref c2) (.ref c3)=some true:=xg (u3.lst b2) mP (λd hd=>by obtain⟨x,_,rfl⟩:=bI.mp hd;exact vQ 7 _ (Cz x.2 5));have s17:=s16.trans u3;generalize mL M16 c3 (.lst (L.lh.map λw=>D.tup w.2.told))=M17 at q4 s17 ⊢;refine mH q4 ?_;clear u2 u3 b2 q4 hc2 hc3 Ph h2 h3 h4 h5 h6 h7 h8 i1 s16 s15 pa15 hr15;refine⟨p,L,rfl,Pf.sub s17,po,λq3 gs' rs' M18 go' s18 rn' p18 w18=>?_⟩;cases fd go' p18 w18;obtain⟨_,fs',l18,_,_,_,rp18⟩:=rn';have Pi:=s17.trans s18;refine mH (x:=D.ref du) rfl (mH (zr l18 (Pi.lst hd11) rp18 (rf11.mono λq _ c e=>Pi q c e)) ?_);refine Iz ⟨M,sM.trans Pi,q⟩
end Z
end
structure PySem.W.Fast:Prop where(tw8735431447326865598 tw7416802830462917110 tw6064156805554830495 tw5906128077362552027 tw5098407644495143538 tw4142170742441861313 tw3528571240758699232 tw2488178061159945996 tw2389002028709967650 tw1903419340051903789 tw17983071676204611237 tw17138932533979446168 tw16848057026659223809 tw13953534121253732730 tw13668418146639141606 tw13291132432621461171 tw11900447830764769512 tw10792154272787793890 tw10513755200295476129 tw10468300506094918923 tw1038050196321478205 tw10024525708974453602 tw903145161909722512 tw15091916248890264174 tw4188865341808104113 tw18338481053460792424 tw18234145979066923801 tw2887821453130344335 tw2396064020591909000 tw4361396884327099230 tw12340082260958625548 tw13068276581865640907 tw11525638981833899077 tw18180477550209305217 tw188180992016317483 tw14233353257969114892 tw7984303097263934681 tw13859992562901626861 tw2737327682140333354 tw12539110676850042781 tw7045387111544353493 tw373903914405970291 tw3247725582821323962 tw17813610477931415198 tw150998686442343326 tw3917361713044795627 tw10763972995024412705 tw6863378583649511529 tw9553395633008989834 tw11582526262862614879 tw14196202157494974650 tw15367339427840503107 tw8715765054401648731 tw14347292430703040064 tw18349882970317002113 tw18408940438662596715 tw5842221394415408425 tw16522114692928075931 tw3382556704579206166 tw9844148784605157784 tw5999944635263187631 tw12505720895026941216 tw17359327244282641707 tw17032849872839385043 tw9800421832920131590 tw7245723705016019110 tw741126178332818610 tw5600597575785053346 tw12495921071214640423 tw16359861079581382288 tw1129091719492210210 tw4330167524115838086 tw1867760995443303439 tw7075889244808787837 tw12000007722378839306 tw7540216997347281603 tw109059052614081374 tw10004450270223576750 tw8408541582833241598 tw2078370937209504196 tw13363991024798597996 tw14236892348151805320 tw14360472377035679909 tw5162681102054183629 tw14321663168593500684 tw4592144664959436216 tw8630303324985839346 tw1182334008124826453 tw14656625538948362884 tw17578480856798878236 tw15511237752853798537 tw12643958453769645873 tw1920315458082446086 tw5195818670182101621 tw16855781598034039853 tw9651145226585703309 tw4464079831941750711 tw1550981286085092565 tw3899022734358127523 tw14772087533411535320 tw17261517559886321987 tw14154961159760328575 tw9870027335440136229 tw12000143791933002285 tw16234619621017681791 tw8161890752821139157 tw1939738846540978132 tw9840307906513577953 tw1495900041876692042 tw17531945343025833576 tw2175858808232104328 tw3750732907244601817 tw1325436285304477133 tw6399840033736809206 tw6118999722212763990 tw10778243023570319055 tw13324055025721151132 tw3020651318173739703 tw10786339441939003362 tw7278443330376729727 tw17905979974669771220 tw8132490885129364892 tw13423390272492722746 tw14583525079555646098 tw10779631302717570575 tw1473407598657882514 tw14621563862662445096 tw1858851486470617827 tw11381923685526882247 tw13851851877569245754 tw15577100390524488900 tw16032553729638342495 tw11444601034196311469 tw13825834112953767506 tw12365906063373369757 tw6191431754105914324 tw9243976617011573236 tw5603158793784752178 tw7616993529355017514 tw4182489877322677074 tw16055297174341637901 tw100914317705425225 tw1644052688298324060 tw6918375481323149080 tw1912858006964315055 tw12874203518782935869 tw10480946508660738441 tw1546894950793469708 tw3561804412406240200 tw13177828432747901441 tw8141797340738149486 tw3378903255883207542 tw16621319194700233586 tw6503269868544826849 tw6541860801030093098 tw2464261059951506102 tw18401468593521213927 tw15528694468516493927 tw8712017408864914629 tw9205756622341469687 tw6381588950570500703 tw17551712248401078380 tw15097670077261312395 tw15814438202253779757 tw10366787276365022143 tw14841583006053868182 tw4658735098148497670 tw2752535569495877679 tw4820404952710678499 tw18274956810238556478 tw864593560756252752 tw8717592244235698262 tw5335332003031602868 tw785878468697755434 tw1790301198958403838 tw13600182276626363903 tw10434908155415002556 tw4852436767266465709 tw5773087379280123557 tw7614369664154868785 tw13758980710850248197 tw13409358873825184130 tw9569452739340232859 tw15297517691439913088 tw3328710523832766529 tw9512707459994200285 tw16257013567227409755 tw5772722827159200650 tw2464001340936350843 tw2861929081572762873 tw16186849315055604879 tw17011571263960618959 tw11326075970663176404 tw5141778900854499789 tw9206135313080864069 tw2810530102014986281 tw11994316372251366318 tw10737429890001107975 tw13532183026772841270 tw624960713541889316 tw8659503705069435820 tw5197811017809364636 tw10777151171250289480 tw4137728107050934833 tw8301523594580708803 tw5011251396881075871 tw10382134426430489601 tw5140899974462588661 tw4261725299300146712 tw8032294511894466430 tw10696453909803779037 tw1751058614320116064 tw6424114148589074117 tw18045743378822359521 tw7766744590936663321 tw15673292392848394789 tw17290754443484040377 tw11344020728780981671 tw9749124188850595166 tw8720144411173318299 tw13759812454972808349 tw4403159888153207898 tw3391846597173199691 tw5497647193420053163 tw970616905085770121 tw7299656362954373714 tw14033521240212347539 tw6854174865148260864 tw4802272376488858533 tw2038306327475136126 tw6420162841876206106 tw5651436024979033339 tw13237131636318955348 tw6141999514889582 tw14519701805011975233 tw653731208460582106 tw6088052895767456762 tw6314213245551391851 tw2900078397722697375 tw14105631995628633814 tw7547275379844125568 tw14641487342486993901 tw7885973832779435497 tw8208638170706364066 tw5159025176782232306 tw18270942996925402667 tw1243713867158217156 tw2553421667887852093 tw4650874656774784539 tw3240461557117155054 tw3007480345531445659 tw1524295014597748970 tw406204778640444447 tw13098373551086286010 tw8320799503059202592 tw13729499559697215249 tw12415330153106135083 tw8027714246067662904 tw18349684685185243064 tw17474371930273607094 tw3849981637405479672 tw9565759252329378392 tw8743889065725384517 tw2874487568951255516 tw3032880552311642215 tw5662799550334072375 tw5158231718117237747 tw17930604530719482134 tw13468657544477293089 tw13198309869921680034 tw13105046344764033548 tw11634101604387382499 tw10833858695184276107 tw10567363258104280399 tw10412044152337543935 tw7488395106248020010 tw13984979430914179605 tw8905459494259376419 tw8864357474220416564 tw16663760832807912923 tw537093541163875023 tw15592961450907294025 tw6334804765293849151 tw3869986780335783404 tw13990854818557097700 tw8616199005099556415 tw9645828462713442943 tw8303058511960282715 tw16198851723156201646 tw580799797127554315 tw5276224256812925231 tw2194384870606198328 tw7677511754577901469 tw6061668293638667346 tw9908470461467441236 tw8306550608403313036 tw10315137775707784461 tw790898156599085555 tw15609753071146163766 tw6714354481039251202 tw4462905524773744718 tw6680275888897360333 tw17272950175574177364 tw6706823839659672625 tw15317025878308209893 tw2752331182549519820 tw17266429478914504694 tw9672434215145490106 tw3435973135940817544 tw14186937316904844587 tw5777886569204515637 tw4778581508102741020 tw15748019388063771356 tw13021450096358695339 tw13191166710619956747 tw17342388469911985362 tw17146175234930452294 tw12619663175200137922 tw8090499108971071280 tw1205239275867052500 tw9830374385535810761 tw4185352821404715861 tw16617959195170795347 tw5897776507361013032 tw9774999292097475172 tw8308778181047729895 tw7876372252947308182 tw5526904494584246776 tw5061622080339018188 tw4150144912211415075 tw3027374090855597934 tw17015321379943382954 tw12640148175214585303 tw11395285558401043905 tw10384387031790473476 tw10519417224636634944 tw3402521364465136168 tw12953974909862099088 tw4856526831594784712 tw16046271010277558248 tw15035570626545153559 tw8411455415908993510 tw16257155364218414743 tw13569038191373589082 tw3199674163439656582 tw13695941426038892090 tw6645341382049538157 tw10472871092254161104 tw10352064340566007829 tw8505958093338000874 tw6483564190676680037 tw4685723152179686914 tw4265986688517396043 tw3463607501644898489 tw291502179714910269 tw2782487928518110072 tw17512488571265738294 tw15670390207003285840 tw14467261961111354320 tw14257694522975030139 tw1329868133752136952 tw8673922389088381784 tw3506141043736783421 tw13524569790192696467 tw11011906325612009380 tw724851633285318040 tw5294471544517303855:True)
open PySem PySem.W PyProof.Rows L2 L3
set_option maxRecDepth 100000 in
set_option maxHeartbeats 0 in
theorem PySem.Challenge.cw_callboard_k34_all_rings_holds : PySem.Challenge.rw_callboard_k34_all_rings.Holds := by
 w_on;o_law;k_head;(case hw=>w_witness2)
 k_fill
 refine L3.Es (l:=PySem.Challenge.rw_callboard_k34_all_rings) (sp:=Z.C8) (k:=20) (x:="_law_script") rfl rfl ⟨rfl,by decide,by decide⟩ (λw h Y=>PySem.W.kIn_of Y) (λns hl=>⟨ns,rfl,hl,rfl⟩) ?F;case F=>
  intro w mg fa h KX G hmg;suffices h:∃a:Z.Ad,Z.Gl _ mg a/\∀(s:Shared) (u:Value),BindsTo s a.L.d ⟨[u],[]⟩ [("_law_script",u)]by obtain⟨a,g,hb⟩:=h;have e:=hmg.symm.trans g.L.mg;cases e;exact⟨a.L.d,hb,λbase _ _=>g.L.pe ▸ Z.IK g⟩
  refine'⟨⟨_,_,_,_,_,_,_,_,_,_,_,_,_,_,_,_,_,_,_,_,_,_,_,_,_,_,_,_,_,_,_,_,_,_,_,_,_,_,_,_,_,_,_,_,_,_,_,_,_,_,_⟩,⟨rL KX G ..,rL KX G ..,rL KX G ..,rL KX G ..,rL KX G ..,rL KX G ..,rL KX G ..,rL KX G ..,rL KX G ..,rL KX G ..,rL KX G ..,oU KX G ..,oU KX G ..,oU KX G ..,oU KX G ..,oU KX G ..,oU KX G ..,oU KX G ..,oU KX G ..,oU KX G ..,oU KX G ..,oU KX G ..,oU KX G ..,oU KX G ..,oU KX G ..,oU KX G ..,oU KX G ..,oU KX G ..,oU KX G ..,oU KX G ..,oU KX G ..,oU KX G ..,oU KX G ..,oU KX G ..,oW ..,oW ..,oW ..,oW ..,oW ..,oW ..,oW ..,oW ..,oW ..,oW ..,oW ..,oW ..,oW ..,oW ..,oW ..,oW ..,oW ..,⟨?_,?_,?_,?_⟩,⟨?_,?_,?_,?_⟩,⟨?_,?_,?_,?_⟩,⟨?_,?_,?_,?_⟩,⟨?_,?_,?_,?_⟩,⟨?_,?_,?_,?_⟩,⟨?_,?_,?_,?_⟩,⟨?_,?_,?_,?_⟩,⟨?_,?_,?_,?_⟩,⟨?_,?_,?_⟩,⟨?_,?_,?_⟩,⟨?_,?_,?_⟩,⟨?_,?_,?_⟩,⟨?_,?_,?_⟩,⟨?_,?_,?_⟩,⟨?_,?_,?_⟩,⟨?_,?_,?_⟩,⟨?_,?_,?_⟩,⟨?_,?_,?_⟩,⟨?_,?_,?_⟩,⟨?_,?_,?_⟩,⟨?_,?_,?_⟩,⟨?_,?_,?_⟩,(mQ ?_ (mQ ?_ (mQ ?_ (mQ ?_ (mQ ?_ (mQ ?_ pJ)))))),(mQ ?_ (mQ ?_ (mQ ?_ pJ))),(mQ ?_ (mQ ?_ (mQ ?_ pJ))),(mQ ?_ (mQ ?_ (mQ ?_ pJ))),(mQ ?_ (mQ ?_ (mQ ?_ (mQ ?_ (mQ ?_ pJ))))),(mQ ?_ (mQ ?_ (mQ ?_ pJ))),(mQ ?_ (mQ ?_ (mQ ?_ (mQ ?_ pJ)))),(mQ ?_ (mQ ?_ pJ)),(mQ ?_ (mQ ?_ pJ)),DD,PySem.W.mg_none_of KX G ?_,PySem.W.mg_none_of KX G ?_,PySem.W.mg_none_of KX G ?_,PySem.W.mg_none_of KX G ?_,PySem.W.mg_none_of KX G ?_,PySem.W.mg_none_of KX G ?_,PySem.W.mg_none_of KX G ?_,PySem.W.mg_none_of KX G ?_,PySem.W.mg_none_of KX G ?_,PySem.W.mg_none_of KX G ?_,PySem.W.mg_none_of KX G ?_,qI (PySem.W.mg_of KX G ?_),qI (PySem.W.mg_of KX G ?_),qI (PySem.W.mg_of KX G ?_),qI (PySem.W.mg_of KX G ?_),F5 (PySem.W.mg_of KX G ?_) (pM (ss:=["all","turns"]) ?_ (.cons ⟨_,rfl⟩ (.cons ⟨_,rfl⟩ .nil)) (Nat.le_of_ble_eq_true rfl)),qI (PySem.W.mg_of KX G ?_),qI (PySem.W.mg_of KX G ?_),qI (PySem.W.mg_of KX G ?_),HW (PySem.W.mg_of KX G ?_),Fs (es:=[⟨_,.str "bar" _,.ref _⟩,⟨_,.str "shut" _,.ref _⟩,⟨_,.str "always" _,.ref _⟩,⟨_,.str "night" _,.ref _⟩,⟨_,.str "busy" _,.ref _⟩,⟨_,.str "silent" _,.ref _⟩,⟨_,.str "wait" _,.ref _⟩,⟨_,.str "breaks" _,.ref _⟩]) (PySem.W.mg_of KX G ?_) ?_ ?_ (.cons rfl ⟨_,rfl,(pM (ss:=["phone","names"]) ?_ (.cons ⟨_,rfl⟩ (.cons ⟨_,rfl⟩ .nil)) (Nat.le_of_ble_eq_true rfl))⟩ (.cons rfl ⟨_,rfl,(pM (ss:=["name","phones"]) ?_ (.cons ⟨_,rfl⟩ (.cons ⟨_,rfl⟩ .nil)) (Nat.le_of_ble_eq_true rfl))⟩ (.cons rfl ⟨_,rfl,(pM (ss:=["name","name"]) ?_ (.cons ⟨_,rfl⟩ (.cons ⟨_,rfl⟩ .nil)) (Nat.le_of_ble_eq_true rfl))⟩ (.cons rfl ⟨_,rfl,(pM (ss:=["name","name","hour","hour"]) ?_ (.cons ⟨_,rfl⟩ (.cons ⟨_,rfl⟩ (.cons ⟨_,rfl⟩ (.cons ⟨_,rfl⟩ .nil)))) (Nat.le_of_ble_eq_true rfl))⟩ (.cons rfl ⟨_,rfl,(pM (ss:=["name","name"]) ?_ (.cons ⟨_,rfl⟩ (.cons ⟨_,rfl⟩ .nil)) (Nat.le_of_ble_eq_true rfl))⟩ (.cons rfl ⟨_,rfl,(pM (ss:=["name","name","turns"]) ?_ (.cons ⟨_,rfl⟩ (.cons ⟨_,rfl⟩ (.cons ⟨_,rfl⟩ .nil))) (Nat.le_of_ble_eq_true rfl))⟩ (.cons rfl ⟨_,rfl,(pM (ss:=["phone"]) ?_ (.cons ⟨_,rfl⟩ .nil) (Nat.le_of_ble_eq_true rfl))⟩ (.cons rfl ⟨_,rfl,(pM (ss:=["phone"]) ?_ (.cons ⟨_,rfl⟩ .nil) (Nat.le_of_ble_eq_true rfl))⟩ .nil)))))))),qI (PySem.W.mg_of KX G ?_),qI (PySem.W.mg_of KX G ?_),qI (PySem.W.mg_of KX G ?_)⟩,λs u=>.of_eq rfl⟩
  all_goals try first|k_is|(intro _ _ _ _ _ _ us hl;rcases us with _|⟨_,_|⟨_,_|⟨_,_|⟨_,_|⟨_,_|⟨_,_|⟨_,us⟩⟩⟩⟩⟩⟩⟩<;>first|rfl|(exfalso;revert hl;simp;done))|rfl
