import PyProof.Rows.All
import Wide.All
import OpenK.AllK
import Wide.FinOn
import PyProof.EqAt
import PyProof.EqKinds
import PyProof.TupleCall
import PyProof.AttrMiss
import PyProof.IsiH_list
import PyProof.Rows.SetFrom
import KE.KDictOf
import KE.KTab
import PyProof.AutoListH
import KE.KSortTup
import KE.KItemsList
import KE.KEqDict
import KE.KIntText
import Lean
import PyProof.RulesRaise
import PyProof.RulesTry
import KE.KTryDeep
import KE.KTryMore
import KE.KTryOn
import KE.TryInHelper
import KE.TryLedger
import PyProof.ExcArgsOwn
import PyProof.ExcAttrAll.ValueError
import KE.KIsAll
import PyProof.ExcBaseAll.ValueError
import PyProof.InstStoreFacts
import PyProof.ExcInit
import PyProof.SeqI3
import PyProof.ConsumeWalk
import PyProof.IsRules
import PySem.Challenge.RW_callboard_k14_busy_and_wait
set_option Elab.async false
set_option linter.all false
set_option maxRecDepth 100000
set_option maxHeartbeats 4000000
open List renaming length_map->cV,getElem?_eq_getElem->cX,length_append->cY,getElem?_eq_some_iff->c9,mem_cons->dg,size_toArray->dw,mem_singleton->dz,mem_map->dC,getElem?_map->dD,mem_cons_of_mem->dE,not_mem_nil->dF,mem_cons_self->dG,length_nil->dJ,length_singleton->dO,nodup_cons->dQ,map_append->dS,map_cons->dX,mem_append->dY,nil_append->dZ,length_cons->d9,map_map->eh,length_range->eD,mem_append_right->eF,lookup_cons->eG,replicate_succ->eI,nodup_nil->eJ,all_eq_true->eK,mem_filter->eO,getElem?_append_right->eV,all_cons->eW,append_nil->eZ,getElem?_append_left->e9,take_length->fg,append_assoc->ft,mem_of_getElem?->fu,length_take->fz,cons_ne_nil->fB,length_pos_iff->fC,mem_append_left->fF,getElem?_set_ne->fG,getElem?_set_self->fH,find?_cons->fM,flatten_cons->fP,nodup_append->fQ,getElem_of_mem->fS,mem_of_find?_eq_some->fT,any_cons->fW,foldl_cons->gb,filterMap_cons->gc,filter_sublist->gf,getD_eq_getElem?_getD->gh,exists_cons_of_ne_nil->gi,mem_range->gj,length_modify->gk,length_eq_zero_iff->gv,map_congr_left->gw,length_drop->gx,any_eq_true->gz,find?_eq_none->gC,length_filter_le->gF,take_add_one->gH,getLast?_eq_none_iff->gK,mem_of_getLast?->gL,filter_cons->gN,filter_cons_of_pos->gP,filter_cons_of_neg->gQ,getLast?_cons_cons->gR,filter_map->gX,findIdx?_map->hJ,getElem?_eq_none->hW,getElem_mem->ib,length_set->ij,drop_eq_getElem_cons->ik,getElem?_zip_eq_some->il,getLastD_eq_getLast?->im,contains_cons->iz,filter_append->iB,getElem?_cons_zero->iE,take_of_length_le->iH,findIdx?_eq_some_iff_getElem->iI,length_replicate->iL,getElem?_toArray->iM,map_nil->iP,range_succ->iT,filter_nil->iU,mem_of_mem_take->iV,dropLast_subset->iW,getElem?_modify->iX,map_id->je,sublist_append_right->jv,pairwise_iff_getElem->jw,getLast?_eq_getElem?->jx,findIdx?_eq_none_iff->jy,all_map->jG,drop_length->jI,set_set->jJ,any_map->jM,eq_of_mem_replicate->jN,getElem?_replicate->jO,of_mem_zip->jR,forIn_cons->jS,any_append->jX,find?_some->jY,forIn_nil->j7,drop_zero->kg,set_append_right->kl,mem_of_mem_drop->kx,map_drop->kD,getElem?_range->kF,filter_eq_self->kI,modify_eq_self->kK,mem_filterMap->kP,getElem_range->k9,set_cons_succ->lb,any_eq_false->lj,foldl_append->lu,find?_append->lC,getElem_inj->lK,zipIdx_cons->lU,getElem_map->lY,zipIdx_nil->me,map_take->mv,any_nil->mC,map_set->mD
open PySem renaming wpAny_bind->cW,wpAny_pure->dq,sizeLine_eq->dN,wpAny_mono->eA,wpAny_holding->eU,wpAny_field->fk,wpAny_truthy_bool->fm,wpAny_callSpecial?_slot->fO,wpAny_Call_Name_kw->fU,wpAny_call_entry->fV,wpAny_newObj_type->fX,codeAny_mono->gm,wpAny_seqItems->gy,wpAny_setField_rec->gB,wpAny_passesOwn->gD,mem_of_lookup->gO,wpAny_execs_nil->gS,codeAny_builtin->gU,wpAny_pyIter_list->gZ,wpAny_loadPart_at->g9,wpAny_setField->hZ,wpAny_standAt->ie,wpAny_pyIter_tuple->iy,wpAny_call->iD,plainObj_wpAny_Assign_Attribute->iN,codeAny_call_builtin->iQ,wpAny_updateSeq_pair->iR,isSubtype_type->jc,tupleKind_room_in1->jf,slot_dict_contains->jh,wpAny_onRaise->jm,wpAny_sequenceKey->jo,call_meets->jt,wpAny_execs_cons->jA,wpAny_typeOf->jD,wpAny_comprehension_free->jF,codeAny_of_tree->jU,wpAny_specialOf->jV,builtinLookup_eq_fast->j8,weight_type_call_type->j9,getitemInPython_of_ne->kc,wpAny_rule->kq,wpAny_letTemporaryGo->kt,plainId_quiet->kB,wpAny_isSubtype_exc->kH,concat_meets->kQ,seqIndex_neg->kT,wpAny_assign_Name->lh,slot_list_getitem->ls,slot_dict_getitem->ly,wpAny_pyIter_enum->lz,seqIndex_of->lE,wpAny_letGo->lF,wpAny_pyHash_str->lH,wpAny_eqBool_int->lJ,wpAny_lookBehind->lL,pastItsLine_dict->lM,noFill_tuple_add->lO,check_set_init_1->lT,wpAny_pyIter_zip->lW,wpAny_Name->lZ,typeIs_int->l0
def cZ:=@if_neg
def df:=@if_pos
def dW:=@decide_eq_true
def eB:=@decide_eq_true_eq
def eN:=@decide_eq_false
def eX:=@congrArg
def eY:=@or_false
def fh:=@beq_self_eq_true
def fj:=@beq_iff_eq
def fK:=@of_decide_eq_true
def fN:=@not_or
def fR:=@beq_eq_false_iff_ne
def jb:=@if_true
def ko:=@if_false
def lB:=@bne_self_eq_false
open PySem.Heap renaming get?_push_of_some->de,lt_size->dA,get?_push_size->dI,size_push->fv,get?_update_self->fL,get?_update_other->gg,get?_none_of_le->gJ,get?_push_ne->iG,size_update->iK,get?_update_ne->iZ
open Option.some renaming inj->dh,injEq->jq
open Nat renaming le_refl->dv,ne_of_lt->dM,lt_of_lt_of_le->dR,le_trans->d6,zero_le->eL,lt_irrefl->fi,lt_succ_self->fJ,lt_succ_of_lt->fY,ne_of_gt->gM,le_succ->gY,sub_self->h9,succ_le_succ->ic,lt_trans->ip,lt_of_le_of_lt->iC,le_add_right->iJ,le_succ_of_le->jr,le_of_lt->jz,le_of_not_lt->jE,mul_le_mul->ke,sub_zero->kW,min_eq_left->mh,le_of_eq->mx,succ_mul->mz,zero_add->mB,succ_pos->mE
open Bool renaming false_ne_true->dB,eq_false_iff->dH,and_eq_true->dU,true_and->eE,false_and->eR,false_or->fE,eq_iff_iff->gp,not_eq_true'->gI,or_eq_true->gW,true_or->hU,or_false->jl,not_eq_false->js,and_eq_true_iff->ky,false_eq_true->kY,or_true->kZ,beq_comm->mo,and_true->mq
open Ne renaming symm->dP
open Int renaming eq_ofNat_of_zero_le->eC,emod_lt_of_pos->eM,emod_nonneg->eP,mul_le_mul_of_nonneg_left->iY,toNat_natCast->jn,emod_add_mul_ediv->kh,zero_add->mF
open PySem.PassesOwn renaming never->eQ
open PySem.F renaming called_set->fA,slot_tuple_iterator_next->gG,slot_list_getattribute->iq,slot_zip_next->iS,args_tuple_iterator_next_1->jd,entry_tuple_iterator_next->ji,slot_dict_getitem->ju,args_tuple_add_2->jC,store_ValueError->jL,entry_tuple_add->jP,slot_dict_items->jQ,slot_tuple_add->j3,excBase_ValueError->ku,entry_type_call->lw,args_zip_next_1->lA,typeCall_set_1->lQ,entry_set_init->lR,entry_zip_next->lV,slot_int_rmul->ma
open PyProof.Rows renaming slot_tuple_getitem->fD,callWith_type1->fZ,callWith_builtin1->gT,SetOf_congr->iu,setObjOf_fresh->jg,subscriptTail_builtinR->j4,listUpdate_at->kC,entry_tuple_getitem->kE,args_tuple_getitem->kS,seqEpoch_at->lG,size_push'->mf
open PySem.W renaming kia_one->gq,callWith_K->iO,methodCall_KW->jW,plainGet_of->kz,looks_clsIn->kA,kitx_list->lD,cellsFrom_some->lN,looks_findIn->mi
open List.cons renaming inj->gu
open PyProof.Rows.F renaming plain_set_update_loop->gA,entry_set_update_loop->ir
open PySem.Around renaming under_plainId->ia,under_plain->kU
open Array renaming getElem?_setIfInBounds_self_of_lt->ig,length_toList->ii,toList_append->ja,size_setIfInBounds->jK,mem_toList_iff->km,append_assoc->kO
open PySem.Calls renaming spliced_cons->io,spliced_nil->iF,Name_function_global->jk,callWith_builtin->j5
open PySem.Code renaming quiet_builtin->iw
open List.Nodup renaming sublist->iA
open PySem.Paired renaming length->jj,snoc->mH
open Option renaming isSome_map->jp,isSome_iff_exists->jB,map_some->jT,map_eq_some_iff->j6,getD_none->lP,bind_some->lX
open Sum.inr renaming inj->jZ
open PySem.Walks renaming list->kr
open PySem.Heap.SameBut renaming update->kG
open PySem.SeqAt.EqAt renaming int_str->kM,str_int->kN
open PySem.Obj renaming data_mapFields->kX
open PySem.Heap.Ns1 renaming of_empty->lq
open Eq renaming symm->mj
open PySem.W.Looks renaming here->mw
open Prod renaming ext->my
open PySem.Heap.FunFrames renaming of_keeps->mG
open PySem.Moved renaming trans->mI
open PySem.Heap.IsSliceOf renaming new->mJ
abbrev qu:=PySem.W.Frag
local macro_rules | `(tactic| walk_at "l") => `(tactic| (intro _ _ _ h; repeat (first | (obtain ⟨e, _⟩ := h; subst e; rfl; done) | (cases h; rename_i h))))
local macro_rules | `(tactic| walk_at "m") => `(tactic| (intro _ _ _ _ h; repeat (first | (obtain ⟨e, _⟩ := h; subst e; rfl; done) | (cases h; rename_i h))))
abbrev Vl:=PySem.Value
abbrev Sd:=PySem.Shared
abbrev Pg:=PySem.Program
abbrev Ar:=PySem.Around
abbrev Wo:=PySem.World
abbrev QQQ:=List PySem.Str
abbrev QQX:=PySem.Value->PySem.Shared->Prop
abbrev QQY:=List (PySem.Addr×PySem.Obj)
abbrev QQZ:=PySem.Str->Option PySem.Value
abbrev QXQ:=List PySem.Addr
section
open PySem PySem.Spec PyProof.Rows
namespace L2
def x5{α:Sort u}{β:Sort v}{p q r:α->β->Prop}{C:Prop}(h:∃a b,p a b/\q a b/\r a b)(f:∀a b,p a b->q a b->r a b->C):C:=by obtain⟨a,b,h1,h2,h3⟩:=h;exact f a b h1 h2 h3
abbrev qW:=Sum Int Str
def BI:qW->Vl->Bool
 | .inl k,v=>Value.isInt k v
 | .inr x,v=>Value.isStrOf x v
def U5(w:Wo):qW->Int
 | .inl k=>hashInt k
 | .inr x=>hashStr w x
def rV:∀{k:qW} {v:Vl},BI k v=true->(∃i t,k=Sum.inl i/\v=Value.int i t)\/(∃x t,k=Sum.inr x/\v=Value.str x t)
 | .inl i,v,h=>by obtain⟨t,e⟩:=Value.isInt_shape (k:=i) (v:=v) h;exact .inl ⟨i,t,rfl,e⟩
 | .inr x,v,h=>by obtain⟨t,e⟩:=Value.isStrOf_shape (x:=x) (v:=v) h;exact .inr ⟨x,t,rfl,e⟩
def JN(i:Int)(t:Tok):BI (.inl i) (.int i t)=true:=by simp[BI,Value.isInt]
def Ka(x:Str)(t:Tok):BI (.inr x) (.str x t)=true:=by simp[BI,Value.isStrOf]
def Rp(a b:Int):decide ((Sum.inl a:qW)=Sum.inl b)=(a==b):=by
 by_cases e:a=b
 .subst e;simp
 .have h:¬(Sum.inl a:qW)=Sum.inl b:=λq=>e (Sum.inl.inj q);rw[eN h];exact(fR.mpr e).symm
def Q7(a b:Str):decide ((Sum.inr a:qW)=Sum.inr b)=decide (a=b):=by
 by_cases e:a=b
 .subst e;simp
 .have h:¬(Sum.inr a:qW)=Sum.inr b:=λq=>e (jZ q);rw[eN h,eN e]
def Rb(a:Int)(b:Str):decide ((Sum.inl a:qW)=Sum.inr b)=false:=eN (λq=>nomatch q)
def Rg(a:Str)(b:Int):decide ((Sum.inr a:qW)=Sum.inl b)=false:=eN (λq=>nomatch q)
def rq(prog:Pg)(w:Wo):PySem.KeyKind prog w qW where
 is:=BI
 hash:=U5 w
 inj:=λv a b ha hb=>by
  rcases rV ha with⟨i,t,rfl,rfl⟩|⟨x,t,rfl,rfl⟩
  .rcases rV hb with⟨j,u,rfl,e⟩|⟨y,u,rfl,e⟩
   .injection e with e1 _;rw[e1]
   .exact nomatch e
  .rcases rV hb with⟨j,u,rfl,e⟩|⟨y,u,rfl,e⟩
   .exact nomatch e
   .injection e with e1 _;rw[e1]
 byValue:=λk v h=>by rcases rV h with⟨i,t,rfl,rfl⟩|⟨x,t,rfl,rfl⟩<;>rfl
 pyHash:=λhv h=>by
  rcases rV hv with⟨i,t,rfl,rfl⟩|⟨x,t,rfl,rfl⟩
  .exact wpAny_pyHash_int h
  .exact lH h
 eqBool:=λhu hv h=>by
  rcases rV hu with⟨i,t,rfl,rfl⟩|⟨x,t,rfl,rfl⟩
  .rcases rV hv with⟨j,u,rfl,rfl⟩|⟨y,u,rfl,rfl⟩
   .rw[Rp]at h;exact lJ h
   .rw[Rb]at h;exact kM i t y u _ _ _ _ h
  .rcases rV hv with⟨j,u,rfl,rfl⟩|⟨y,u,rfl,rfl⟩
   .rw[Rg]at h;exact kN x t j u _ _ _ _ h
   .rw[Q7]at h;exact wpAny_eqBool_str h
 «strs»:=λk x t v h=>by
  rcases rV h with⟨i,u,rfl,e⟩|⟨y,u,rfl,e⟩
  .exact nomatch e
  .injection e with e1 _
   subst e1;cases v<;>rfl
def GM(prog:Pg)(w:Wo)(i:Int)(t:Tok):(rq prog w).is (.inl i) (.int i t)=true:=JN i t
def Aw(prog:Pg)(w:Wo)(x:Str)(t:Tok):(rq prog w).is (.inr x) (.str x t)=true:=Ka x t
inductive V where
 | mS|bl (b:Bool)|int (i:Int)|str (x:Str)|byt (b:Array UInt8)|flt (b:UInt64)|ref (a:Addr)|ty (n:String)
 deriving DecidableEq
def qJ:V->Vl->Prop
 | .mS,u=>u=Value.none
 | .bl b,u=>u=Value.bool b
 | .int i,u=>∃t,u=Value.int i t
 | .str x,u=>∃t,u=Value.str x t
 | .byt b,u=>∃t,u=Value.bytes b t
 | .flt b,u=>∃t,u=Value.float b t
 | .ref a,u=>u=Value.ref a
 | .ty n,u=>u=Value.type n
abbrev qE:List V->List Vl->Prop:=Paired qJ
def qE.length{xs:List V}{us:List Vl}(r:qE xs us):xs.length=us.length:=jj r
theorem qE.get:∀{xs:List V} {us:List Vl} {i:Nat} {x:V},qE xs us->xs[i]?=some x->∃u,us[i]?=some u/\qJ x u
 | _,_,_,_,.nil,e=>by simp at e
 | _,_,0,_,.cons r _,e=>by simp at e;subst e;exact⟨_,rfl,r⟩
 | _,_,i+1,x,.cons _ t,e=>by obtain⟨u,h1,h2⟩:=qE.get (i:=i) (x:=x) t (by simpa using e);exact⟨u,by simpa using h1,h2⟩
theorem qE.set{x:V}{u:Vl}(r:qJ x u):∀{xs:List V} {us:List Vl} (i:Nat),qE xs us->qE (xs.set i x) (us.set i u)
 | _,_,_,.nil=>.nil
 | _,_,0,.cons _ t=>.cons r t
 | _,_,i+1,.cons q t=>.cons q (qE.set r i t)
theorem qE.append:∀{xs ys:List V} {us ws:List Vl},qE xs us->qE ys ws->qE (xs++ys) (us++ws)
 | _,_,_,_,.nil,s=>s
 | _,_,_,_,.cons r t,s=>.cons r (qE.append t s)
theorem qE.take:∀{xs:List V} {us:List Vl} (n:Nat),qE xs us->qE (xs.take n) (us.take n)
 | _,_,0,_=>.nil
 | _,_,_+1,.nil=>.nil
 | _,_,n+1,.cons r t=>.cons r (qE.take n t)
theorem qE.drop:∀{xs:List V} {us:List Vl} (n:Nat),qE xs us->qE (xs.drop n) (us.drop n)
 | _,_,0,r=>r
 | _,_,_+1,.nil=>.nil
 | _,_,n+1,.cons _ t=>qE.drop n t
def yo:Option V->Option Vl->Prop
 | some v,some u=>qJ v u
 | none,none=>True
 | _,_=>False
def KV{κ:Type}:List (κ×V)->List (κ×Vl)->Prop:=Paired λ(p:κ×V) (q:κ×Vl)=>p.1=q.1/\qJ p.2 q.2
def kV:qW->V
 | .inl i=>.int i
 | .inr x=>.str x
inductive HO where
 | lst (xs:List V)
 | tup (xs:List V)
 | dK (kvs:List (qW×V))|dT (kvs:List (List qW×V))
 | set (S:Int->Bool) (n:Nat)
 | ins (C dx:Addr) (fs:List (Str×V))
 | own (x:Addr)
 | xd (fs:List (Str×V))
 | met (f x:Addr)
 | rng (lo hi:Int)
 | frz (o:Obj) (u:HO)
 | tbl (ps:Array Vl)
 | ext (φ:Heap->Prop)
abbrev Hp:=Addr->Option HO
def upd(H:Hp)(a:Addr)(o:HO):Hp:=λb=>if b=a then some o else H b
def qh{H:Hp}{a:Addr}{o:HO}:upd H a o a=some o:=by unfold upd;rw[df rfl]
def pW{H:Hp}{a b:Addr}{o:HO}(h:b≠a):upd H a o b=H b:=by unfold upd;rw[cZ h]
def PU{H:Hp}{a:Addr}{o u:HO}:upd (upd H a o) a u=upd H a u:=by funext b;unfold upd;split<;>rfl
def TZ{H:Hp}{a b:Addr}{o u:HO}(h:H a=some o)(h':H b=some u)(d:o≠u):a≠b:=by intro e;subst e;rw[h]at h';exact d (dh h')
def qO{H:Hp}{a b:Addr}{o:HO}(h:H a=some o)(h':H b=none):a≠b:=by intro e;subst e;rw[h]at h';cases h'
section
variable (P:Pg)(w:Wo)
def E1(h:Heap)(a:Addr)(its:Array Vl):Prop:=∃o,h.get? a=some o/\o.cls=.type "tuple"/\(∃n,o.data=.seq its n)/\o.dict=none
def sd(H:Hp)(h:Heap)(a:Addr):HO->Prop
 | .lst xs=>xs.length<=sizeLine/\∃(its:List Vl) (n:Nat),qE xs its/\h.get? a=some {cls:=.type "list",data:=.seq its.toArray n}
 | .tup xs=>xs.length<=sizeLine/\∃its:List Vl,qE xs its/\E1 h a its.toArray
 | .dK kvs=>kvs.length<=sizeLine/\(a==sysModules)=false/\∃vs,KV kvs vs/\h.DictOf (rq P w) a vs
 | .dT kvs=>kvs.length<=sizeLine/\(a==sysModules)=false/\∃xs:List (List qW×Addr×Vl),Paired (λ(p:List qW×V) (q:List qW×Addr×Vl)=>p.1=q.1/\H q.2.1=some (.tup (p.1.map kV))/\qJ p.2 q.2.2) kvs xs/\
   ∃o es ep,h.get? a=some o/\o.ExactDict/\o.data=.dict es ep/\es.toList=xs.map (entryOfKey (tupleKind (rq P w)))/\(xs.map (·.1)).Nodup
 | .set S n=>h.SetOf (intKind P w) a S n
 | .ins C dx fs=>H dx=some (.own a)/\fs.length<=1000/\dx≠a/\h.get? a=some (W.instObj C dx)/\
   ∃mA,h.Ns1 dx mA/\(∀f,yo (fs.lookup f) (mA f))/\PySem.Within mA (fs.map (·.1))
 | .own _=>∃o,h.get? a=some o
 | .xd fs=>∃mA,h.Ns1 a mA/\∀f,yo (fs.lookup f) (mA f)
 | .rng lo hi=>∃t u v,h.get? a=some {cls:=.type "range",data:=.fields #[.int lo t,.int hi u,.int 1 v]}
 | .frz o u=>h.get? a=some o/\sd H h a u
 | .tbl ps=>h.get? a=some {cls:=.none,data:=.fields ps}
 | .met f x=>h.get? a=some (W.methodObj (.ref f) (.ref x))
 | .ext φ=>φ h/\(∃o,h.get? a=some o)/\∀h1 h2:Heap,φ h1->(∀o,h1.get? a=some o->h2.get? a=some o)->φ h2
def yl(H:Hp)(h:Heap):Prop:=∀a o,H a=some o->sd P w H h a o
end
variable {H H':Hp}{h h':Heap}
section
variable {P:Pg}{w:Wo}{a:Addr}{o:HO}
def E1.is{its:Array Vl}(x:E1 h a its):IsTup h a its:=let⟨o,e,c,d,_⟩:=x;⟨o,e,c,d⟩
def E1.new(h:Heap)(WI:Array Vl):E1 (h.push {cls:=.type "tuple",data:=.seq WI}) h.objs.size WI:=⟨_,dI _ rfl,rfl,⟨_,rfl⟩,rfl⟩
def sd.lt(x:sd P w H h a o):a<h.objs.size:=by
 cases o with
 | lst xs=>obtain⟨_,_,_,_,e⟩:=x;exact dA e
 | tup xs=>obtain⟨_,_,_,_,e,_⟩:=x;exact dA e
 | dK kvs=>obtain⟨_,_,_,_,o,_,_,e,_⟩:=x;exact dA e
 | dT kvs=>obtain⟨_,_,_,_,o,_,_,e,_⟩:=x;exact dA e
 | set S n=>obtain⟨o,_,_,_,e,_⟩:=x;exact dA e
 | ins C dx fs=>obtain⟨_,_,_,e,_⟩:=x;exact dA e
 | own y=>obtain⟨_,e⟩:=x;exact dA e
 | xd fs=>obtain⟨_,⟨_,_,_,e,_⟩,_⟩:=x;exact dA e
 | rng lo hi=>obtain⟨_,_,_,e⟩:=x;exact dA e
 | frz ob u=>obtain⟨e,_⟩:=x;exact dA e
 | tbl ps=>exact dA (show h.get? a=some _ from x)
 | met f y=>exact dA (show h.get? a=some _ from x)
 | ext φ=>obtain⟨_,⟨_,e⟩,_⟩:=x;exact dA e
theorem Paired.oH{α β:Type}{F G:α->β->Prop}:∀{l₁:List α} {l₂:List β},Paired F l₁ l₂->(∀a b,F a b->G a b)->Paired G l₁ l₂
 | _,_,.nil,_=>.nil
 | _,_,.cons r t,f=>.cons (f _ _ r) (Paired.oH t f)
def sd.nz(x:sd P w H h a o)(k:∀b u,(b=a\/H b=some (.own a))->h.get? b=some u->h'.get? b=some u) (ho:∀b,H b=some (.own a)->H' b=some (.own a)) (ht:∀b xs,H b=some (.tup xs)->H' b=some (.tup xs)):sd P w H' h' a o:=by
 induction o with
 | lst xs=>obtain⟨z,its,n,r,e⟩:=x;exact⟨z,its,n,r,k _ _ (.inl rfl) e⟩
 | tup xs=>obtain⟨z,its,r,ob,e,c⟩:=x;exact⟨z,its,r,ob,k _ _ (.inl rfl) e,c⟩
 | dK kvs=>obtain⟨z,y,vs,r,ob,es,ep,e,c⟩:=x;exact⟨z,y,vs,r,ob,es,ep,k _ _ (.inl rfl) e,c⟩
 | dT kvs=>obtain⟨z,y,xs,r,ob,es,ep,e,c⟩:=x;exact⟨z,y,xs,Paired.oH r λp q z=>⟨z.1,ht _ _ z.2.1,z.2.2⟩,ob,es,ep,k _ _ (.inl rfl) e,c⟩
 | set S n=>obtain⟨ob,es,ep,t,e,c⟩:=x;exact⟨ob,es,ep,t,k _ _ (.inl rfl) e,c⟩
 | ins C dx fs=>obtain⟨d,z,ne,e,mA,⟨od,es,ep,e2,c⟩,r⟩:=x;exact⟨ho _ d,z,ne,k _ _ (.inl rfl) e,mA,⟨od,es,ep,k _ _ (.inr d) e2,c⟩,r⟩
 | own y=>obtain⟨ob,e⟩:=x;exact⟨ob,k _ _ (.inl rfl) e⟩
 | xd fs=>obtain⟨mA,⟨od,es,ep,e,c⟩,r⟩:=x;exact⟨mA,⟨od,es,ep,k _ _ (.inl rfl) e,c⟩,r⟩
 | rng lo hi=>obtain⟨t,u,v,e⟩:=x;exact⟨t,u,v,k _ _ (.inl rfl) e⟩
 | frz ob u ih=>obtain⟨e,q⟩:=x;exact⟨k _ _ (.inl rfl) e,ih q⟩
 | tbl ps=>have e:h.get? a=some {cls:=.none,data:=.fields ps}:=x;show h'.get? a=some {cls:=.none,data:=.fields ps};exact k a _ (.inl rfl) e
 | met f y=>have e:h.get? a=some (W.methodObj (.ref f) (.ref y)):=x;show h'.get? a=some (W.methodObj (.ref f) (.ref y));exact k a _ (.inl rfl) e
 | ext φ=>obtain⟨p,⟨o,e⟩,st⟩:=x;exact⟨st _ _ p λo q=>k _ _ (.inl rfl) q,⟨o,k _ _ (.inl rfl) e⟩,st⟩
def yl.lt(x:yl P w H h)(e:H a=some o):a<h.objs.size:=(x a o e).lt
def yl.fresh(x:yl P w H h)(e:h.objs.size<=a):H a=none:=by
 cases q:H a with
 | none=>rfl
 | some u=>exact absurd (dR (x.lt q) e) (fi _)
def yl.kept(x:yl P w H h)(k:∀b u,h.get? b=some u->h'.get? b=some u):yl P w H h':=λa o e=>(x a o e).nz (λb u _ q=>k b u q) (λ_ q=>q) λ_ _ q=>q
def yl.laid(x:yl P w H h)(k:∀b u,h.get? b=some u->h'.get? b=some u)(hp:h.objs.size<=a)(new:sd P w (upd H a o) h' a o):yl P w (upd H a o) h':=λb u e=>by
 have hn:=x.fresh hp;by_cases hb:b=a
 .subst hb;rw[qh]at e;cases e;exact new
 .rw[pW hb]at e;exact(x b u e).nz (λc v _ q=>k c v q) (λc q=>by rw[pW (qO q hn)];exact q) λc xs q=>by rw[pW (qO q hn)];exact q
end
def Rd(H:Hp)(a:Addr)(u:HO):Prop:=H a=some u\/∃o,H a=some (.frz o u)
def Rd.ok{P:Pg}{w:Wo}{H:Hp}{h:Heap}{a:Addr}{u:HO}(r:Rd H a u)(x:yl P w H h):sd P w H h a u:=by
 rcases r with r|⟨o,r⟩
 .exact x a u r
 .obtain⟨_,q⟩:=x a _ r;exact q
def Ut:Option HO->Prop
 | some (.lst _)=>True
 | some (.dK _)=>True
 | some (.dT _)=>True
 | some (.set _ _)=>True
 | some (.ins _ _ _)=>True
 | some (.ext _)=>True
 | _=>False
variable {o':HO}
section
variable {P:Pg}{w:Wo}{x e:Addr}
def yl.write(ok:yl P w H h)(mu:Ut (H x))(he:e=x\/H e=some (.own x))(k:∀b u,b≠e->h.get? b=some u->h'.get? b=some u)(heo:∃u,h'.get? e=some u) (new:sd P w (upd H x o') h' x o'):yl P w (upd H x o') h':=λb u q=>by
 have nown:∀c y,H c=some (.own y)->c≠x:=λc y r z=>by subst z;rw[r]at mu;exact mu
 have ntup:∀c xs,H c=some (.tup xs)->c≠x:=λc xs r z=>by subst z;rw[r]at mu;exact mu
 by_cases hb:b=x
 .subst hb;rw[qh]at q;cases q;exact new
 .rw[pW hb]at q;by_cases hbe:b=e
  .have q':H b=some (.own x):=by
    rcases he with z|z
    .exact absurd (hbe.trans z) hb
    .rw[hbe];exact z
   rw[q]at q';cases q';obtain⟨v,hv⟩:=heo;exact⟨v,by rw[hbe];exact hv⟩
  .refine(ok b u q).nz (λc v hc r=>k c v ?_ r) (λc r=>by rw[pW (nown c b r)];exact r) λc xs r=>by rw[pW (ntup c xs r)];exact r
   rcases hc with rfl|hc
   .exact hbe
   .rintro rfl
    rcases he with z|z
    .exact nown c b hc z
    .rw[hc]at z;cases z;exact hb rfl
end
structure Un(fs ex:QXQ)(H H':Hp)(h h':Heap):Prop where
 keep:∀b o,h.get? b=some o->H b=none->b∉fs->b∉ex->h'.get? b=some o
 slot:∀b o,h.get? b=some o->H b=none->b∈fs->b∉ex->∃sl,h'.get? b=some {o with slots:=sl}
 free:∀b o,h.get? b=some o->H b=none->b∉ex->H' b=none
 there:∀b o,h.get? b=some o->b∉ex->∃o',h'.get? b=some o'
 nJ:∀b xs,H b=some (.tup xs)->H' b=some (.tup xs)
 nG:∀b o u,H b=some (.frz o u)->H' b=some (.frz o u)
 nL:∀b ps,H b=some (.tbl ps)->∃more,H' b=some (.tbl (ps++more))
variable {ex ex':QXQ}{H1 H2:Hp}{h1 h2:Heap}
section
variable {fs fs':QXQ}{a x e:Addr}{o:HO}
def Un.any(u:Un fs ex H H1 h h1){b:Addr}{ob:Obj}(q:h.get? b=some ob)(n:H b=none)(hx:b∉ex):∃sl,h1.get? b=some {ob with slots:=sl}:=by
 by_cases hb:b∈fs
 .exact u.slot b ob q n hb hx
 .exact⟨ob.slots,u.keep b ob q n hb hx⟩
def Un.trans(a:Un fs ex H H1 h h1)(b:Un fs ex H1 H2 h1 h2):Un fs ex H H2 h h2 where
 keep:=λc ob q n hc hx=>b.keep c ob (a.keep c ob q n hc hx) (a.free c ob q n hx) hc hx
 slot:=λc ob q n hc hx=>by obtain⟨sl,e1⟩:=a.slot c ob q n hc hx;obtain⟨Ya,e2⟩:=b.slot c _ e1 (a.free c ob q n hx) hc hx;exact⟨Ya,e2⟩
 free:=λc ob q n hx=>by obtain⟨o',e1⟩:=a.there c ob q hx;exact b.free c o' e1 (a.free c ob q n hx) hx
 there:=λc ob q hx=>by obtain⟨o',e1⟩:=a.there c ob q hx;exact b.there c o' e1 hx
 nJ:=λc xs q=>b.nJ c xs (a.nJ c xs q)
 nG:=λc ob xs q=>b.nG c ob xs (a.nG c ob xs q)
 nL:=λc ps q=>by obtain⟨m1,e1⟩:=a.nL c ps q;obtain⟨m2,e2⟩:=b.nL c _ e1;exact⟨m1++m2,by rw[e2,kO]⟩
def Un.kept(k:∀b u,h.get? b=some u->h'.get? b=some u):Un fs ex H H h h':=
 ⟨λb ob q _ _ _=>k b ob q,λb ob q _ _ _=>⟨ob.slots,k b ob q⟩,λ_ _ _ n _=>n,λb ob q _=>⟨ob,k b ob q⟩,λ_ _ q=>q,λ_ _ _ q=>q,λ_ ps q=>⟨#[],by rw[q];simp⟩⟩
def Un.refl:Un fs ex H H h h:=Un.kept λ_ _ q=>q
def Un.laid(k:∀b u,h.get? b=some u->h'.get? b=some u)(hp:h.objs.size<=a)(hn:H a=none):Un fs ex H (upd H a o) h h' where
 keep:=λb u q _ _ _=>k b u q
 slot:=λb u q _ _ _=>⟨u.slots,k b u q⟩
 free:=λb u q n _=>by rw[pW (dM (dR (dA q) hp))];exact n
 there:=λb u q _=>⟨u,k b u q⟩
 nJ:=λb xs q=>by rw[pW (qO q hn)];exact q
 nG:=λb u xs q=>by rw[pW (qO q hn)];exact q
 nL:=λb ps q=>⟨#[],by rw[pW (qO q hn),q];simp⟩
def Un.write(mu:Ut (H x))(he:e=x\/H e=some (.own x))(k:∀b u,b≠e->h.get? b=some u->h'.get? b=some u)(heo:∃u,h'.get? e=some u):Un fs ex H (upd H x o) h h':=by
 have hx:∀b,H b=none->b≠x:=λb n z=>by subst z;rw[n]at mu;exact mu
 have hb:∀b,H b=none->b≠e:=λb n z=>by
  subst z;rcases he with r|r
  .exact hx b n r
  .rw[n]at r;cases r
 have hm:∀b u,H b=some u->¬Ut (some u)->b≠x:=λb u q nm z=>by subst z;rw[q]at mu;exact nm mu
 refine⟨λb u q n _ _=>k b u (hb b n) q,λb u q n _ _=>⟨u.slots,k b u (hb b n) q⟩,λb u q n _=>by rw[pW (hx b n)];exact n,λb u q _=>?_,λb xs q=>by rw[pW (hm b _ q λz=>z)];exact q,λb u xs q=>by rw[pW (hm b _ q λz=>z)];exact q,λb ps q=>⟨#[],by rw[pW (hm b _ q λz=>z),q];simp⟩⟩
 by_cases hbe:b=e
 .subst hbe;exact heo
 .exact⟨u,k b u hbe q⟩
end
def UK(h:Heap)(H:Hp):QXQ:=(List.range h.objs.size).filter λa=>(H a).isSome
def Ft(h:Heap)(H:Hp):Heap:=W.hideAll h (UK h H)
def Ko(h:Heap)(H:Hp):(Ft h H).objs.size=h.objs.size:=W.hideAll_size _ _
def ML{h:Heap}{H:Hp}{b:Addr}{o:Obj}(e:h.get? b=some o)(n:H b=none):(Ft h H).get? b=some o:=
 W.hideAll_get _ e λhm=>by have q:(H b).isSome=true:=(eO.mp hm).2;rw[n]at q;simp at q
def PJ{h:Heap}{H:Hp}{b:Addr}{o:Obj}(e:(Ft h H).get? b=some o):h.get? b=some o/\H b=none:=by
 have e':h.get? b=some o:=W.of_hideAll (UK h H) e;refine⟨e',?_⟩;cases q:H b with
 | none=>rfl
 | some x=>have hm:b∈UK h H:=eO.mpr ⟨gj.mpr (dA e'),by simp[q]⟩;have z:(Ft h H).get? b=none:=W.hideAll_none (UK h H) hm;rw[z]at e;cases e
structure Mod(K:qu)(mg:QQZ)(base:Heap):Prop where
 oC:K.In base
 glob:base.Ns mainGlobals mg
 blt:∃mb,base.Ns builtinsNs mb/\∀x:Str,x≠"__name__"->mb x=bootBuiltins x
 nolimit:base.NoLimit
structure Cx where
 prog:Pg
 w:Wo
 K:qu
 mg:QQZ
 base:Heap
 A:Ar
 N:QQQ
 s₀:Sd
 H₀:Hp
 env:Env
 outer:List Env
 stack:List Env
 ex:QXQ
 fn:Str->Bool
 calm:Bool
 pn:QQY
 xe:QQX
abbrev Bb(X:Cx)(e:Expr)(es:List Expr):Prop:=starEach (e::es) X.env=(false,eval e X.env)::starEach es X.env
abbrev CH(X:Cx)(p:Pos)(es:List Expr):Prop:=(backTo p (starEach es X.env)).any (·.1)=false
abbrev yU(x:Str):Prop:=(x==("__debug__":Str))=false
abbrev Nq(X:Cx)(x:Str):Prop:=X.fn x=true\/X.env.scope.names.lookup x=some .local
def we(l:List Env):QXQ:=l.filterMap (·.frame)
abbrev Cx.fs(X:Cx):QXQ:=we X.outer
def Ud(sc:Scope)(x:Str):Prop:=sc.names.lookup x=some .local\/sc.names.lookup x=some .cell\/sc.names.lookup x=some .free
def Lc(sc:Scope)(x:Str):Prop:=sc.names.lookup x=some .local\/sc.names.lookup x=some .cell
def Vg(env:Env)(h:Heap)(m:QQZ)(x:Str)(u:Vl):Prop:=
 (env.kindOf x=some .local/\m x=some u)\/((env.kindOf x=some .cell\/env.kindOf x=some .free)/\∃c,env.cells.lookup x=some c/\h.IsCell c (some u))
structure Cx.Ok(X:Cx):Prop where
 mod:Mod X.K X.mg X.base
 kind:X.env.scope.kind=.function
 glob:X.env.globals=mainGlobals
 blt:X.env.builtins=builtinsNs
 above:X.s₀.heap.objs.size<=X.env.locals
 inj:∀x y c,X.env.cells.lookup x=some c->X.env.cells.lookup y=some c->x=y
 has:∀x,(X.env.kindOf x=some .cell\/X.env.kindOf x=some .free)->∃c,X.env.cells.lookup x=some c
 oG:∀x c,X.fn x=true->X.env.cells.lookup x=some c->X.s₀.heap.objs.size<=c
 hd:X.calm=true->X.A.handled=none
 frames:X.A.frames=some X.stack
 oK:X.stack=X.outer\/(X.stack=X.env::X.outer/\X.env.frame=some X.env.locals)
 oY:∀b∈X.ex,b≠X.env.locals/\∀x c,X.env.cells.lookup x=some c->c≠b
 bs:∀b o,X.base.get? b=some o->X.s₀.heap.get? b=some o/\X.H₀ b=none
 oa:X.base.objs.size<=X.s₀.heap.objs.size
 nS:∀b o,X.base.get? b=some o->b∉X.ex
 nX:∀b∈X.ex,b∉X.fs
 nF:X.s₀.heap.FunFrames X.base X.outer
 oo:∀b∈X.fs,X.H₀ b=none
structure Inv(X:Cx)(WH:QQY)(σ:List (Option V))(H:Hp)(s:Sd):Prop where
 ok:X.Ok
 os:s.os=X.s₀.os
 bare:AllBare s.gens
 base:Un X.fs X.ex X.H₀ H X.s₀.heap s.heap
 loc:∃m,s.heap.Ns X.env.locals m/\∀(i:Nat) (x:Str) (v:V),X.N[i]?=some x->σ[i]?=some (some v)->Ud X.env.scope x->∃u,qJ v u/\Vg X.env s.heap m x u
 cell:∀x c,X.env.cells.lookup x=some c->∃v,s.heap.IsCell c v
 free:H X.env.locals=none
 m9:∀x c,X.env.cells.lookup x=some c->H c=none
 pin:∀p∈X.pn++WH,s.heap.get? p.1=some p.2/\H p.1=none/\p.1≠X.env.locals/\p.1∉X.fs/\∀v,p.2.data≠.cell v
 mV:yl X.prog X.w H s.heap
 len:σ.length=X.N.length
variable {X:Cx}{WH:List (Addr × Obj)}{s:Sd}
section
variable {σ:List (Option V)}
def Cx.Ok.nofr(ok:X.Ok){b:Addr}{o:Obj}(e:X.base.get? b=some o):b∉X.fs:=λhb=>by have:=(ok.nF.mem hb).1;rw[e]at this;cases this
def Inv.bs(I:Inv X WH σ H s):∀b o,X.base.get? b=some o->s.heap.get? b=some o/\H b=none:=λb o e=>⟨I.base.keep b o (I.ok.bs b o e).1 (I.ok.bs b o e).2 (I.ok.nofr e) (I.ok.nS b o e),I.base.free b o (I.ok.bs b o e).1 (I.ok.bs b o e).2 (I.ok.nS b o e)⟩
def Inv.bk(I:Inv X WH σ H s):∀b o,X.base.get? b=some o->s.heap.get? b=some o:=λb o e=>(I.bs b o e).1
def Inv.mod(I:Inv X WH σ H s):Mod X.K X.mg X.base:=I.ok.mod
def Inv.nk(I:Inv X WH σ H s):X.K.In s.heap:=I.ok.mod.oC.keeps I.bk
def Inv.lt(I:Inv X WH σ H s):X.env.locals<s.heap.objs.size:=let⟨_,hn,_⟩:=I.loc;hn.lt
def Inv.sz(I:Inv X WH σ H s):X.s₀.heap.objs.size<=s.heap.objs.size:=d6 I.ok.above (jz I.lt)
def Inv.oR(I:Inv X WH σ H s){a:Addr}(h:s.heap.objs.size<=a):a∉X.fs:=λhb=>by obtain⟨_,o,ho,_⟩:=I.ok.nF.mem hb;exact absurd (dR (dA ho) (d6 I.sz h)) (fi _)
def Inv.oZ(I:Inv X WH σ H s):∀x c,X.env.cells.lookup x=some c->c≠X.env.locals:=λx c e z=>by obtain⟨v,o,ho,hd⟩:=I.cell x c e;obtain⟨m,⟨o',es,ep,Xn,hd',_⟩,_⟩:=I.loc;rw[z,Xn]at ho;cases ho;rw[hd']at hd;cases hd
def Inv.nF(I:Inv X WH σ H s):s.heap.FunFrames X.base X.outer:=by
 have all:∀(l:List Env),(∀b∈we l,b∈X.fs)->X.s₀.heap.FunFrames X.base l->s.heap.FunFrames X.base l:=by
  intro l;induction l with
  | nil=>intro _ _;trivial
  | cons env r ih=>intro hs hl;obtain⟨hk,⟨L,o,hf,hn,ho,hd⟩,hr⟩:=hl;have hL:L∈X.fs:=hs L (by unfold we;rw[gc,hf];exact dG);obtain⟨sl,e⟩:=I.base.slot L o ho (I.ok.oo L hL) hL λz=>I.ok.nX L z hL;exact⟨hk,⟨L,_,hf,hn,e,hd⟩,ih (λb hb=>hs b (by unfold we;rw[gc,hf];exact dE _ hb)) hr⟩
 exact all X.outer (λ_ hb=>hb) I.ok.nF
def Inv.stack(I:Inv X WH σ H s):s.heap.FunFrames X.base X.stack:=by
 rcases I.ok.oK with e|⟨e,hf⟩
 .rw[e];exact I.nF
 .rw[e];obtain⟨m,hn,_⟩:=I.loc;refine .cons (by rw[I.ok.kind];decide) hf hn ?_ I.nF;exact gJ (d6 I.ok.oa I.ok.above)
def Inv.nB(I:Inv X WH σ H s):∀b∈we X.stack,b∈X.env.locals::X.fs:=λb hb=>by
 rcases I.ok.oK with e|⟨e,hf⟩
 .rw[e]at hb;exact dE _ hb
 .rw[e]at hb;unfold we at hb;rw[gc,hf]at hb;exact hb
def Inv.nK(I:Inv X WH σ H s):∀b∈we X.stack,H b=none:=λb hb=>by
 rcases dg.mp (I.nB b hb)with e|hb
 .rw[e];exact I.free
 .obtain⟨_,o,ho,_⟩:=I.ok.nF.mem hb;exact I.base.free b o ho (I.ok.oo b hb) λz=>I.ok.nX b z hb
def Inv.step{g':Array GenState}{t':Nat}{d':Drawn}{ch:QXQ}(I:Inv X WH σ H s) (XE:∀b∈ch,(b∈X.ex\/X.s₀.heap.objs.size<=b)/\b≠X.env.locals/\(∀x c,X.env.cells.lookup x=some c->c≠b)/\∀p∈X.pn++WH,p.1≠b) (keep:∀b o,b≠X.env.locals->b∉X.fs->b∉ch->s.heap.get? b=some o->H b=none->h'.get? b=some o) (slot:∀b o,b≠X.env.locals->b∈X.fs->b∉ch->s.heap.get? b=some o->H b=none->∃sl,h'.get? b=some {o with slots:=sl}) (free:∀b o,b∉ch->s.heap.get? b=some o->H b=none->H' b=none)
  (there:∀b o,b∉ch->s.heap.get? b=some o->∃o',h'.get? b=some o')
  (nJ:∀b xs,H b=some (.tup xs)->H' b=some (.tup xs)) (nG:∀b o u,H b=some (.frz o u)->H' b=some (.frz o u)) (nL:∀b ps,H b=some (.tbl ps)->∃more,H' b=some (.tbl (ps++more)))
  (ns:∀m,s.heap.Ns X.env.locals m->h'.Ns X.env.locals m) (mV:yl X.prog X.w H' h') (hg:AllBare g'):
  Inv X WH σ H' {s with heap:=h',gens:=g',drawn:=d',toks:=t'}:=by
 have neL:∀b o,X.s₀.heap.get? b=some o->b≠X.env.locals:=λb o e=>dM (dR (dA e) I.ok.above);have neC:∀b o,X.s₀.heap.get? b=some o->b∉X.ex->b∉ch:=λb o e hx hb=>by
  rcases(XE b hb).1 with z|z
  .exact hx z
  .exact absurd (dR (dA e) z) (fi _)
 have Y8:∀x c,X.env.cells.lookup x=some c->∀v,s.heap.IsCell c v->h'.IsCell c v:=λx c e v ⟨o,ho,hd⟩=>by
  have nch:c∉ch:=λz=>(XE c z).2.2.1 x c e rfl;by_cases hc:c∈X.fs
  .obtain⟨sl,q⟩:=slot c o (I.oZ x c e) hc nch ho (I.m9 x c e);exact⟨_,q,hd⟩
  .exact⟨o,keep c o (I.oZ x c e) hc nch ho (I.m9 x c e),hd⟩
 refine⟨I.ok,I.os,hg,⟨λb o e n hb hx=>?_,λb o e n hb hx=>?_,λb o e n hx=>?_,λb o e hx=>?_,λb xs e=>nJ b xs (I.base.nJ b xs e),λb o xs e=>nG b o xs (I.base.nG b o xs e),λb ps e=>?_⟩,?_,λx c e=>?_,?_,λx c e=>?_,λp hp=>?_,mV,I.len⟩
 .exact keep b o (neL b o e) hb (neC b o e hx) (I.base.keep b o e n hb hx) (I.base.free b o e n hx)
 .obtain⟨sl,e1⟩:=I.base.slot b o e n hb hx;obtain⟨Ya,e2⟩:=slot b _ (neL b o e) hb (neC b o e hx) e1 (I.base.free b o e n hx);exact⟨Ya,e2⟩
 .obtain⟨o',e1⟩:=I.base.there b o e hx;exact free b o' (neC b o e hx) e1 (I.base.free b o e n hx)
 .obtain⟨o',e1⟩:=I.base.there b o e hx;exact there b o' (neC b o e hx) e1
 .obtain⟨m1,e1⟩:=I.base.nL b ps e;obtain⟨m2,e2⟩:=nL b _ e1;exact⟨m1++m2,by rw[e2,kO]⟩
 .obtain⟨m,hn,hl⟩:=I.loc;refine⟨m,ns m hn,λi x v e1 e2 e3=>?_⟩;obtain⟨u,r,l⟩:=hl i x v e1 e2 e3;refine⟨u,r,?_⟩;rcases l with l|⟨k,c,e,z⟩
  .exact .inl l
  .exact .inr ⟨k,c,e,Y8 x c e _ z⟩
 .obtain⟨v,z⟩:=I.cell x c e;exact⟨v,Y8 x c e v z⟩
 .obtain⟨m,⟨o,_,_,ho,_⟩,_⟩:=I.loc;exact free _ o (λz=>(XE _ z).2.1 rfl) ho I.free
 .obtain⟨v,o,ho,hd⟩:=I.cell x c e;exact free c o (λz=>(XE c z).2.2.1 x c e rfl) ho (I.m9 x c e)
 .obtain⟨e,n,ne,nf,d⟩:=I.pin p hp;have nch:p.1∉ch:=λz=>(XE p.1 z).2.2.2 p hp rfl;exact⟨keep p.1 p.2 ne nf nch e n,free p.1 p.2 nch e n,ne,nf,d⟩
def Inv.un{t':Nat}(I:Inv X WH σ H s)(u:Un X.fs [] H H' s.heap h')(mV:yl X.prog X.w H' h'):Inv X WH σ H' {s with heap:=h',toks:=t'}:=by
 obtain⟨m,⟨o,es,ep,ho,r⟩,_⟩:=id I.loc;obtain⟨sl,hL⟩:=u.any ho I.free (by simp);exact I.step (g':=s.gens) (d':=s.drawn) (ch:=[]) (λ_ z=>nomatch z) (λb o _ hb _ e n=>u.keep b o e n hb (by simp)) (λb o _ hb _ e n=>u.slot b o e n hb (by simp)) (λb o _ e n=>u.free b o e n (by simp)) (λb o _ e=>u.there b o e (by simp)) u.nJ u.nG u.nL (λm' hm=>by
  obtain⟨o',es',ep',Xn,r'⟩:=hm;rw[ho]at Xn;cases Xn;exact⟨_,es',ep',hL,r'⟩) mV I.bare
def Inv.call{g':Array GenState}{t':Nat}{d':Drawn}{ch:QXQ}(I:Inv X WH σ H s)(u:Un (we X.stack) ch H H' s.heap h')(mV:yl X.prog X.w H' h')(hg:AllBare g') (XE:∀b∈ch,(b∈X.ex\/X.s₀.heap.objs.size<=b)/\b≠X.env.locals/\(∀x c,X.env.cells.lookup x=some c->c≠b)/\∀p∈X.pn++WH,p.1≠b):
  Inv X WH σ H' {s with heap:=h',gens:=g',drawn:=d',toks:=t'}:=by
 obtain⟨m,⟨o,es,ep,ho,r⟩,_⟩:=id I.loc;obtain⟨sl,hL⟩:=u.any ho I.free λz=>(XE _ z).2.1 rfl;exact I.step (ch:=ch) XE (λb o hL hb hc e n=>u.keep b o e n (λz=>(dg.mp (I.nB b z)).elim hL hb) hc) (λb o _ _ hc e n=>u.any e n hc) (λb o hc e n=>u.free b o e n hc) (λb o hc e=>u.there b o e hc) u.nJ u.nG u.nL (λm' hm=>by
  obtain⟨o',es',ep',Xn,r'⟩:=hm;rw[ho]at Xn;cases Xn;exact⟨_,es',ep',hL,r'⟩) mV hg
def Inv.turned{t':Nat}{it:Addr}(I:Inv X WH σ H s)(k:∀b o,b≠it->s.heap.get? b=some o->h'.get? b=some o)(hn:H it=none)(hL:it≠X.env.locals) (h1:it∈X.ex\/X.s₀.heap.objs.size<=it) (h2:∀x c,X.env.cells.lookup x=some c->c≠it) (h3:∀p∈X.pn++WH,p.1≠it):Inv X WH σ H {s with heap:=h',toks:=t'}:=by
 have nit:∀b u,H b=some u->b≠it:=λb u e z=>by rw[z,hn]at e;cases e
 refine I.step (g':=s.gens) (d':=s.drawn) (ch:=[it]) (λb hb=>?_) (λb o _ _ hc e _=>k b o (λz=>hc (by simp[z])) e) (λb o _ _ hc e _=>⟨o.slots,k b o (λz=>hc (by simp[z])) e⟩) (λ_ _ _ _ n=>n)
  (λb o hc e=>⟨o,k b o (λz=>hc (by simp[z])) e⟩) (λ_ _ e=>e) (λ_ _ _ e=>e) (λb ps e=>⟨#[],by rw[e];simp⟩) (λm hm=>?_) (λb u e=>?_) I.bare
 .have e:b=it:=by simpa using hb
  subst e;exact⟨h1,hL,h2,h3⟩
 .obtain⟨o,es,ep,ho,r⟩:=hm;exact⟨o,es,ep,k _ o (dP hL) ho,r⟩
 .refine(I.mV b u e).nz (λc v hc q=>k c v ?_ q) (λ_ q=>q) λ_ _ q=>q;rcases hc with z|z
  .rw[z];exact nit b u e
  .exact nit c _ z
def Inv.tok(I:Inv X WH σ H s)(t:Nat):Inv X WH σ H {s with toks:=t}:=I.un (h':=s.heap) (t':=t) Un.refl I.mV
def Inv.kept{t':Nat}(I:Inv X WH σ H s)(k:∀b u,s.heap.get? b=some u->h'.get? b=some u):Inv X WH σ H {s with heap:=h',toks:=t'}:=I.un (Un.kept k) (I.mV.kept k)
def Inv.laid{a:Addr}{o:HO}{t':Nat}(I:Inv X WH σ H s)(k:∀b u,s.heap.get? b=some u->h'.get? b=some u)(hp:s.heap.objs.size<=a)(new:sd X.prog X.w (upd H a o) h' a o):
  Inv X WH σ (upd H a o) {s with heap:=h',toks:=t'}:=I.un (Un.laid k hp (I.mV.fresh hp)) (I.mV.laid k hp new)
def Inv.write{x e:Addr}{o:HO}{t':Nat}(I:Inv X WH σ H s)(mu:Ut (H x))(he:e=x\/H e=some (.own x))(k:∀b u,b≠e->s.heap.get? b=some u->h'.get? b=some u)(heo:∃u,h'.get? e=some u) (new:sd X.prog X.w (upd H x o) h' x o):Inv X WH σ (upd H x o) {s with heap:=h',toks:=t'}:=I.un (Un.write mu he k heo) (I.mV.write mu he k heo new)
def Inv.nP{XF:QQY}(I:Inv X WH σ H s)(h:∀p∈XF,s.heap.get? p.1=some p.2/\H p.1=none/\p.1≠X.env.locals/\p.1∉X.fs/\∀v,p.2.data≠.cell v):Inv X XF σ H s:=
 ⟨I.ok,I.os,I.bare,I.base,I.loc,I.cell,I.free,I.m9,λp hp=>(dY.mp hp).elim (λz=>I.pin p (fF _ z)) (h p),I.mV,I.len⟩
def Gk{N:QQQ}(hN:N.Nodup){i j:Nat}{x:Str}(a:N[i]?=some x)(b:N[j]?=some x):i=j:=by obtain⟨h1,e1⟩:=c9.mp a;obtain⟨h2,e2⟩:=c9.mp b;exact(lK hN).mp (e1.trans e2.symm)
def D0{M:Model}{A:Ar}{E:QQX}{i:Nat}{x:Str}{v:V}{u:Vl}{Q:Unit->Sd->Prop}(I:Inv X WH σ H s)(hN:X.N.Nodup)(hi:X.N[i]?=some x)(hx:Lc X.env.scope x)(r:qJ v u) (h:∀s',Inv X WH (σ.set i (some v)) H s'->(∃a,Heap.SameBut a s.heap s'.heap/\(a=X.env.locals\/X.env.cells.lookup x=some a))->Q () s') (hf:Nq X x:=by first|exact .inl rfl|exact .inr rfl|assumption):wpAny M A (storeName X.env x u) Q E s:=by
 obtain⟨m,hn,hl⟩:=id I.loc;have hcls:(X.env.scope.kind==.class||(X.env.scope.kind==.module&&X.env.locals != X.env.globals))=false:=by rw[I.ok.kind];rfl
 have hiσ:i<σ.length:=by rw[I.len];exact(c9.mp hi).1
 have oZ:=I.oZ;have WW:∀{a:Addr} {h':Heap},(∃o,s.heap.get? a=some o/\H a=none)->Heap.SameBut a s.heap h'->yl X.prog X.w H h':=λ{a h'} ha hs b ob e=>by
  obtain⟨_,_,Xr⟩:=ha;refine(I.mV b ob e).nz (λc w' hc q=>(hs.2 c ?_).trans q) (λ_ q=>q) λ_ _ q=>q
  rintro rfl
  rcases hc with rfl|hc
  .rw[Xr]at e;cases e
  .rw[Xr]at hc;cases hc
 rcases hx with hk|hk
 .refine wpAny_storeName_local hk hn (λh' YF hs=>?_) hcls;obtain⟨oL,_,_,hoL,_⟩:=id hn;refine h _ ⟨I.ok,I.os,I.bare,⟨λb o e n hb hx=>?_,λb o e n hb hx=>?_,I.base.free,λb o e hx=>?_,I.base.nJ,I.base.nG,I.base.nL⟩,⟨_,YF,λj y v' e1 e2 e3=>?_⟩,λy c e=>?_,I.free,I.m9,λp hp=>?_,WW ⟨oL,hoL,I.free⟩ hs,by simpa using I.len⟩ ⟨_,hs,.inl rfl⟩
  .exact(hs.2 b (dM (dR (dA e) I.ok.above))).trans (I.base.keep b o e n hb hx)
  .obtain⟨sl,e1⟩:=I.base.slot b o e n hb hx;exact⟨sl,(hs.2 b (dM (dR (dA e) I.ok.above))).trans e1⟩
  .obtain⟨o',e1⟩:=I.base.there b o e hx;exact⟨o',(hs.2 b (dM (dR (dA e) I.ok.above))).trans e1⟩
  .by_cases hj:j=i
   .subst hj;rw[hi]at e1;cases e1;rw[fH hiσ]at e2;cases e2;exact⟨u,r,.inl ⟨hk,by simp⟩⟩
   .rw[fG (dP hj)]at e2;obtain⟨u',r',q⟩:=hl j y v' e1 e2 e3;refine⟨u',r',?_⟩;rcases q with⟨k,e⟩|⟨k,c,e,z⟩
    .refine .inl ⟨k,?_⟩;have:y≠x:=λe=>hj (Gk hN e1 (e ▸ hi));simp[this,e]
    .exact .inr ⟨k,c,e,z.sameBut hs (oZ y c e)⟩
  .obtain⟨w',z⟩:=I.cell y c e;exact⟨w',z.sameBut hs (oZ y c e)⟩
  .obtain⟨e,n,ne,nf,d⟩:=I.pin p hp;exact⟨(hs.2 p.1 ne).trans e,n,ne,nf,d⟩
 .have hfn:X.fn x=true:=by
   rcases hf with z|z
   .exact z
   .rw[z]at hk;cases hk
  obtain⟨c,hc⟩:=I.ok.has x (.inl hk);obtain⟨w',z⟩:=I.cell x c hc;refine wpAny_storeName_cell I.ok.kind hk hc z (λh' hc' hs=>?_);obtain⟨oc,hoc,hocd⟩:=id z;refine h {s with heap:=h'} ⟨I.ok,I.os,I.bare,⟨λb o e n hb hx=>?_,λb o e n hb hx=>?_,I.base.free,λb o e hx=>?_,I.base.nJ,I.base.nG,I.base.nL⟩,⟨m,hn.sameBut hs (dP (oZ x c hc)),λj y v' e1 e2 e3=>?_⟩,λy c' e=>?_,I.free,I.m9,λp hp=>?_,WW ⟨oc,hoc,I.m9 x c hc⟩ hs,by simpa using I.len⟩ ⟨c,hs,.inr hc⟩
  .exact(hs.2 b (dM (dR (dA e) (I.ok.oG x c hfn hc)))).trans (I.base.keep b o e n hb hx)
  .obtain⟨sl,e1⟩:=I.base.slot b o e n hb hx;exact⟨sl,(hs.2 b (dM (dR (dA e) (I.ok.oG x c hfn hc)))).trans e1⟩
  .obtain⟨o',e1⟩:=I.base.there b o e hx;exact⟨o',(hs.2 b (dM (dR (dA e) (I.ok.oG x c hfn hc)))).trans e1⟩
  .by_cases hj:j=i
   .subst hj;rw[hi]at e1;cases e1;rw[fH hiσ]at e2;cases e2;exact⟨u,r,.inr ⟨.inl hk,c,hc,hc'⟩⟩
   .rw[fG (dP hj)]at e2;obtain⟨u',r',q⟩:=hl j y v' e1 e2 e3;refine⟨u',r',?_⟩;rcases q with q|⟨k,c',e,z'⟩
    .exact .inl q
    .refine .inr ⟨k,c',e,z'.sameBut hs ?_⟩
     rintro rfl
     exact hj (Gk hN e1 (I.ok.inj _ _ _ e hc ▸ hi))
  .by_cases Y9:c'=c
   .subst Y9;exact⟨_,hc'⟩
   .obtain⟨w2,z2⟩:=I.cell y c' e;exact⟨w2,z2.sameBut hs Y9⟩
  .obtain⟨e,n,ne,nf,d⟩:=I.pin p hp;refine⟨(hs.2 p.1 ?_).trans e,n,ne,nf,d⟩;intro q;rw[q,hoc]at e;have q':oc=p.2:=dh e;exact d w' (by rw[<-q'];exact hocd)
def Gq{M:Model}{A:Ar}{E:QQX}{i:Nat}{x:Str}{v:V}{u:Vl}{Q:Unit->Sd->Prop}(I:Inv X WH σ H s)(hN:X.N.Nodup)(hi:X.N[i]?=some x)(hx:Lc X.env.scope x)(r:qJ v u) (h:∀s',Inv X WH (σ.set i (some v)) H s'->Q () s') (hf:Nq X x:=by first|exact .inl rfl|exact .inr rfl|assumption):wpAny M A (storeName X.env x u) Q E s:=
 D0 I hN hi hx r (λs' I' _=>h s' I') hf
def Inv.oQ{s':Sd}{ch:QXQ}(I:Inv X WH σ H s)(ho:s'.os=s.os)(u:Un (we X.stack) ch H H' s.heap s'.heap)(mV:yl X.prog X.w H' s'.heap)(hg:AllBare s'.gens) (XE:∀b∈ch,(b∈X.ex\/X.s₀.heap.objs.size<=b)/\b≠X.env.locals/\(∀x c,X.env.cells.lookup x=some c->c≠b)/\∀p∈X.pn++WH,p.1≠b):Inv X WH σ H' s':=by
 obtain⟨h',g',d',t',o'⟩:=s';have e:o'=s.os:=ho;subst e;exact I.call (g':=g') (t':=t') (d':=d') u mV hg XE
end
abbrev XK:=Vl->Option Addr->Hp->Prop
abbrev St:=List (Option V)
abbrev VK:=V->Hp->Prop
abbrev TE:=St->Hp->VK->Prop
abbrev TT:=St->Hp->(Bool->Hp->Prop)->Prop
abbrev TA:=St->Hp->(List V->Hp->Prop)->Prop
structure Ek where
 nx:St->Hp->Prop
 rt:VK
 bk:St->Hp->Prop:=λ_ _=>False
 ct:St->Hp->Prop:=λ_ _=>False
abbrev TS:=Ek->St->Hp->Prop
def EP(X:Cx)(WH:QQY)(σ:St)(Q:VK)(u:Vl)(s':Sd):Prop:=∃v H',Inv X WH σ H' s'/\qJ v u/\Q v H'
def TP(X:Cx)(WH:QQY)(σ:St)(Q:Bool->Hp->Prop)(b:Bool)(s':Sd):Prop:=∃H',Inv X WH σ H' s'/\Q b H'
def AP(X:Cx)(WH:QQY)(σ:St)(Q:List V->Hp->Prop)(us:List Vl)(s':Sd):Prop:=∃vs H',Inv X WH σ H' s'/\qE vs us/\Q vs H'
def SP(X:Cx)(WH:QQY)(D:Ek)(f:Flow)(s':Sd):Prop:=
 match f with
 | .next=>∃σ' H',Inv X WH σ' H' s'/\D.nx σ' H'
 | .brk=>∃σ' H',Inv X WH σ' H' s'/\D.bk σ' H'
 | .cont=>∃σ' H',Inv X WH σ' H' s'/\D.ct σ' H'
 | .ret u=>∃v σ' H',Inv X WH σ' H' s'/\qJ v u/\D.rt v H'
def PE(X:Cx)(e:Expr)(t:TE):Prop:=
 ∀(WH:QQY) (s:Sd) (σ:St) (H:Hp) (Q:VK),Inv X WH σ H s->t σ H Q->wpAny (model X.prog X.w) X.A (eval e X.env) (EP X WH σ Q) X.xe s
def PT(X:Cx)(e:Expr)(t:TT):Prop:=
 ∀(WH:QQY) (s:Sd) (σ:St) (H:Hp) (Q:Bool->Hp->Prop),Inv X WH σ H s->t σ H Q->wpAny (model X.prog X.w) X.A (isTrue e X.env (eval e X.env)) (TP X WH σ Q) X.xe s
def PW(X:Cx)(e:Expr)(t:TT):Prop:=
 ∀(Xf:Sem Vl) (WH:QQY) (s:Sd) (σ:St) (H:Hp) (Q:Bool->Hp->Prop),Inv X WH σ H s->t σ H Q->wpAny (model X.prog X.w) X.A (isTrue e X.env Xf) (TP X WH σ Q) X.xe s
def PW.pt{X:Cx}{e:Expr}{t:TT}(h:PW X e t):PT X e t:=h _
def PA(X:Cx)(es:List Expr)(t:TA):Prop:=
 ∀(pos:Pos) (WH:QQY) (s:Sd) (σ:St) (H:Hp) (Q:List V->Hp->Prop),Inv X WH σ H s->t σ H Q->wpAny (model X.prog X.w) X.A (spliced (backTo pos (starEach es X.env))) (AP X WH σ Q) X.xe s
def PS(X:Cx)(st:Stmt)(t:TS):Prop:=
 ∀(WH:QQY) (s:Sd) (σ:St) (H:Hp) (D:Ek),Inv X WH σ H s->t D σ H->wpAny (model X.prog X.w) X.A (exec st X.env) (SP X WH D) X.xe s
def B6(X:Cx)(st:List Stmt)(t:TS):Prop:=
 ∀(WH:QQY) (s:Sd) (σ:St) (H:Hp) (D:Ek),Inv X WH σ H s->t D σ H->wpAny (model X.prog X.w) X.A (execs st X.env) (SP X WH D) X.xe s
def sH{α:Type}{t:Sem α}{Q Q':α->Sd->Prop}{M:Model}{A:Ar}{E:QQX}{s:Sd}(h:wpAny M A t Q E s)(hQ:∀a s,Q a s->Q' a s):wpAny M A t Q' E s:=eA h hQ λ_ _ x=>x
variable {tA tB':TT}{ta tb:TE}{pos:Pos}
section
def Hi(i:Nat):TE:=λσ H Q=>∃v,σ[i]?=some (some v)/\Q v H
def tC(v:V):TE:=λ_ H Q=>Q v H
def Sn{i:Nat}{x:Str}{pos:Pos}(hN:X.N[i]?=some x)(hv:Ud X.env.scope x)(hd:yU x:=by decide)(XW:(x==("__classdict__":Str))=false:=by decide):PE X (.Name x pos) (Hi i):=by
 intro WH s σ H Q I h;obtain⟨v,e,h⟩:=h;obtain⟨m,hn,hl⟩:=I.loc;obtain⟨u,r,l⟩:=hl i x v hN e hv;have WM:EP X WH σ Q u s:=⟨v,H,I,r,h⟩;rcases l with⟨hk,hm⟩|⟨hk,c,hc,hcell⟩
 .exact lZ (wpAny_loadName_local I.ok.kind hk hn hm WM) hd
 .rcases hk with hk|hk
  .exact lZ (wpAny_loadName_cell I.ok.kind hk hc hcell WM) hd
  .exact lZ (wpAny_loadName_free I.ok.kind hk hc hcell WM XW) hd
def SO{i j pos}:PE X (.Constant (.int i) j pos) (tC (.int i)):=λ_ _ _ H _ I h=>wpAny_Constant_int ⟨.int i,H,I.tok _,⟨_,rfl⟩,h⟩
def UI{b j pos}:PE X (.Constant (.bool b) j pos) (tC (.bl b)):=λ_ _ _ H _ I h=>Constant_bool ⟨.bl b,H,I,rfl,h⟩
def Rr{j pos}:PE X (.Constant .none j pos) (tC .mS):=λ_ _ _ H _ I h=>Constant_none ⟨.mS,H,I,rfl,h⟩
def Sr{x j pos}:PE X (.Constant (.str x) j pos) (tC (.str x)):=λ_ _ _ H _ I h=>Calls.Constant_str ⟨.str x,H,I.tok _,⟨_,rfl⟩,h⟩
def Gl(X:Cx)(x:Str):Prop:=X.env.kindOf x=some .globalImplicit
def wV{E:QQX}{WH:QQY}{s:Sd}{σ:St}{H:Hp}{x:Str}{u:Vl}{pos:Pos}{Q:QQX}(I:Inv X WH σ H s)(hg:Gl X x)(hm:X.mg x=some u)(h:Q u s) (hd:yU x:=by decide):wpAny (model X.prog X.w) X.A (eval (.Name x pos) X.env) Q E s:=
 jk I.ok.kind hg (Calls.loadGlobal_global (by rw[I.ok.glob];exact I.mod.glob.keeps I.bk) hm h) hd
def wF{E:QQX}{WH:QQY}{s:Sd}{σ:St}{H:Hp}{x:Str}{u:Vl}{pos:Pos}{Q:QQX}(I:Inv X WH σ H s)(hg:Gl X x)(hm:X.mg x=none)(hv:bootBuiltins x=some u)(h:Q u s) (hn:x≠"__name__":=by decide) (hd:yU x:=by decide):wpAny (model X.prog X.w) X.A (eval (.Name x pos) X.env) Q E s:=by
 obtain⟨mb,h1,h2⟩:=I.mod.blt;exact jk I.ok.kind hg (Calls.loadGlobal_builtin (by rw[I.ok.glob];exact I.mod.glob.keeps I.bk) hm (by rw[I.ok.blt];exact h1.keeps I.bk) ((h2 x hn).trans hv) h) hd
def En{x:Str}{v:V}{u:Vl}{pos:Pos}(hg:Gl X x)(hm:X.mg x=some u)(r:qJ v u)(hd:yU x:=by decide):PE X (.Name x pos) (tC v):=
 λ_ _ _ H _ I h=>wV I hg hm ⟨v,H,I,r,h⟩ hd
def Pn{x:Str}{v:V}{u:Vl}{pos:Pos}(hg:Gl X x)(hm:X.mg x=none)(hv:bootBuiltins x=some u)(r:qJ v u)(hn:x≠"__name__":=by decide)(hd:yU x:=by decide):PE X (.Name x pos) (tC v):=
 λ_ _ _ H _ I h=>wF I hg hm hv ⟨v,H,I,r,h⟩ hn hd
variable {a b:Expr}
def tB(t:TE):TT:=λσ H Q=>t σ H λx H1=>∃c,x=.bl c/\Q c H1
def RL{e:Expr}{t:TE}(h:PE X e t)(he:∀Xf,isTrue e X.env Xf=(do let v<-Xf;standAt e.pos;holding [v] (truthy v)):=by intro _;rfl):PT X e (tB t):=by intro WH s σ H Q I hw;refine isTrue_plain (sH (h WH s σ H _ I hw) λv s1 zz=>x5 zz λx H1 I1 r1 q1=>?_) (he _);obtain⟨d,rfl,q⟩:=q1;cases r1;exact fm ⟨H1,I1,q⟩
variable {rest:List Expr}
def Vj(t u:TT):TT:=λσ H Q=>t σ H λc H1=>if c=true then u σ H1 Q else Q false H1
def Wq(t u:TT):TT:=λσ H Q=>t σ H λc H1=>if c=true then Q true H1 else u σ H1 Q
def Vi(t:TT):TT:=λσ H Q=>t σ H λc H1=>Q (!c) H1
def OV(ha:PT X a tA):PW X (.BoolOp .And [a] pos) tA:=by
 intro wh WH s σ H Q I h;refine isTrue_and (sH (ha WH s σ H Q I h) λc s1 e=>?_);cases c with
 | true=>exact isTrue_and_nil e
 | false=>exact e
def Q1(ha:PT X a tA):PW X (.BoolOp .Or [a] pos) tA:=by
 intro wh WH s σ H Q I h;refine isTrue_or (sH (ha WH s σ H Q I h) λc s1 e=>?_);cases c with
 | false=>exact isTrue_or_nil e
 | true=>exact e
def Su(ha:PT X a tA)(hb:PW X (.BoolOp .And (b::rest) pos) tB'):PW X (.BoolOp .And (a::b::rest) pos) (Vj tA tB'):=by
 intro wh WH s σ H Q I h;refine isTrue_and (sH (ha WH s σ H _ I h) λc s1 ⟨H1,I1,q1⟩=>?_);cases c with
 | true=>exact hb wh WH s1 σ H1 Q I1 q1
 | false=>exact⟨H1,I1,q1⟩
def Ta(ha:PT X a tA)(hb:PW X (.BoolOp .Or (b::rest) pos) tB'):PW X (.BoolOp .Or (a::b::rest) pos) (Wq tA tB'):=by
 intro wh WH s σ H Q I h;refine isTrue_or (sH (ha WH s σ H _ I h) λc s1 ⟨H1,I1,q1⟩=>?_);cases c with
 | true=>exact⟨H1,I1,q1⟩
 | false=>exact hb wh WH s1 σ H1 Q I1 q1
def RD(ha:PT X a tA):PT X (.UnaryOp .Not a pos) (Vi tA):=by intro WH s σ H Q I h;exact isTrue_not (ha WH s σ H (λc H1=>Q (!c) H1) I h)
def Tv(ta tb:TE):TE:=λσ H Q=>ta σ H λx H1=>∃c,x=.bl c/\if c=true then tb σ H1 Q else Q (.bl false) H1
def VD(ta tb:TE):TE:=λσ H Q=>ta σ H λx H1=>∃c,x=.bl c/\if c=true then Q (.bl true) H1 else tb σ H1 Q
def TY(ta:TE):TE:=λσ H Q=>ta σ H λx H1=>∃c,x=.bl c/\Q (.bl (!c)) H1
def SL{op}{t:TE}(h:PE X a t):PE X (.BoolOp op [a] pos) t:=λWH s σ H Q I hw=>BoolOp_one (h WH s σ H Q I hw)
def R9(ha:PE X a ta)(hb:PE X (.BoolOp .And (b::rest) pos) tb):PE X (.BoolOp .And (a::b::rest) pos) (Tv ta tb):=by
 intro WH s σ H Q I h;refine BoolOp_and (sH (ha WH s σ H _ I h) λv s1 zz=>x5 zz λx H1 I1 r1 q1=>?_);obtain⟨c,rfl,q1⟩:=q1;cases r1;refine fm ?_;cases c with
 | true=>exact hb WH s1 σ H1 Q I1 q1
 | false=>exact⟨.bl false,H1,I1,rfl,q1⟩
def Uj(ha:PE X a ta)(hb:PE X (.BoolOp .Or (b::rest) pos) tb):PE X (.BoolOp .Or (a::b::rest) pos) (VD ta tb):=by
 intro WH s σ H Q I h;refine BoolOp_or (sH (ha WH s σ H _ I h) λv s1 zz=>x5 zz λx H1 I1 r1 q1=>?_);obtain⟨c,rfl,q1⟩:=q1;cases r1;refine fm ?_;cases c with
 | false=>exact hb WH s1 σ H1 Q I1 q1
 | true=>exact⟨.bl true,H1,I1,rfl,q1⟩
def SA(ha:PE X a ta):PE X (.UnaryOp .Not a pos) (TY ta):=by intro WH s σ H Q I h;refine UnaryOp_ (sH (ha WH s σ H _ I h) λv s1 zz=>x5 zz λx H1 I1 r1 q1=>?_);obtain⟨c,rfl,q1⟩:=q1;cases r1;exact not_of (fm ⟨.bl (!c),H1,I1,rfl,q1⟩)
def Wu(t:TT)(ta tb:TE):TE:=λσ H Q=>t σ H λc H1=>if c=true then ta σ H1 Q else tb σ H1 Q
def K0{c:Expr}(hc:PT X c tA)(ha:PE X a ta)(hb:PE X b tb):PE X (.IfExp c a b pos) (Wu tA ta tb):=by
 intro WH s σ H Q I h;refine wpAny_IfExp (sH (hc WH s σ H _ I h) λd s1 ⟨H1,I1,q1⟩=>?_);cases d with
 | true=>exact ha WH s1 σ H1 Q I1 q1
 | false=>exact hb WH s1 σ H1 Q I1 q1
end
def yT(K:qu)(H:Hp)(a:Addr)(xs:List V):Prop:=
 Rd H a (.lst xs)\/
  ∃(o:Obj) (its:Array Vl) (n:Nat),K.lookup a=some o/\o.cls=.type "list"/\o.dict=none/\o.data=.seq its n/\its.size<=sizeLine/\qE xs its.toList
def ve(K:qu)(H:Hp)(a:Addr)(xs:List V):Prop:=
 Rd H a (.tup xs)\/
  ∃(o:Obj) (its:Array Vl) (n:Nat),K.lookup a=some o/\o.cls=.type "tuple"/\o.dict=none/\o.data=.seq its n/\its.size<=sizeLine/\qE xs its.toList
def VF:Vl->Option V
 | .none=>some .mS
 | .bool b=>some (.bl b)
 | .int i _=>some (.int i)
 | .str x _=>some (.str x)
 | .bytes b _=>some (.byt b)
 | .float b _=>some (.flt b)
 | .ref a=>some (.ref a)
 | .type n=>some (.ty n)
 | _=>none
def qJ.abs{x:V}{u:Vl}(r:qJ x u):VF u=some x:=by
 cases x with
 | mS=>cases r;rfl
 | bl _=>cases r;rfl
 | int _=>obtain⟨t,rfl⟩:=r;rfl
 | str _=>obtain⟨t,rfl⟩:=r;rfl
 | byt _=>obtain⟨t,rfl⟩:=r;rfl
 | flt _=>obtain⟨t,rfl⟩:=r;rfl
 | ref _=>cases r;rfl
 | ty _=>cases r;rfl
def qJ.inj{x y:V}{u:Vl}(r:qJ x u)(q:qJ y u):x=y:=dh (r.abs.symm.trans q.abs)
theorem qE.inj:∀{xs ys:List V} {us:List Vl},qE xs us->qE ys us->xs=ys
 | _,_,_,.nil,.nil=>rfl
 | _,_,_,.cons r t,.cons r' t'=>by rw[r.inj r',qE.inj t t']
variable {xs ys:List V}
section
variable {σ:St}{a:Addr}
def ve.of{K:qu}(h:H a=some (.tup xs)):ve K H a xs:=.inl (.inl h)
def Inv.list(I:Inv X WH σ H s)(h:yT X.K H a xs):∃its:List Vl,qE xs its/\PlainL s.heap a its.toArray/\xs.length<=sizeLine:=by
 rcases h with h|⟨o,its,n,hk,hc,hd,hs,hz,r⟩
 .obtain⟨z,its,n,r,e⟩:=h.ok I.mV;exact⟨its,r,⟨_,n,e,rfl,rfl,rfl⟩,z⟩
 .refine⟨its.toList,r,⟨o,n,I.nk a o hk,hc,hd,by simpa using hs⟩,?_⟩;have e:=r.length;simp only[ii]at e;omega
def Inv.tuple(I:Inv X WH σ H s)(h:ve X.K H a xs):∃its:List Vl,qE xs its/\IsTup s.heap a its.toArray/\xs.length<=sizeLine:=by
 rcases h with h|⟨o,its,n,hk,hc,hd,hs,hz,r⟩
 .obtain⟨z,its,r,p⟩:=h.ok I.mV;exact⟨its,r,p.is,z⟩
 .refine⟨its.toList,r,⟨o,I.nk a o hk,hc,n,by simpa using hs⟩,?_⟩;have e:=r.length;simp only[ii]at e;omega
def Inv.nQ(I:Inv X WH σ H s)(h:yT X.K H a xs)(h':yT X.K H a ys):xs=ys:=by
 obtain⟨its,r,⟨o,n,e,_,_,d⟩,_⟩:=I.list h;obtain⟨its',r',⟨o',n',e',_,_,d'⟩,_⟩:=I.list h';rw[e]at e';cases e';rw[d]at d';injection d' with d1 _
 have:its=its':=by simpa using eX Array.toList d1
 subst this;exact r.inj r'
def Inv.nv(I:Inv X WH σ H s)(h:ve X.K H a xs)(h':ve X.K H a ys):xs=ys:=by
 obtain⟨its,r,⟨o,e,_,n,d⟩,_⟩:=I.tuple h;obtain⟨its',r',⟨o',e',_,n',d'⟩,_⟩:=I.tuple h';rw[e]at e';cases e';rw[d]at d';injection d' with d1 _
 have:its=its':=by simpa using eX Array.toList d1
 subst this;exact r.inj r'
end
abbrev Cx.nN(X:Cx)(E:QQX):Cx:={X with xe:=E}
abbrev Cx.ow(X:Cx):Cx:=X.nN λ_ _=>False
def Cx.Ok.nN{X:Cx}(ok:X.Ok)(E:QQX):(X.nN E).Ok:=
 ⟨ok.mod,ok.kind,ok.glob,ok.blt,ok.above,ok.inj,ok.has,ok.oG,ok.hd,ok.frames,ok.oK,ok.oY,ok.bs,ok.oa,ok.nS,ok.nX,ok.nF,ok.oo⟩
def Cx.Ok.nu{X:Cx}{E:QQX}(ok:(X.nN E).Ok):X.Ok:=
 ⟨ok.mod,ok.kind,ok.glob,ok.blt,ok.above,ok.inj,ok.has,ok.oG,ok.hd,ok.frames,ok.oK,ok.oY,ok.bs,ok.oa,ok.nS,ok.nX,ok.nF,ok.oo⟩
section
variable {σ:St}{E:QQX}
def Inv.nN(I:Inv X WH σ H s)(E:QQX):Inv (X.nN E) WH σ H s:=⟨I.ok.nN E,I.os,I.bare,I.base,I.loc,I.cell,I.free,I.m9,I.pin,I.mV,I.len⟩
def Inv.nu(I:Inv (X.nN E) WH σ H s):Inv X WH σ H s:=⟨I.ok.nu,I.os,I.bare,I.base,I.loc,I.cell,I.free,I.m9,I.pin,I.mV,I.len⟩
def SP.nu{D:Ek}{f:Flow}{s':Sd}(h:SP (X.nN E) WH D f s'):SP X WH D f s':=by
 cases f with
 | next=>obtain⟨σ',H',I,q⟩:=h;exact⟨σ',H',I.nu,q⟩
 | brk=>obtain⟨σ',H',I,q⟩:=h;exact⟨σ',H',I.nu,q⟩
 | cont=>obtain⟨σ',H',I,q⟩:=h;exact⟨σ',H',I.nu,q⟩
 | ret u=>obtain⟨v,σ',H',I,r,q⟩:=h;exact⟨v,σ',H',I.nu,r,q⟩
def B6.ow{st:List Stmt}{t:TS}(h:B6 X.ow st t):B6 X st t:=λWH s σ H D I hw=>eA (h WH s σ H D (I.nN _) hw) (λ_ _ q=>q.nu) λ_ _ z=>False.elim z
end
variable {st:Stmt}{u:TS}{te:TE}
section
variable {rest:List Stmt}{t:TS}{e:Expr}
def TV:TS:=λD σ H=>D.nx σ H
def VM(t u:TS):TS:=λD σ H=>t {D with nx:=u D} σ H
def Ou:B6 X [] TV:=λ_ _ σ H _ I h=>gS ⟨σ,H,I,h⟩
def Nd(h1:PS X st t)(h2:B6 X rest u):B6 X (st::rest) (VM t u):=by
 intro WH s σ H D I h;refine jA (sH (h1 WH s σ H {D with nx:=u D} I h) λf s1 q=>?_);cases f with
 | next=>obtain⟨σ',H',I',q⟩:=q;exact h2 WH s1 σ' H' D I' q
 | ret v=>exact q
 | brk=>exact q
 | cont=>exact q
def I9(h1:PS X st t):B6 X [st] t:=by
 intro WH s σ H D I h;refine jA (sH (h1 WH s σ H D I h) λf s1 q=>?_);cases f with
 | next=>exact gS q
 | ret v=>exact q
 | brk=>exact q
 | cont=>exact q
def Inv.quiet{WH:QQY}{σ:St}{H:Hp}{s:Sd}(I:Inv X WH σ H s):interactive X.env=false:=by simp[interactive,I.ok.kind]
def TK(te:TE):TS:=λD σ H=>te σ H λ_ H1=>D.nx σ H1
def PH(he:PE X e te)(hs:swapsWith e none pos.line X.env=pure false:=by rfl):PS X (.Expr e pos) (TK te):=by intro WH s σ H D I h;exact wpAny_Expr_any (sH (he WH s σ H _ I h) λv s1 zz=>x5 zz λx H1 I1 r1 q1=>⟨σ,H1,I1,q1⟩) I.quiet hs
def VY(te:TE):TS:=λD σ H=>te σ H D.rt
def RH(he:PE X e te):PS X (.Return (some e) pos) (VY te):=by intro WH s σ H D I h;exact wpAny_Return_some (sH (he WH s σ H _ I h) λv s1 zz=>x5 zz λx H1 I1 r1 q1=>⟨x,σ,H1,I1,r1,q1⟩)
def Vh(c:TT)(t u:TS):TS:=λD σ H=>c σ H λb H1=>if b=true then t D σ H1 else u D σ H1
def Tn{c:Expr}{a b:List Stmt}{tc:TT}(hc:PT X c tc)(ha:B6 X a t)(hb:B6 X b u):PS X (.If c a b pos) (Vh tc t u):=by
 intro WH s σ H D I h;refine wpAny_If (sH (hc WH s σ H _ I h) λd s1 ⟨H1,I1,q1⟩=>?_);cases d with
 | true=>exact ha WH s1 σ H1 D I1 q1
 | false=>exact hb WH s1 σ H1 D I1 q1
def Q6:TS:=λ_ _ _=>False
def LN:PS X st Q6:=λ_ _ _ _ _ _ h=>h.elim
end
abbrev TG:=V->St->Hp->(St->Hp->Prop)->Prop
abbrev Pz:=List V->St->Hp->(St->Hp->Prop)->Prop
def PG(X:Cx)(Xc:Expr)(t:TG):Prop:=
 ∀(WH:QQY) (s:Sd) (σ:St) (H:Hp) (v:V) (u:Vl) (Q:St->Hp->Prop),Inv X WH σ H s->qJ v u->t v σ H Q->
  wpAny (model X.prog X.w) X.A (assign Xc X.env u) (λ_ s'=>∃σ' H',Inv X WH σ' H' s'/\Q σ' H') X.xe s
def NG(X:Cx)(ts:List Expr)(t:Pz):Prop:=
 ∀(WH:QQY) (s:Sd) (σ:St) (H:Hp) (vs:List V) (us:List Vl) (Q:St->Hp->Prop),Inv X WH σ H s->qE vs us->t vs σ H Q->
  wpAny (model X.prog X.w) X.A (assignInOrder ((assignEach ts X.env).map (·.2)) us) (λ_ s'=>∃σ' H',Inv X WH σ' H' s'/\Q σ' H') X.xe s
abbrev R5:=V->V->V->Hp->(Hp->Prop)->Prop
def Tq(X:Cx)(t:R5):Prop:=
 ∀(WH:QQY) (s:Sd) (σ:St) (H:Hp) (o i v:V) (ov iv u:Vl) (Q:Hp->Prop),Inv X WH σ H s->qJ o ov->qJ i iv->qJ v u->t o i v H Q->
  wpAny (model X.prog X.w) X.A (setItem ov iv u) (λ_ s'=>∃H',Inv X WH σ H' s'/\Q H') X.xe s
def Lq(i:Nat):TG:=λv σ H Q=>Q (σ.set i (some v)) H
def ON{i:Nat}{x:Str}(hN:X.N.Nodup)(hi:X.N[i]?=some x)(hx:Lc X.env.scope x)(hf:Nq X x:=by first|exact .inl rfl|exact .inr rfl|assumption):PG X (.Name x pos) (Lq i):=by intro WH s σ H v u Q I r h;exact lh (Gq I hN hi hx r (λs' I'=>⟨_,H,I',h⟩) hf)
def U4:Pz:=λvs σ H Q=>vs=[]/\Q σ H
def Tt(t:TG)(u:Pz):Pz:=λvs σ H Q=>∃v r,vs=v::r/\t v σ H λσ' H'=>u r σ' H' Q
def Pd:NG X [] U4:=by intro WH s σ H vs us Q I r h;obtain⟨e,h⟩:=h;subst e;cases r;exact assignInOrder_nil ⟨σ,H,I,h⟩
def Mv{e:Expr}{es:List Expr}{t:TG}{u:Pz}(h1:PG X e t)(h2:NG X es u) (hs:(assignEach (e::es) X.env).map (·.2)=assign e X.env::(assignEach es X.env).map (·.2):=by rfl):NG X (e::es) (Tt t u):=by
 intro WH s σ H vs us Q I r h;obtain⟨v,vr,e1,h⟩:=h;subst e1;cases r with
 | cons r rr=>rw[hs];refine assignInOrder_cons (sH (h1 WH s σ H _ _ _ I r h) λ_ s1 ⟨σ1,H1,I1,q1⟩=>?_);exact h2 WH s1 σ1 H1 _ _ Q I1 rr q1
def U6(K:qu)(n:Nat)(t:Pz):TG:=λv σ H Q=>∃a xs,v=.ref a/\ve K H a xs/\xs.length=n/\t xs σ H Q
def R0{es:List Expr}{k:Nat}{t:Pz}{n:Nat}(hc:X.calm=true)(h:NG X es t) (hn:(assignEach es X.env).length=n:=by rfl) (W6:(assignEach es X.env).findIdx? (·.1)=none:=by rfl):PG X (.Tuple es k pos) (U6 X.K n t):=by
 intro WH s σ H v u Q I r hw;obtain⟨a,xs,e1,hq,hl,hw⟩:=hw;subst e1;cases r;obtain⟨its,rv,ht,hz⟩:=I.tuple hq;refine assign_Tuple_tuple (I.ok.hd hc) ht (by simp[hn,<-hl,rv.length]) W6 λh' hx=>?_;have I1:Inv X WH σ H {s with heap:=h'}:=I.kept (t':=s.toks) λb o e=>hx b o (dM (dA e)) e;exact h WH _ σ H xs _ Q I1 (by simpa using rv) hw
def U9(to ti:TE)(t:R5):TG:=λv σ H Q=>to σ H λo H1=>ti σ H1 λi H2=>t o i v H2 λH3=>Q σ H3
def SD{o i:Expr}{to ti:TE}{t:R5}(ho:PE X o to)(hi:PE X i ti)(hs:Tq X t) (ha:∀v,assign (.Subscript o i pos) X.env v=(do
   let ov<-holding [v] (eval o X.env);let iv<-holding [v,ov] (eval i X.env)
   standAt pos
   holding [v,ov,iv] (setItem ov iv v)
   release [v,ov,iv] []):=by intro _;rfl):PG X (.Subscript o i pos) (U9 to ti t):=by
 intro WH s σ H v u Q I r h;rw[ha];refine cW (eU (sH (ho WH s σ H _ I h) λov s1 zz=>x5 zz λx H1 I1 r1 q1=>?_));refine cW (eU (sH (hi WH s1 σ H1 _ I1 q1) λiv s2 zz=>x5 zz λy H2 I2 r2 q2=>?_));refine cW (ie (cW (eU (sH (hs WH s2 σ H2 x y v ov iv u _ I2 r1 r2 r q2) λ_ s3 ⟨H3,I3,q3⟩=>?_))));exact wpAny_release ⟨σ,H3,I3,q3⟩
def RM(te:TE)(g:TG):TS:=λD σ H=>te σ H λx H1=>g x σ H1 D.nx
def Sw{tg e:Expr}{te:TE}{g:TG}(he:PE X e te)(hg:PG X tg g)(hs:swapsWithSole [tg] e pos.line X.env=pure false:=by rfl)(hw:swappedStores [tg] e X.env=pure none:=by rfl)
  (h1:(assignEach [tg] X.env).map (·.2)=[assign tg X.env]:=by rfl):PS X (.Assign [tg] e pos) (RM te g):=by
 intro WH s σ H D I h;refine wpAny_Assign_stores (sH (he WH s σ H _ I h) λv s1 zz=>x5 zz λx H1 I1 r1 q1=>?_) hs hw;rw[h1];exact sH (hg WH s1 σ H1 x v _ I1 r1 q1) λ_ s2 q=>q
def Ry{i:Nat}{x:Str}{e:Expr}{te:TE}{WT:Pos}(hN:X.N.Nodup)(hi:X.N[i]?=some x)(hx:Lc X.env.scope x)(he:PE X e te)(hs:swapsWith e (some (.Name x WT)) pos.line X.env=pure false:=by rfl)(hf:Nq X x:=by first|exact .inl rfl|exact .inr rfl|assumption):
  PS X (.Assign [.Name x WT] e pos) (RM te (Lq i)):=by
 intro WH s σ H D I h;refine wpAny_Assign_Name (sH (he WH s σ H _ I h) λv s1 zz=>x5 zz λy H1 I1 r1 q1=>?_) hs;exact Gq I1 hN hi hx r1 (λs2 I2=>⟨_,H1,I2,q1⟩) hf
def RC(c:TT)(tb:TS):TS:=λD σ H=>∃W:Nat->St->Hp->Prop,(∃m,W m σ H)/\∀m σ H,W m σ H->
 c σ H λb H1=>if b=true then ∃N:St->Hp->Prop,(∀σ' H',N σ' H'->∃m',m'<m/\W m' σ' H')/\tb {D with nx:=N,ct:=N,bk:=D.nx} σ H1 else D.nx σ H1
def MK{c:Expr}{body:List Stmt}{tc:TT}{tb:TS}(hp:PassesOwn (model X.prog X.w) X.A X.env X.xe)(hc:PT X c tc)(hb:B6 X body tb):PS X (.While c body [] pos) (RC tc tb):=by
 intro WH s σ H D I h;obtain⟨W,⟨m0,w0⟩,turn⟩:=h;refine wpAny_While (codeAny_whileLoop (λn s'=>∃σ' H',Inv X WH σ' H' s'/\W n σ' H') ?_ m0 ⟨σ,H,I,w0⟩)
 rintro n s1 ⟨σ1,H1,I1,w1⟩
 refine gD hp (sH (hc WH s1 σ1 H1 _ I1 (turn n σ1 H1 w1)) λb s2 ⟨H2,I2,q2⟩=>?_);cases b with
 | true=>
  obtain⟨N,hN,q2⟩:=q2;rw[df rfl];refine gD hp (sH (hb WH s2 σ1 H2 _ I2 q2) λf s3 q3=>?_);cases f with
  | next=>obtain⟨σ3,H3,I3,n3⟩:=q3;obtain⟨m',hm,w3⟩:=hN σ3 H3 n3;exact⟨m',hm,σ3,H3,I3,w3⟩
  | cont=>obtain⟨σ3,H3,I3,n3⟩:=q3;obtain⟨m',hm,w3⟩:=hN σ3 H3 n3;exact⟨m',hm,σ3,H3,I3,w3⟩
  | brk=>exact q3
  | ret v=>exact q3
 | false=>rw[cZ dB];exact gS ⟨σ1,H2,I2,q2⟩
structure It where
 go:Nat->Hp->Prop
 oO:Nat->Hp->V->Hp->Prop
 stop:Nat->Hp->Prop
def A9(X:Cx)(WH:QQY)(H:Hp)(b:Addr):Prop:=
 H b=none/\b≠X.env.locals/\b∉X.fs/\(b∈X.ex\/X.s₀.heap.objs.size<=b)/\(∀x c,X.env.cells.lookup x=some c->c≠b)/\∀p∈X.pn++WH,p.1≠b
def Inv.nY{X:Cx}{WH:QQY}{σ:St}{H H':Hp}{s:Sd}{b:Addr}(I:Inv X WH σ H s)(hb:s.heap.objs.size<=b)(hn:H' b=none):A9 X WH H' b:=by
 refine⟨hn,gM (dR I.lt hb),I.oR hb,.inr (d6 I.sz hb),λx c e z=>?_,λp hp z=>?_⟩
 .obtain⟨v,q⟩:=I.cell x c e;exact absurd (dR q.lt (by rw[z];exact hb)) (fi _)
 .exact absurd (dR (dA (I.pin p hp).1) (by rw[z];exact hb)) (fi _)
structure Gw(P:Pg)(w:Wo)(K:qu)(tg:Expr)(J:It)(fp:QXQ)(it:Addr)(tn:Nat->Heap->Prop):Prop where
 mem:it∈fp
 obj:∀i h,tn i h->∀b∈fp,∃o,h.get? b=some o/\∀v,o.data≠.cell v
 keep:∀i h h',tn i h->(∀b∈fp,∀o,h.get? b=some o->h'.get? b=some o)->tn i h'
 item:∀(X:Cx),X.prog=P->X.w=w->X.K=K->X.calm=true->∀(i:Nat) (WH:QQY) (s:Sd) (σ:St) (H:Hp) (E:QQX),Inv X WH σ H s->(∀b∈fp,A9 X WH H b)->tn i s.heap->J.go i H->
  wpAny (model P w) X.A (pyNext (.ref it)) (λr s1=>∃u,r=some u/\
   wpAny (model P w) X.A (letOwnedTupleGo tg (.ref it) u) (λ_ s2=>∃x H',Inv X WH σ H' s2/\qJ x u/\J.oO i H x H'/\tn (i+1) s2.heap/\∀b∈fp,H' b=none) E s1) E s
 done:∀(X:Cx),X.prog=P->X.w=w->X.K=K->X.calm=true->∀(i:Nat) (WH:QQY) (s:Sd) (σ:St) (H:Hp) (E:QQX),Inv X WH σ H s->(∀b∈fp,A9 X WH H b)->tn i s.heap->J.stop i H->
  wpAny (model P w) X.A (pyNext (.ref it)) (λr s1=>r=none/\Inv X WH σ H s1) E s
 self:∀(A:Ar) (i:Nat) (s:Sd) (Q:QQX) (E:QQX),tn i s.heap->Q (.ref it) s->wpAny (model P w) A (pyIter (.ref it)) Q E s
abbrev TI:=St->Hp->(It->Hp->Prop)->Prop
def Wf(X:Cx)(WH:QQY)(σ:St)(tg:Expr)(R:It->Hp->Prop)(itv:Vl)(s2:Sd):Prop:=
 ∃(it:Addr) (fp:QXQ) (tn:Nat->Heap->Prop) (J:It) (H':Hp),itv=.ref it/\Inv X WH σ H' s2/\Gw X.prog X.w X.K tg J fp it tn/\tn 0 s2.heap/\(∀b∈fp,A9 X WH H' b)/\R J H'
def PI(X:Cx)(tg iter:Expr)(wi:TI):Prop:=
 ∀(WH:QQY) (s:Sd) (σ:St) (H:Hp) (R:It->Hp->Prop),Inv X WH σ H s->wi σ H R->
  wpAny (model X.prog X.w) X.A (eval iter X.env) (λv s1=>wpAny (model X.prog X.w) X.A (pyIter v) (Wf X WH σ tg R) X.xe s1) X.xe s
def Je{M:Model}{A:Ar}{E:QQX}{s:Sd}{tg:Expr}{it:Addr}{u:Vl}{o:Obj}{n:String}{vs:Array Vl}{Q:Unit->Sd->Prop}(ho:s.heap.get? it=some o)(hc:o.cls=.type n)(hd:o.data=.fields vs) (hn:["enumerate","zip","dict_itemiterator","dict_reverseitemiterator","odict_iterator","itertools.zip_longest","itertools.pairwise"].contains n=false) (hQ:Q () s):wpAny M A (letOwnedTupleGo tg (.ref it) u) Q E s:=by
  unfold letOwnedTupleGo;cases tg<;>first
    | exact dq hQ
    | (cases u<;>first
        | exact dq hQ
        | (refine cW (wpAny_load ho ?_)
           rw[hc,hd];show wpAny M A (if (["enumerate","zip","dict_itemiterator","dict_reverseitemiterator","odict_iterator","itertools.zip_longest","itertools.pairwise"].contains n&&vs[0]?==some (rawInt _))=true then _ else _) Q E s;rw[cZ (by intro h;rw[hn,eR]at h;cases h)];exact dq hQ))
def UQ(K:qu)(a:Addr):It:=
 ⟨λi H=>∃xs x,yT K H a xs/\xs[i]?=some x,λi H x H'=>H'=H/\∀xs,yT K H a xs->xs[i]?=some x,λi H=>∃xs,yT K H a xs/\xs.length<=i⟩
def VA(K:qu)(a:Addr):It:=
 ⟨λi H=>∃xs x,ve K H a xs/\xs[i]?=some x,λi H x H'=>H'=H/\∀xs,ve K H a xs->xs[i]?=some x,λi H=>∃xs,ve K H a xs/\xs.length<=i⟩
def UL(lo:Int)(n:Nat):It:=⟨λi _=>i<n,λi H x H'=>H'=H/\x=.int (lo+i),λi _=>n<=i⟩
def Kz{P:Pg}{w:Wo}{K:qu}{tg:Expr}(a it:Addr):Gw P w K tg (UQ K a) [it] it (λi h=>h.IsListIter it a i) where
 mem:=by simp
 obj:=λi h st b hb=>by
  have e:b=it:=by simpa using hb
  subst e;obtain⟨o,e,c,d⟩:=st;exact⟨o,e,λv z=>by rw[d]at z;cases z⟩
 keep:=λi h h' st k=>st.at λo e=>k it (by simp) o e
 item:=by intro X hP hw hK hc i WH s σ H E I hf st hg;subst hP hw hK;obtain⟨xs,x,hq,hx⟩:=hg;obtain⟨its,rv,p,hz⟩:=I.list hq;obtain⟨u,hu,ru⟩:=rv.get hx;obtain⟨f0,f1,f2,f3,f4,f5⟩:=hf it (by simp);refine wpAny_pyNext_list_item st p.isList (x:=u) (by simpa using hu) λh' Xw sb=>?_;have I1:Inv X WH σ H {s with heap:=h'}:=I.turned (t':=s.toks) (λb o hb e=>(sb.2 b hb).trans e) f0 f1 f3 f4 f5;obtain⟨o,e,c,d⟩:=id Xw;exact⟨u,rfl,Je (s:={s with heap:=h'}) e c d (by decide) ⟨x,H,I1,ru,⟨rfl,λys hy=>by rw[I.nQ hy hq];exact hx⟩,Xw,λb hb=>(hf b hb).1⟩⟩
 done:=by intro X hP hw hK hc i WH s σ H E I hf st hg;subst hP hw hK;obtain⟨xs,hq,hx⟩:=hg;obtain⟨its,rv,p,hz⟩:=I.list hq;obtain⟨f0,f1,f2,f3,f4,f5⟩:=hf it (by simp);have hl:=rv.length;exact wpAny_pyNext_list_end (I.ok.hd hc) st p.isList (by simp;omega) λh' eb=>⟨rfl,I.turned (t':=s.toks) (λb o hb e=>eb b o hb e) f0 f1 f3 f4 f5⟩
 self:=λ_ _ _ _ _ st h=>wpAny_pyIter_listiter st h
def Ih{P:Pg}{w:Wo}{K:qu}{tg:Expr}(a it:Addr):Gw P w K tg (VA K a) [it] it (λi h=>h.IsTupleIter it a i) where
 mem:=by simp
 obj:=λi h st b hb=>by
  have e:b=it:=by simpa using hb
  subst e;obtain⟨o,e,c,d⟩:=st;exact⟨o,e,λv z=>by rw[d]at z;cases z⟩
 keep:=λi h h' st k=>st.at λo e=>k it (by simp) o e
 item:=by intro X hP hw hK hc i WH s σ H E I hf st hg;subst hP hw hK;obtain⟨xs,x,hq,hx⟩:=hg;obtain⟨its,rv,p,hz⟩:=I.tuple hq;obtain⟨u,hu,ru⟩:=rv.get hx;obtain⟨f0,f1,f2,f3,f4,f5⟩:=hf it (by simp);refine wpAny_pyNext_tuple_item st (show s.heap.IsTuple a its.toArray from p) (x:=u) (by simpa using hu) λh' Xw sb=>?_;have I1:Inv X WH σ H {s with heap:=h'}:=I.turned (t':=s.toks) (λb o hb e=>(sb.2 b hb).trans e) f0 f1 f3 f4 f5;obtain⟨o,e,c,d⟩:=id Xw;exact⟨u,rfl,Je (s:={s with heap:=h'}) e c d (by decide) ⟨x,H,I1,ru,⟨rfl,λys hy=>by rw[I.nv hy hq];exact hx⟩,Xw,λb hb=>(hf b hb).1⟩⟩
 done:=by intro X hP hw hK hc i WH s σ H E I hf st hg;subst hP hw hK;obtain⟨xs,hq,hx⟩:=hg;obtain⟨its,rv,p,hz⟩:=I.tuple hq;obtain⟨f0,f1,f2,f3,f4,f5⟩:=hf it (by simp);have hl:=rv.length;exact wpAny_pyNext_tuple_end (I.ok.hd hc) st (show s.heap.IsTuple a its.toArray from p) (by simp;omega) λh' eb=>⟨rfl,I.turned (t':=s.toks) (λb o hb e=>eb b o hb e) f0 f1 f3 f4 f5⟩
 self:=λ_ _ _ _ _ st h=>wpAny_pyIter_tupleiter st h
def Hx{P:Pg}{w:Wo}{K:qu}{tg:Expr}(it:Addr)(lo:Int)(n:Nat):Gw P w K tg (UL lo n) [it] it (λi h=>IsRangeIter h it (lo+(i:Nat)*1) ((n:Int) - (i:Nat)) 1) where
 mem:=by simp
 obj:=λi h st b hb=>by
  have e:b=it:=by simpa using hb
  subst e;exact⟨_,st,λv z=>by
   have z':Data.fields _=Data.cell v:=z;cases z'⟩
 keep:=λi h h' st k=>k it (by simp) _ st
 item:=by intro X hP hw hK hc i WH s σ H E I hf st hg;subst hP hw hK;obtain⟨f0,f1,f2,f3,f4,f5⟩:=hf it (by simp);have W:=Walks.range (prog:=X.prog) (w:=X.w) (I.ok.hd hc) it lo 1 n;refine W.item i s _ _ hg st λv h' tk hv Xw kk=>?_;obtain⟨t,rfl⟩:=hv;have I1:Inv X WH σ H {s with heap:=h',toks:=tk}:=I.turned (λb o hb e=>kk b o (by simpa using hb) e) f0 f1 f3 f4 f5;refine⟨_,rfl,Je (s:={s with heap:=h',toks:=tk}) (n:="range_iterator") Xw rfl rfl (by decide) ⟨.int (lo+i),H,I1,⟨t,?_⟩,⟨rfl,rfl⟩,Xw,λb hb=>(hf b hb).1⟩⟩;rw[Int.mul_one]
 done:=by intro X hP hw hK hc i WH s σ H E I hf st hg;subst hP hw hK;obtain⟨f0,f1,f2,f3,f4,f5⟩:=hf it (by simp);exact wpAny_pyNext_range_end (I.ok.hd hc) st (by have:n<=i:=hg;omega) λh' eb=>⟨rfl,I.turned (t':=s.toks) (λb o hb e=>eb b o hb e) f0 f1 f3 f4 f5⟩
 self:=λ_ _ _ _ _ st h=>wpAny_pyIter_rangeiter st h
variable {tg:Expr}
def LQ{WH:QQY}{σ:St}{H:Hp}{s:Sd}{R:It->Hp->Prop}{E:QQX}{lo hi:Int}{t u v:Tok}{tk:Nat}(I:Inv X WH σ H s)(h1:-(2 ^ 62)<=lo)(h2:lo<2 ^ 62)(h3:-(2 ^ 62)<=hi)(h4:hi<2 ^ 62) (q:R (UL lo (hi - lo).toNat) H):wpAny (model X.prog X.w) X.A (pyIter (.ref s.heap.objs.size)) (Wf X WH σ tg R) E {s with heap:=s.heap.push {cls:=.type "range",data:=.fields #[.int lo t,.int hi u,.int 1 v]},toks:=tk}:=by
 refine wpAny_pyIter_range (IsRange.new ..) (small_one h1 h2 h3 h4) ?_;have I1:Inv X WH σ H {s with heap:=s.heap.push {cls:=.type "range",data:=.fields #[.int lo t,.int hi u,.int 1 v]},toks:=tk}:=I.kept λb o e=>de _ e;refine⟨(s.heap.push {cls:=.type "range",data:=.fields #[.int lo t,.int hi u,.int 1 v]}).objs.size,[(s.heap.push {cls:=.type "range",data:=.fields #[.int lo t,.int hi u,.int 1 v]}).objs.size],_,_,H,rfl,I1.kept (t':=tk) λb o e=>de _ e,Hx _ lo (hi - lo).toNat,?_,λb hb=>?_,q⟩
 .have e1:lo+((0:Nat):Int)*1=lo:=by simp
  have e2:(((hi - lo).toNat:Nat):Int) - ((0:Nat):Int)=Builtin.Range.rangeSize lo hi 1:=by rw[rangeSize_one];split<;>omega
  show IsRangeIter _ _ (lo+((0:Nat):Int)*1) ((((hi - lo).toNat:Nat):Int) - ((0:Nat):Int)) 1;rw[e1,e2];exact dI _ rfl
 .have e:b=(s.heap.push {cls:=.type "range",data:=.fields #[.int lo t,.int hi u,.int 1 v]}).objs.size:=by simpa using hb
  subst e;exact I1.nY (dv _) (I1.mV.fresh (dv _))
def Ts(ta:TA):TI:=λσ H R=>ta σ H λvs H1=>∃j:Int,vs=[.int j]/\-(2 ^ 62)<=j/\j<2 ^ 62/\R (UL 0 j.toNat) H1
def Kb{a:Expr}{ta:TA}{p pos:Pos}(hg:Gl X "range")(hm:X.mg "range"=none)(ha:PA X [a] ta)(hs:starEach [a] X.env=[(false,eval a X.env)]:=by rfl):PI X tg (.Call (.Name "range" p) [a] [] pos) (Ts ta):=by
 intro WH s σ H R I h;refine Call_ (wF I hg hm boot_range (fZ (sH (ha pos WH s σ H _ I h) λus s1 zz=>x5 zz λvs H1 I1 r1 q1=>?_) hs rfl));obtain⟨j,e,q1,q2,q⟩:=q1;subst e;cases r1 with
 | cons r rr=>cases rr;obtain⟨t,rfl⟩:=r;exact call_range_1 (LQ I1 (by omega) (by omega) q1 q2 (by simpa using q))
def VW(wi:TI)(g:TG)(tb:TS):TS:=λD σ H=>wi σ H λJ H1=>∃W:Nat->Nat->St->Hp->Prop,(∃m,W 0 m σ H1)/\∀i m σ H,W i m σ H->
 (J.stop i H/\D.nx σ H)\/(J.go i H/\∃N:St->Hp->Prop,(∀σ' H',N σ' H'->∃m',m'<m/\W (i+1) m' σ' H')/\∀x H',J.oO i H x H'->g x σ H' λσ2 H2=>tb {D with nx:=N,ct:=N,bk:=D.nx} σ2 H2)
def Cb(fp:QXQ)(h:Heap):QQY:=fp.filterMap λb=>(h.get? b).map λo=>(b,o)
def vj{fp:QXQ}{h:Heap}{b:Addr}{o:Obj}(hb:b∈fp)(e:h.get? b=some o):(b,o)∈Cb fp h:=kP.mpr ⟨b,hb,by rw[e];rfl⟩
def Kd{fp:QXQ}{h:Heap}{p:Addr×Obj}(hp:p∈Cb fp h):p.1∈fp/\h.get? p.1=some p.2:=by
 obtain⟨b,hb,e⟩:=kP.mp hp;cases q:h.get? b with
 | none=>rw[q]at e;cases e
 | some o=>rw[q]at e;have e':(b,o)=p:=dh e;subst e';exact⟨hb,q⟩
def Inv.pinned{WH:QQY}{σ:St}{H:Hp}{s:Sd}{fp:QXQ}(I:Inv X WH σ H s)(hf:∀b∈fp,A9 X WH H b)(ho:∀b∈fp,∃o,s.heap.get? b=some o/\∀v,o.data≠.cell v):Inv X (WH++Cb fp s.heap) σ H s:=
 I.nP λp hp=>(dY.mp hp).elim (λz=>I.pin p (eF _ z)) λz=>by obtain⟨hb,e⟩:=Kd z;obtain⟨f0,f1,f2,_⟩:=hf p.1 hb;obtain⟨o,e',d⟩:=ho p.1 hb;rw[e]at e';cases e';exact⟨e,f0,f1,f2,d⟩
def Inv.ni{WH pl:QQY}{σ:St}{H:Hp}{s:Sd}(I:Inv X (WH++pl) σ H s):Inv X WH σ H s:=I.nP λp hp=>I.pin p (eF _ (fF _ hp))
def Sf{iter:Expr}{body:List Stmt}{wi:TI}{g:TG}{tb:TS}{pos:Pos}(hp:PassesOwn (model X.prog X.w) X.A X.env X.xe)(hc:X.calm=true)(hi:PI X tg iter wi)(hg:PG X tg g)(hb:B6 X body tb) (hs:∀x,foldedSetIterable iter X.env x=pure x:=by intro _;rfl):PS X (.For tg iter body [] pos) (VW wi g tb):=by
 intro WH s σ H D I h;refine wpAny_For (sH (hi WH s σ H _ I h) λv s1 h1=>sH h1 λitv s2 h2=>?_) hs;obtain⟨it,fp,tn,J,H2,e,I2,T,W7,f2,W,⟨m0,w0⟩,turn⟩:=h2;subst e;have XX:∀{H':Hp},(∀b∈fp,H' b=none)->∀b∈fp,A9 X WH H' b:=λhn b hb=>⟨hn b hb,(f2 b hb).2⟩;refine codeAny_forLoop_any (λn s'=>∃i σ' H',Inv X WH σ' H' s'/\tn i s'.heap/\(∀b∈fp,H' b=none)/\W i n σ' H') ?_ m0 ⟨0,σ,H2,I2,W7,λb hb=>(f2 b hb).1,w0⟩
 rintro n s3 ⟨i,σ3,H3,I3,Xs,fr3,w3⟩
 rcases turn i n σ3 H3 w3 with⟨stop,qn⟩|⟨go,N,hN,step⟩
 .refine gD hp (sH (T.done X rfl rfl rfl hc i WH s3 σ3 H3 X.xe I3 (XX fr3) Xs stop) λr s4 ⟨hr,I4⟩=>?_);subst hr;exact gS ⟨σ3,H3,I4,qn⟩
 .refine gD hp (sH (T.item X rfl rfl rfl hc i WH s3 σ3 H3 X.xe I3 (XX fr3) Xs go) λr s4 ⟨u,hr,h4⟩=>?_);subst hr;refine gD hp (sH h4 λ_ s5 zz=>?_);obtain⟨x,H5,I5,r5,y5,Za,fr5⟩:=zz;have I5':=I5.pinned (XX fr5) (T.obj _ _ Za);refine gD hp (sH (hg _ s5 σ3 H5 x u _ I5' r5 (step x H5 y5)) λ_ s6 ⟨σ6,H6,I6,q6⟩=>?_);refine gD hp (sH (hb _ s6 σ6 H6 _ I6 q6) λf s7 q7=>?_);have again:∀{σ7:St} {H7:Hp},Inv X (WH++Cb fp s5.heap) σ7 H7 s7->N σ7 H7->∃m,m<n/\∃i σ' H',Inv X WH σ' H' s7/\tn i s7.heap/\(∀b∈fp,H' b=none)/\W i m σ' H':=λ{σ7 H7} I7 n7=>by obtain⟨m',hm,w7⟩:=hN σ7 H7 n7;refine⟨m',hm,i+1,σ7,H7,I7.ni,T.keep _ _ _ Za λb hb o e=>(I7.pin (b,o) (eF _ (eF _ (vj hb e)))).1,λb hb=>?_,w7⟩;obtain⟨o,e,d⟩:=T.obj _ _ Za b hb;exact(I7.pin (b,o) (eF _ (eF _ (vj hb e)))).2.1
  cases f with
  | next=>obtain⟨σ7,H7,I7,n7⟩:=q7;exact again I7 n7
  | cont=>obtain⟨σ7,H7,I7,n7⟩:=q7;exact again I7 n7
  | brk=>obtain⟨σ7,H7,I7,q7⟩:=q7;exact⟨σ7,H7,I7.ni,q7⟩
  | ret v=>obtain⟨x7,σ7,H7,I7,r7,q7⟩:=q7;exact⟨x7,σ7,H7,I7.ni,r7,q7⟩
abbrev R2:=V->V->Hp->VK->Prop
def xp(X:Cx)(f:Vl->Vl->Sem Vl)(r:R2):Prop:=
 ∀(WH:QQY) (s:Sd) (σ:St) (H:Hp) (x y:V) (v u:Vl) (Q:VK),Inv X WH σ H s->qJ x v->qJ y u->r x y H Q->
  wpAny (model X.prog X.w) X.A (f v u) (EP X WH σ Q) X.xe s
def Vc(X:Cx)(f:Vl->Sem Vl)(r:V->Hp->VK->Prop):Prop:=
 ∀(WH:QQY) (s:Sd) (σ:St) (H:Hp) (x:V) (v:Vl) (Q:VK),Inv X WH σ H s->qJ x v->r x H Q->
  wpAny (model X.prog X.w) X.A (f v) (EP X WH σ Q) X.xe s
def yu(X:Cx)(f:Vl)(r:List V->Hp->VK->Prop):Prop:=
 ∀(WH:QQY) (s:Sd) (σ:St) (H:Hp) (xs:List V) (us:List Vl) (Q:VK),Inv X WH σ H s->qE xs us->r xs H Q->
  wpAny (model X.prog X.w) X.A (call f us) (EP X WH σ Q) X.xe s
def Tb(r:R2)(ta tb:TE):TE:=λσ H Q=>ta σ H λx H1=>tb σ H1 λy H2=>r x y H2 Q
def Wy(r:V->Hp->VK->Prop)(ta:TE):TE:=λσ H Q=>ta σ H λx H1=>r x H1 Q
def rI(C:Int->Int->Prop)(g:Int->Int->V):R2:=λx y H Q=>∃i j,x=.int i/\y=.int j/\C i j/\Q (g i j) H
def QC(g:Int->Int->V):R2:=λx y H Q=>∃i j,x=.int i/\y=.int j/\Q (g i j) H
def rU(g:Int->V):V->Hp->VK->Prop:=λx H Q=>∃i,x=.int i/\Q (g i) H
variable {tc:TE}
section
variable {a b c:Expr}
def So(ha:PE X a ta)(hb:PE X b tb){WH:QQY}{s:Sd}{σ:St}{H:Hp}{R:V->V->Hp->Prop}(I:Inv X WH σ H s) (h:ta σ H λx H1=>tb σ H1 λy H2=>R x y H2) {Q:QQX} {f:Vl->Vl->Sem Vl} (hf:∀v u s2 x y H2,Inv X WH σ H2 s2->qJ x v->qJ y u->R x y H2->wpAny (model X.prog X.w) X.A (f v u) Q X.xe s2):
  wpAny (model X.prog X.w) X.A (eval a X.env) (λv s₁=>wpAny (model X.prog X.w) X.A (eval b X.env) (λu s₂=>wpAny (model X.prog X.w) X.A (f v u) Q X.xe s₂) X.xe s₁) X.xe s:=by
 refine sH (ha WH s σ H _ I h) λv s1 zz=>x5 zz λx H1 I1 r1 q1=>?_;refine sH (hb WH s1 σ H1 _ I1 q1) λu s2 zz=>x5 zz λy H2 I2 r2 q2=>?_;exact hf v u s2 x y H2 I2 r1 r2 q2
def Qs{op:Operator}{r:R2}(ho:xp X (binaryOp op) r)(ha:PE X a ta)(hb:PE X b tb):PE X (.BinOp a op b pos) (Tb r ta tb):=by intro WH s σ H Q I h;exact wpAny_BinOp (So ha hb I h λv u s2 x y H2 I2 rx ry q=>ho WH s2 σ H2 x y v u Q I2 rx ry q)
def Ur{op:UnaryOp}{r:V->Hp->VK->Prop}(ho:Vc X (unaryOp op) r)(ha:PE X a ta):PE X (.UnaryOp op a pos) (Wy r ta):=by intro WH s σ H Q I h;exact UnaryOp_ (sH (ha WH s σ H _ I h) λv s1 zz=>x5 zz λx H1 I1 r1 q1=>ho WH s1 σ H1 x v Q I1 r1 q1)
def Vf{f:Vl->Vl->Sem Vl}{C:Int->Int->Prop}{g:Int->Int->Int} (rule:∀(i j:Int) (t u:Tok) (s:Sd) (Q:QQX) (E:QQX),C i j->Q (.int (g i j) s.toks) {s with toks:=s.toks+1}->wpAny (model X.prog X.w) X.A (f (.int i t) (.int j u)) Q E s):
  xp X f (rI C λi j=>.int (g i j)):=by
 intro WH s σ H x y v u Q I rx ry h;obtain⟨i,j,rfl,rfl,hc,q⟩:=h;obtain⟨t,rfl⟩:=rx;obtain⟨t',rfl⟩:=ry;exact rule i j t t' s _ _ hc ⟨.int (g i j),H,I.tok _,⟨_,rfl⟩,q⟩
def Td{f:Vl->Vl->Sem Vl}{g:Int->Int->Int} (rule:∀(i j:Int) (t u:Tok) (s:Sd) (Q:QQX) (E:QQX),Q (.int (g i j) s.toks) {s with toks:=s.toks+1}->wpAny (model X.prog X.w) X.A (f (.int i t) (.int j u)) Q E s):
  xp X f (QC λi j=>.int (g i j)):=by
 intro WH s σ H x y v u Q I rx ry h;obtain⟨i,j,rfl,rfl,q⟩:=h;obtain⟨t,rfl⟩:=rx;obtain⟨t',rfl⟩:=ry;exact rule i j t t' s _ _ ⟨.int (g i j),H,I.tok _,⟨_,rfl⟩,q⟩
def P5{f:Vl->Vl->Sem Vl}{g:Int->Int->Bool} (rule:∀(i j:Int) (t u:Tok) (s:Sd) (Q:QQX) (E:QQX),Q (.bool (g i j)) s->wpAny (model X.prog X.w) X.A (f (.int i t) (.int j u)) Q E s):
  xp X f (QC λi j=>.bl (g i j)):=by
 intro WH s σ H x y v u Q I rx ry h;obtain⟨i,j,rfl,rfl,q⟩:=h;obtain⟨t,rfl⟩:=rx;obtain⟨t',rfl⟩:=ry;exact rule i j t t' s _ _ ⟨.bl (g i j),H,I,rfl,q⟩
def TQ(i j:Int):Prop:=0<j/\j<1073741824
def CM(i j:Int):Prop:=(-(2 ^ 64)<i/\i<2 ^ 64)\/(-(2 ^ 64)<j/\j<2 ^ 64)
def CM.ok{i j:Int}(h:CM i j):IntMulOk i j:=by
 rcases h with⟨h1,h2⟩|⟨h1,h2⟩
 .exact .of_left (intBits_le_64 h1 h2)
 .exact .of_right (intBits_le_64 h1 h2)
def Rv:xp X (binaryOp .Add) (QC λi j=>.int (i+j)):=Td λ_ _ _ _ _ _ _ q=>add_int q
def QN:xp X (binaryOp .Sub) (QC λi j=>.int (i - j)):=Td λ_ _ _ _ _ _ _ q=>sub_int q
def Rk:xp X (binaryOp .Mult) (rI CM λi j=>.int (i*j)):=Vf λ_ _ _ _ _ _ _ hc q=>mul_int q hc.ok
def N0:xp X (binaryOp .FloorDiv) (rI TQ λi j=>.int (i / j)):=Vf λi j _ _ _ _ _ hc q=>by have h1:(0:Int)<j:=hc.1;have h2:j<1073741824:=hc.2;exact floordiv_int (by omega) (by rw[Int.fdiv_eq_ediv_of_nonneg i (by omega)];exact q) (.inl (PyProof.noPylong_small (by omega)))
def SC:xp X (binaryOp .Mod) (rI (λ_ j=>0<j) λi j=>.int (i % j)):=Vf λi j _ _ _ _ _ hc q=>by have h1:(0:Int)<j:=hc;exact mod_int' (by omega) (by rw[Int.fmod_eq_emod_of_nonneg i (by omega)];exact q)
def WB{f:Vl->Sem Vl}{g:Int->Int} (rule:∀(i:Int) (t:Tok) (s:Sd) (Q:QQX) (E:QQX),Q (.int (g i) s.toks) {s with toks:=s.toks+1}->wpAny (model X.prog X.w) X.A (f (.int i t)) Q E s):
  Vc X f (rU λi=>.int (g i)):=by
 intro WH s σ H x v Q I rx h;obtain⟨i,rfl,q⟩:=h;obtain⟨t,rfl⟩:=rx;exact rule i t s _ _ ⟨.int (g i),H,I.tok _,⟨_,rfl⟩,q⟩
def Sh:Vc X (unaryOp .USub) (rU λi=>.int (-i)):=WB λ_ _ _ _ _ q=>neg_int q
end
section
variable {a b c:Expr}
def HL{WH:QQY}{σ:St}{H:Hp}{s:Sd}{Q:VK}{k k':Bool}(I:Inv X WH σ H s)(q:Q (.bl k) H)(e:k=k'):EP X WH σ Q (.bool k') s:=by subst e;exact⟨.bl k,H,I,rfl,q⟩
def Ub:xp X (compareOp .Lt) (QC λi j=>.bl (decide (i<j))):=P5 λ_ _ _ _ _ _ _ q=>lt_int q
def S8:xp X (compareOp .LtE) (QC λi j=>.bl (decide (i<=j))):=P5 λ_ _ _ _ _ _ _ q=>le_int q
def Tr:xp X (compareOp .Gt) (QC λi j=>.bl (decide (j<i))):=P5 λ_ _ _ _ _ _ _ q=>gt_int q
def T1:xp X (compareOp .GtE) (QC λi j=>.bl (decide (j<=i))):=P5 λ_ _ _ _ _ _ _ q=>ge_int q
def JJ:xp X (compareOp .In) (λx y H Q=>∃i j,x=.str i/\y=.str j/\Q (.bl (!(Builtin.Str.occurrences j i 0 j.length 1).isEmpty)) H):=by intro WH s σ H x y v u Q I rx ry h;obtain⟨i,j,rfl,rfl,q⟩:=h;obtain⟨t,rfl⟩:=rx;obtain⟨t',rfl⟩:=ry;exact in_str (HL I q rfl)
def Sm:xp X (compareOp .Is) (λx y H Q=>y=.mS/\Q (.bl (decide (x=.mS))) H):=by
 intro WH s σ H x y v u Q I rx ry h;obtain⟨rfl,q⟩:=h;cases ry;refine is_none_gen (HL I q ?_);cases x<;>first
  | (cases rx;rfl)
  | (obtain⟨t,rfl⟩:=rx;rfl)
def Pv:xp X (compareOp .IsNot) (λx y H Q=>y=.mS/\Q (.bl (!decide (x=.mS))) H):=by
 intro WH s σ H x y v u Q I rx ry h;obtain⟨rfl,q⟩:=h;cases ry;refine isnot_none_gen (HL I q ?_);cases x<;>first
  | (cases rx;rfl)
  | (obtain⟨t,rfl⟩:=rx;rfl)
def BZ(b:Expr){op:CmpOp}(h:op≠.In:=by decide)(h2:op≠.NotIn:=by decide):behindInMarks op b=false:=by
 have e1:(op==CmpOp.In)=false:=by cases op<;>first|rfl|exact absurd rfl h
 have e2:(op==CmpOp.NotIn)=false:=by cases op<;>first|rfl|exact absurd rfl h2
 cases b<;>simp[behindInMarks,e1,e2]
def Fk{op:CmpOp}{r:R2}(ho:xp X (compareOp op) r)(ha:PE X a ta)(hb:PE X b tb)(hm:behindInMarks op b=false):PE X (.Compare a [op] [b] pos) (Tb r ta tb):=by intro WH s σ H Q I h;exact wpAny_Compare1 (So ha hb I h λv u s2 x y H2 I2 rx ry q=>ho WH s2 σ H2 x y v u Q I2 rx ry q) hm
def Qw(t:TE):TT:=λσ H Q=>t σ H λx H'=>∃k,x=.bl k/\Q k H'
def D4{op:CmpOp}{r:R2}(ho:xp X (compareOp op) r)(ha:PE X a ta)(hb:PE X b tb)(hm:behindInMarks op b=false):PT X (.Compare a [op] [b] pos) (Qw (Tb r ta tb)):=by
 intro WH s σ H Q I h;refine wpAny_isTrue_Compare1 (sH (ha WH s σ H _ I h) λv s1 zz=>x5 zz λx H1 I1 r1 q1=>sH (hb WH s1 σ H1 _ I1 q1) λu s2 zz=>x5 zz λy H2 I2 r2 q2=>
  sH (ho WH s2 σ H2 x y v u _ I2 r1 r2 q2) λc s3 zz=>?_) hm
 obtain⟨z,H3,I3,r3,k,e,q3⟩:=zz;subst e;cases r3;exact fm ⟨H3,I3,q3⟩
def MN(r r':R2)(ta tb tc:TE):TE:=λσ H Q=>ta σ H λx H1=>tb σ H1 λy H2=>r x y H2 λz H3=>∃k,z=.bl k/\
 (if k=true then tc σ H3 λw' H4=>r' y w' H4 Q else Q (.bl false) H3)
def L'{op Xx:CmpOp}{r r':R2}(ho:xp X (compareOp op) r)(Xn:xp X (compareOp Xx) r')(ha:PE X a ta)(hb:PE X b tb)(hc:PE X c tc) (hm:lastMarks [op,Xx] [b,c]=false:=by with_unfolding_all rfl):PE X (.Compare a [op,Xx] [b,c] pos) (MN r r' ta tb tc):=by
 intro WH s σ H Q I h;refine Compare_chain (sH (ha WH s σ H _ I h) λv s1 zz=>x5 zz λx H1 I1 r1 q1=>chain_link (sH (hb WH s1 σ H1 _ I1 q1) λu s2 zz=>x5 zz λy H2 I2 r2 q2=>
  sH (ho WH s2 σ H2 x y v u _ I2 r1 r2 q2) λd s3 zz=>?_)) hm
 obtain⟨z,H3,I3,r3,k,e,q3⟩:=zz;subst e;cases r3;refine fm ?_;cases k with
 | false=>exact ite_ff ⟨.bl false,H3,I3,rfl,q3⟩
 | true=>exact ite_tt (chain_last (sH (hc WH s3 σ H3 _ I3 q3) λw' s4 zz=>x5 zz λz' H4 I4 r4 q4=>Xn WH s4 σ H4 y z' u w' Q I4 r2 r4 q4))
def Na{op Xx:CmpOp}{r r':R2}(ho:xp X (compareOp op) r)(Xn:xp X (compareOp Xx) r')(ha:PE X a ta)(hb:PE X b tb)(hc:PE X c tc) (hm:lastMarks [op,Xx] [b,c]=false:=by with_unfolding_all rfl):PT X (.Compare a [op,Xx] [b,c] pos) (Qw (MN r r' ta tb tc)):=by
 intro WH s σ H Q I h;refine isTrue_chain (sH (ha WH s σ H _ I h) λv s1 zz=>x5 zz λx H1 I1 r1 q1=>test_link (sH (hb WH s1 σ H1 _ I1 q1) λu s2 zz=>x5 zz λy H2 I2 r2 q2=>
  sH (ho WH s2 σ H2 x y v u _ I2 r1 r2 q2) λd s3 zz=>?_)) hm
 obtain⟨z,H3,I3,r3,k,e,q3⟩:=zz;subst e;cases r3;refine fm ?_;cases k with
 | false=>obtain⟨k',e',q'⟩:=q3;cases e';exact ite_ff ⟨H3,I3,q'⟩
 | true=>refine ite_tt (test_last (sH (hc WH s3 σ H3 _ I3 q3) λw' s4 zz=>x5 zz λz' H4 I4 r4 q4=>sH (Xn WH s4 σ H4 y z' u w' _ I4 r2 r4 q4) λd' s5 zz=>?_));obtain⟨z2,H5,I5,r5,k2,e2,q5⟩:=zz;subst e2;cases r5;exact fm ⟨H5,I5,q5⟩
def yK:(sizeLine:Nat)<2 ^ 63:=by rw[dN];decide
def Hu:xp X (binaryOp .Add) (λx y H Q=>∃i j,x=.str i/\y=.str j/\i.length+j.length<=sizeLine/\Q (.str (i++j)) H):=by intro WH s σ H x y v u Q I rx ry h;obtain⟨i,j,rfl,rfl,hz,q⟩:=h;obtain⟨t,rfl⟩:=rx;obtain⟨t',rfl⟩:=ry;exact add_str (λt' tk=>⟨.str (i++j),H,I.tok _,⟨_,rfl⟩,q⟩) hz
def xl{x:V}{us:List Vl}(r:qE [x] us):∃u,us=[u]/\qJ x u:=by
 cases r with
 | cons r1 r2=>cases r2;exact⟨_,rfl,r1⟩
def L8{x y:V}{us:List Vl}(r:qE [x,y] us):∃u w',us=[u,w']/\qJ x u/\qJ y w':=by
 cases r with
 | cons r1 r2=>
  cases r2 with
  | cons r3 r4=>cases r4;exact⟨_,_,rfl,r1,r3⟩
def JK(hc:X.calm=true):yu X (.builtin "min") (λxs H Q=>∃i j,xs=[.int i,.int j]/\Q (.int (if j<i then j else i)) H):=by
 intro WH s σ H xs us Q I r h;obtain⟨i,j,rfl,q⟩:=h;obtain⟨u,w',rfl,⟨t,rfl⟩,⟨t',rfl⟩⟩:=L8 r;refine min_two_ints (I.ok.hd hc) λh' tk k=>⟨_,H,I.kept k,?_,q⟩;by_cases hj:j<i
 .rw[df hj,df hj];exact⟨_,rfl⟩
 .rw[cZ hj,cZ hj];exact⟨_,rfl⟩
def DZ:yu X (.type "int") (λxs H Q=>(∃i,xs=[.int i]/\Q (.int i) H)\/∃k,xs=[.bl k]/\Q (.int (if k then 1 else 0)) H):=by
 intro WH s σ H xs us Q I r h;rcases h with⟨i,rfl,q⟩|⟨k,rfl,q⟩
 .obtain⟨u,rfl,t,rfl⟩:=xl r;exact call_int_int ⟨.int i,H,I,⟨_,rfl⟩,q⟩
 .obtain⟨u,rfl,r1⟩:=xl r;cases r1;exact call_int_bool ⟨.int (if k then 1 else 0),H,I.tok _,⟨_,rfl⟩,q⟩
end
structure Hq(h:Heap)(x dx C:Addr)(mA:QQZ):Prop where
 obj:h.get? x=some (W.instObj C dx)
 ns:h.Ns1 dx mA
 ne:dx≠x
def JP{h:Heap}{dx:Addr}{mA:QQZ}(n:h.Ns1 dx mA):∃od,h.get? dx=some od/\∀name,W.lookIn name od=some (mA name):=by
 obtain⟨o,es,ep,ho,hd,hk,_,hm⟩:=n;refine⟨o,ho,λname=>?_⟩;have e:=hm name;unfold nsFind findBy at e;rw[<-Array.find?_toList]at e;unfold W.lookIn;rw[hd];dsimp only;split
 .rename_i y q;rw[q]at e;exact eX some e
 .rename_i q;rw[q]at e;have a:es.toList.any (·.refKey)=false:=by rw[lj];intro y hy;obtain⟨z,t,hkey⟩:=hk y (km.mp hy);simp[DictEntry.refKey,hkey]
  have a':¬es.toList.any (·.refKey)=true:=by rw[a];exact dB
  rw[cZ a'];exact eX some e
def Hq.look{h:Heap}{x dx C:Addr}{mA:QQZ}(I:Hq h x dx C mA):∃od,W.InstAt h x (W.instObj C dx) C (some od)/\∀name,W.lookIn name od=some (mA name):=
 let⟨od,ho,hl⟩:=JP I.ns
 ⟨od,⟨I.obj,rfl,rfl,ho⟩,hl⟩
variable {prog:Pg}{A:Ar}{K:qu}{dx C:Addr}{mA:QQZ}{name:Str}
section
variable {w:Wo}{E:QQX}{x f:Addr}{v:Vl}
def Qh{expr:Bool}{Q:QQX}(X:K.In s.heap)(I:Hq s.heap x dx C mA)(hg:W.plainGet K C name=true)(hh:W.hasDictIn K C=true) (ha:W.findIn K (.ref C) name=some none) (hv:mA name=some v) (hv':W.handedIn v=true) (h:Q v {s with toks:=s.toks+1}):
  wpAny (model prog w) A (getAttr (.ref x) name expr) Q E s:=by
 obtain⟨od,J,hl⟩:=I.look;exact W.get_value X J (kz hg).1 (W.findObj_own hh ha rfl (by rw[hl,hv])) hv' h
def KQ{pl:Sem Bool}{Q:Vl×List Vl->Sd->Prop}(X:K.In s.heap)(I:Hq s.heap x dx C mA)(hg:W.plainGet K C name=true) (hf:W.findIn K (.ref C) name=some (some (.ref f))) (ht:W.isFn K (.ref f)=true) (hv:mA name=none) (h:Q (.ref f,[.ref x]) s):
  wpAny (model prog w) A (getMethod (.ref x) name pl) Q E s:=by
 obtain⟨od,J,hl⟩:=I.look;exact W.method_fn X J (kz hg).1 (kz hg).2 hf (fj.mp ht) (by show(W.lookIn name od).map (·.isSome)=some false;rw[hl,hv];rfl) h
def PK{ns:QQQ}{Q:Unit->Sd->Prop}(X:K.In s.heap)(I:Hq s.heap x dx C mA) (hs:W.findIn K (.ref C) "__setattr__"=some (some (.builtin "object.__setattr__"))) (hp:W.plainOver K C=true) (ht:W.takerIn K C name=some none) (hh:W.hasDictIn K C=true) (hw:PySem.Within mA ns) (hsz:ns.length<=sizeLine) (h:∀h',Hq h' x dx C (λy=>if y=name then some v else mA y)->Heap.SameBut dx s.heap h'->Q () {s with heap:=h',toks:=s.toks+2}):
  wpAny (model prog w) A (setAttr (.ref x) name v) Q E s:=by
 obtain⟨od,J,hl⟩:=I.look;refine W.set_plain X J hs (W.osa_open (s:={s with toks:=s.toks+1}) (r:=none) X J hp ht λb=>?_);obtain⟨cd,hc,hd'⟩:=W.any_some hh;have hx:s.heap.get? x=some ⟨.ref C,some dx,.plain,#[]⟩:=I.obj;refine cW (dq (cW (cW (wpAny_loadPart hx (cW (mw (s:={s with toks:=s.toks+1}) (kA X hc) ?_))))));rw[hd'];refine dq (a:=some dx) (cW (dq (cW ?_)));refine wpAny_nsSet1 (s:={s with toks:=s.toks+1}) I.ns λh' Zq Yo=>?_;obtain⟨oD,esD,epD,hoD,CF,hcD⟩:=Zq.count (PySem.Within.cons name v hw);refine cW (lL hoD (by rw[CF];exact lM (d6 hcD (by rw[d9];omega))) ?_);exact dq (h _ ⟨(Yo.2 _ (dP I.ne)).trans I.obj,Zq,I.ne⟩ Yo)
def Mi{R:Result->Sd->Prop}{vs:List Vl}{kw:List (Str×Vl)}(X:K.In s.heap)(hm:W.makesIn K C=true) (hi:W.findIn K (.ref C) "__init__"=some (some (.ref f))) (hf:W.typeIn K (.ref f)=some (.type "function")) (h:codeAny (model prog w) (A.under (.builtin "type.__call__" ⟨.ref C::vs,kw⟩)) (.call (.ref f) ⟨.ref (s.heap.objs.size+1)::vs,kw⟩) (W.InitBack (s.heap.objs.size+1) R) {s with heap:=(s.heap.push W.emptyDict).push (W.instObj C s.heap.objs.size)}):
  codeAny (model prog w) A (.call (.ref C) ⟨vs,kw⟩) R s:=by
 obtain⟨hh,g,d,t,os⟩:=s;exact W.make_core (W.makes_of X hm) (mi X hi) (λself=>W.bind_fn X self hf) (.inl rfl) h
end
def vD(f:Str)(v:V):List (Str×V)->List (Str×V)
 | []=>[(f,v)]
 | (g,x)::r=>if g=f then(g,v)::r else(g,x)::vD f v r
theorem Ay(f g:Str)(v:V):∀fs:List (Str×V),(vD f v fs).lookup g=if g=f then some v else fs.lookup g
 | []=>by
  show List.lookup g [(f,v)]=_;by_cases h:g=f
  .have hb:(g==f)=true:=fj.mpr h;simp only[List.lookup,hb,df h]
  .have hb:(g==f)=false:=fR.mpr h;simp only[List.lookup,hb,cZ h]
 | (k,x)::r=>by
  have ih:=Ay f g v r;rw[show vD f v ((k,x)::r)=(if k=f then(k,v)::r else(k,x)::vD f v r)from rfl];by_cases hk:k=f
  .rw[df hk];by_cases h:g=k
   .have hb:(g==k)=true:=fj.mpr h;simp only[List.lookup,hb,df (h.trans hk)]
   .have hb:(g==k)=false:=fR.mpr h;simp only[List.lookup,hb,cZ (λe:g=f=>h (e.trans hk.symm))]
  .rw[cZ hk];by_cases h:g=k
   .have hb:(g==k)=true:=fj.mpr h;simp only[List.lookup,hb,cZ (λe:g=f=>hk (h.symm.trans e))]
   .have hb:(g==k)=false:=fR.mpr h;simp only[List.lookup,hb];exact ih
theorem zP(f:Str)(v:V):∀fs:List (Str×V),f∈(vD f v fs).map (·.1)/\∀g,g∈fs.map (·.1)->g∈(vD f v fs).map (·.1)
 | []=>⟨by simp[vD],λg h=>by simp at h⟩
 | (k,x)::r=>by
  obtain⟨i1,i2⟩:=zP f v r;rw[show vD f v ((k,x)::r)=(if k=f then(k,v)::r else(k,x)::vD f v r)from rfl];by_cases hk:k=f
  .rw[df hk];subst hk;exact⟨by simp,λg h=>by simpa using h⟩
  .rw[cZ hk];refine⟨?_,λg h=>?_⟩
   .rw[dX];exact dE _ i1
   .rw[dX]at h ⊢;rcases dg.mp h with e|e
    .exact dg.mpr (.inl e)
    .exact dE _ (i2 g e)
theorem Ao(f:Str)(v:V):∀fs:List (Str×V),(vD f v fs).length<=fs.length+1
 | []=>by simp[vD]
 | (k,x)::r=>by
  have ih:=Ao f v r;rw[show vD f v ((k,x)::r)=(if k=f then(k,v)::r else(k,x)::vD f v r)from rfl];by_cases hk:k=f
  .rw[df hk,d9,d9];omega
  .rw[cZ hk,d9,d9];omega
def yo.some_of{v:V}{o:Option Vl}(r:yo (some v) o):∃u,o=some u/\qJ v u:=by
 cases o with
 | none=>exact(show False from r).elim
 | some u=>exact⟨u,rfl,r⟩
def yo.none_of{o:Option Vl}(r:yo none o):o=none:=by
 cases o with
 | none=>rfl
 | some u=>exact(show False from r).elim
def J2{v:V}{u:Vl}(r:qJ v u):W.handedIn u=true:=by
 cases v with
 | mS=>cases(show u=Value.none from r);rfl
 | bl b=>cases(show u=Value.bool b from r);rfl
 | int i=>obtain⟨t,e⟩:=(show ∃t,u=Value.int i t from r);cases e;rfl
 | str x=>obtain⟨t,e⟩:=(show ∃t,u=Value.str x t from r);cases e;rfl
 | byt b=>obtain⟨t,e⟩:=(show ∃t,u=Value.bytes b t from r);cases e;rfl
 | flt b=>obtain⟨t,e⟩:=(show ∃t,u=Value.float b t from r);cases e;rfl
 | ref a=>cases(show u=Value.ref a from r);rfl
 | ty n=>cases(show u=Value.type n from r);rfl
section
variable {P:Pg}{w:Wo}{a:Addr}{fs fs':List (Str × V)}
def Bg(mV:yl P w H h)(e:H a=some (.ins C dx fs)):∃mA,Hq h a dx C mA/\(∀f,yo (fs.lookup f) (mA f))/\PySem.Within mA (fs.map (·.1))/\fs.length<=1000/\H dx=some (.own a):=by obtain⟨d,z,ne,ob,mA,n,r,q⟩:=(show sd P w H h a (.ins C dx fs)from mV a _ e);exact⟨mA,⟨ob,n,ne⟩,r,q,z,d⟩
end
structure Cls(K:qu)(C:Addr):Prop where
 pg:W.plainGet K C Str.empty=true
 hd:W.hasDictIn K C=true
 po:W.plainOver K C=true
 sa:W.findIn K (.ref C) "__setattr__"=some (some (.builtin "object.__setattr__"))
def Cls.get{K:qu}{C:Addr}(c:Cls K C)(f:Str):W.plainGet K C f=true:=c.pg
def uh(K:qu)(C:Addr)(f:Str):Prop:=W.findIn K (.ref C) f=some none
def uh.oS{K:qu}{C:Addr}{f:Str}(n:uh K C f):W.takerIn K C f=some none:=by unfold W.takerIn;rw[show W.findIn K (.ref C) f=some none from n];rfl
structure WG(K:qu)(C:Addr)(f:Str)(v:V)(u:Vl):Prop where
 at_:W.findIn K (.ref C) f=some (some u)
 rel:qJ v u
 get:W.specialIn K u "__get__"=some none
 cp:W.copiedNames.contains f=false
structure vF(K:qu)(C:Addr)(m:Str)(f:Addr):Prop where
 at_:W.findIn K (.ref C) m=some (some (.ref f))
 fn:W.isFn K (.ref f)=true
 kp:W.keepIn K (.ref f)=true
section
variable {σ:St}{a:Addr}{fs:List (Str × V)}{f:Str}{v:V}{E:QQX}
def BJ{b:Bool}{Q:QQX}(I:Inv X WH σ H s)(e:H a=some (.ins C dx fs))(c:Cls X.K C)(n:uh X.K C f)(l:fs.lookup f=some v) (h:∀u s',Inv X WH σ H s'->qJ v u->Q u s'):wpAny (model X.prog X.w) A (getAttr (.ref a) f b) Q E s:=by
 obtain⟨mA,O,r,_,_,_⟩:=Bg I.mV e;obtain⟨u,hu,ru⟩:=yo.some_of (v:=v) (o:=mA f) (by rw[<-l];exact r f);exact Qh I.nk O (c.get f) c.hd n hu (J2 ru) (h u _ (I.tok _) ru)
def Bt{m:Str}{g:Addr}{pl:Sem Bool}{Q:Vl×List Vl->Sd->Prop}(I:Inv X WH σ H s)(e:H a=some (.ins C dx fs))(c:Cls X.K C)(k:vF X.K C m g)(l:fs.lookup m=none) (h:Q (.ref g,[.ref a]) s):wpAny (model X.prog X.w) A (getMethod (.ref a) m pl) Q E s:=by
 obtain⟨mA,O,r,_,_,_⟩:=Bg I.mV e;have hn:mA m=none:=yo.none_of (by rw[<-l];exact r m);exact KQ I.nk O (c.get m) k.at_ k.fn hn h
def Bx{y:V}{u:Vl}{Q:Unit->Sd->Prop}(I:Inv X WH σ H s)(e:H a=some (.ins C dx fs))(c:Cls X.K C)(n:uh X.K C f)(hl:fs.length<1000)(ry:qJ y u) (h:∀s',Inv X WH σ (upd H a (.ins C dx (vD f y fs))) s'->Q () s'):wpAny (model X.prog X.w) A (setAttr (.ref a) f u) Q E s:=by
 obtain⟨mA,O,r,wi,_,ho⟩:=Bg I.mV e;have hz:(fs.map (·.1)).length<=sizeLine:=by rw[cV,dN];omega
 refine PK I.nk O c.sa c.po n.oS c.hd wi hz λh' O' sb=>h _ ?_;have hd:∃o,h'.get? dx=some o:=let⟨o,_,_,e',_⟩:=O'.ns;⟨o,e'⟩;refine I.write (x:=a) (e:=dx) (by rw[e];exact True.intro) (.inr ho) (λb q hb z=>(sb.2 b hb).trans z) hd ?_;refine⟨by rw[pW O.ne];exact ho,?_,O.ne,O'.obj,_,O'.ns,λg=>?_,λg hg=>?_⟩
 .have:=Ao f y fs;omega
 .show yo ((vD f y fs).lookup g) (if g=f then some u else mA g);rw[Ay];by_cases q:g=f
  .rw[df q,df q];exact ry
  .rw[cZ q,cZ q];exact r g
 .by_cases q:g=f
  .rw[q];exact(zP f y fs).1
  .refine(zP f y fs).2 g (wi g λz=>hg ?_);show(if g=f then some u else mA g)=none;rw[cZ q];exact z
def Inv.made(I:Inv X WH σ H s):Inv X WH σ (upd (upd H s.heap.objs.size (.own (s.heap.objs.size+1))) (s.heap.objs.size+1) (.ins C s.heap.objs.size [])) {s with heap:=(s.heap.push W.emptyDict).push (W.instObj C s.heap.objs.size)}:=by
 have e1:(s.heap.push W.emptyDict).get? s.heap.objs.size=some W.emptyDict:=dI s.heap rfl;have e2:((s.heap.push W.emptyDict).push (W.instObj C s.heap.objs.size)).get? (s.heap.objs.size+1)=some (W.instObj C s.heap.objs.size):=by
  have:=dI (s.heap.push W.emptyDict) (o:=W.instObj C s.heap.objs.size) rfl
  rwa [fv]at this
 have e3:(s.heap.push W.emptyDict).Ns s.heap.objs.size (λ_=>none):=⟨W.emptyDict,#[],_,e1,rfl,(λe he=>absurd he (by simp)),λ_=>rfl⟩;have I1:=I.laid (a:=s.heap.objs.size) (o:=.own (s.heap.objs.size+1)) (h':=s.heap.push W.emptyDict) (t':=s.toks) (λb u q=>de _ q) (dv _) ⟨_,e1⟩;refine I1.laid (a:=s.heap.objs.size+1) (o:=.ins C s.heap.objs.size []) (t':=s.toks) (λb u q=>de _ q) (mx (fv _ _)) ?_;have ne:s.heap.objs.size≠s.heap.objs.size+1:=dM (fJ _);refine⟨by rw[pW ne,qh],eL _,ne,e2,λ_=>none,(lq e3).at λo q=>de _ q,λ_=>True.intro,λy hy=>absurd rfl hy⟩
def NS{prog:Pg}{w:Wo}{env:Env}{e:Expr}{f:Str}{pos:Pos}{s:Sd}{Q:QQX}(hb:attributeBase e f env (eval e env)=eval e env) (h:wpAny (model prog w) A (eval e env) (λo s₁=>wpAny (model prog w) A (getAttr o f true) Q E s₁) E s):wpAny (model prog w) A (eval (.Attribute e f pos) env) Q E s:=
 Attribute_any_ h (by rw[arm_eval_Attribute,hb])
end
def VN(K:qu)(ta:TE)(f:Str):TE:=λσ H Q=>ta σ H λx H1=>∃a C dx fs v,x=.ref a/\H1 a=some (.ins C dx fs)/\Cls K C/\uh K C f/\fs.lookup f=some v/\Q v H1
def Vq(K:qu)(ta tv:TE)(f:Str):TS:=λD σ H=>tv σ H λy H1=>ta σ H1 λx H2=>∃a C dx fs,x=.ref a/\H2 a=some (.ins C dx fs)/\Cls K C/\uh K C f/\fs.length<1000/\
 D.nx σ (upd H2 a (.ins C dx (vD f y fs)))
def OU(X:Cx)(op:Operator)(rd:V->V->Hp->VK->Prop):Prop:=
 ∀(WH:QQY) (s:Sd) (σ:St) (H:Hp) (x y:V) (u v:Vl) (Q:VK),Inv X WH σ H s->qJ x u->qJ y v->rd x y H Q->wpAny (model X.prog X.w) X.A (inplaceOp op u v) (EP X WH σ Q) X.xe s
def Om(K:qu)(ta tv:TE)(rd:V->V->Hp->VK->Prop)(f:Str):TS:=λD σ H=>ta σ H λx H1=>∃a C dx fs v,x=.ref a/\H1 a=some (.ins C dx fs)/\Cls K C/\uh K C f/\fs.lookup f=some v/\
 tv σ H1 λy H2=>rd v y H2 λz H3=>∃Zr fs',H3 a=some (.ins C Zr fs')/\fs'.length<1000/\D.nx σ (upd H3 a (.ins C Zr (vD f z fs')))
variable {value:Expr}{WT YQ:Pos}{tv:TE}
section
variable {o e:Expr}{f:Str}
def Ro(he:PE X e ta)(hb:attributeBase e f X.env (eval e X.env)=eval e X.env):PE X (.Attribute e f pos) (VN X.K ta f):=by intro WH s σ H Q I h;refine NS hb (sH (he WH s σ H _ I h) λu s1 zz=>?_);obtain⟨x,H1,I1,rx,a,C,dx,fs,v,ex,ea,c,n,l,q⟩:=zz;subst ex;obtain rfl:u=Value.ref a:=rx;exact BJ I1 ea c n l λu' s2 I2 ru=>⟨v,H1,I2,ru,q⟩
def Q0(ha:PE X o ta)(hv:PE X value tv)(hs:swapsWith value (some (.Attribute o f WT)) pos.line X.env=pure false):PS X (.Assign [.Attribute o f WT] value pos) (Vq X.K ta tv f):=by intro WH s σ H D I h;refine iN (sH (hv WH s σ H _ I h) λu s1 zz=>x5 zz λy H1 I1 ry q=>sH (ha WH s1 σ H1 _ I1 q) λov s2 zz=>?_) hs;obtain⟨x,H2,I2,rx,a,C,dx,fs,ex,ea,c,n,l,q2⟩:=zz;subst ex;obtain rfl:ov=Value.ref a:=rx;exact Bx I2 ea c n l ry λs3 I3=>⟨σ,_,I3,q2⟩
def KB{op:Operator}{rd:V->V->Hp->VK->Prop}(ha:PE X o ta)(hv:PE X value tv)(hop:OU X op rd):PS X (.AugAssign (.Attribute o f YQ) op value pos) (Om X.K ta tv rd f):=by intro WH s σ H D I h;refine wpAny_AugAssign_AttributeAny (sH (ha WH s σ H _ I h) λov s1 zz=>?_);obtain⟨x,H1,I1,rx,a,C,dx,fs,v,ex,ea,c,n,l,q⟩:=zz;subst ex;obtain rfl:ov=Value.ref a:=rx;refine BJ I1 ea c n l λu s2 I2 ru=>sH (hv WH s2 σ H1 _ I2 q) λw3 s3 zz=>x5 zz λy H2 I3 ry q3=>sH (hop WH s3 σ H2 v y u w3 _ I3 ru ry q3) λw4 s4 zz=>?_;obtain⟨z,H3,I4,rz,Zr,fs',ea',l',q4⟩:=zz;exact Bx I4 ea' c n l' rz λs5 I5=>⟨σ,_,I5,q4⟩
def U8:V->V->Hp->VK->Prop:=λx y H Q=>∃i j,x=.int i/\y=.int j/\Q (.int (i+j)) H
def U':V->V->Hp->VK->Prop:=λx y H Q=>∃i j,x=.int i/\y=.int j/\Q (.int (i - j)) H
def Rt:OU X .Add U8:=by
 rintro WH s σ H x y u v Q I rx ry ⟨i,j,rfl,rfl,q⟩
 obtain⟨t,rfl⟩:=(show ∃t,u=Value.int i t from rx);obtain⟨t',rfl⟩:=(show ∃t',v=Value.int j t' from ry);exact PyProof.Rows.iadd_int ⟨.int (i+j),H,I.tok _,⟨_,rfl⟩,q⟩
def Rn:OU X .Sub U':=by
 rintro WH s σ H x y u v Q I rx ry ⟨i,j,rfl,rfl,q⟩
 obtain⟨t,rfl⟩:=(show ∃t,u=Value.int i t from rx);obtain⟨t',rfl⟩:=(show ∃t',v=Value.int j t' from ry);exact PyProof.Rows.isub_int ⟨.int (i - j),H,I.tok _,⟨_,rfl⟩,q⟩
end
variable {Q:QQX}
section
variable {σ:St}{E:QQX}{c:Vl}{b:Bool}
inductive AG(K:qu)(H:Hp):V->Vl->Prop where
 | mS:AG K H .mS (.type "NoneType")
 | bl (x:Bool):AG K H (.bl x) (.type "bool")
 | int (i:Int):AG K H (.int i) (.type "int")
 | str (x:Str):AG K H (.str x) (.type "str")
 | flt (x:UInt64):AG K H (.flt x) (.type "float")
 | lst {a:Addr} {xs:List V} (e:H a=some (.lst xs)):AG K H (.ref a) (.type "list")
 | frz {a:Addr} {o:Obj} {xs:List V} (e:H a=some (.frz o (.lst xs))):AG K H (.ref a) (.type "list")
 | tup {a:Addr} {xs:List V} (e:H a=some (.tup xs)):AG K H (.ref a) (.type "tuple")
 | dK {a:Addr} {kvs:List (qW×V)} (e:H a=some (.dK kvs)):AG K H (.ref a) (.type "dict")
 | dT {a:Addr} {kvs:List (List qW×V)} (e:H a=some (.dT kvs)):AG K H (.ref a) (.type "dict")
 | ins {a C dx:Addr} {fs:List (Str×V)} (e:H a=some (.ins C dx fs)) (cl:Cls K C) (ha:W.findIn K (.ref C) "__class__"=some (some (.builtin "object.__class__")))
   (hn:W.specialIn K (.builtin "object.__class__") "__get__"=some (some (.builtin "getset_descriptor.__get__"))) (htk:W.takesIn K (.builtin "object.__class__")=some true)
   (hm:W.mroIn K C (.type "object")=some true):AG K H (.ref a) (.ref C)
def uM{x:V}{u t:Vl}(I:Inv X WH σ H s)(rx:qJ x u)(ty:AG X.K H x t)(e:W.kitOne X.K t c=some b)(h:∀tk,Q (.bool b) {s with toks:=tk}):
  wpAny (model X.prog X.w) A (call (.builtin "isinstance") [u,c]) Q E s:=by
 cases ty with
 | mS=>cases(show u=Value.none from rx);exact gq W.kitx_none I.nk True.intro e (λz=>nomatch z) h
 | bl y=>cases(show u=Value.bool y from rx);exact gq W.kitx_bool I.nk True.intro e (λz=>nomatch z) h
 | int i=>obtain⟨t,q⟩:=(show ∃t,u=Value.int i t from rx);cases q;exact gq W.kitx_int I.nk True.intro e (λz=>nomatch z) h
 | str y=>obtain⟨t,q⟩:=(show ∃t,u=Value.str y t from rx);cases q;exact gq W.kitx_str I.nk True.intro e (λz=>nomatch z) h
 | flt y=>obtain⟨t,q⟩:=(show ∃t,u=Value.float y t from rx);cases q;exact gq W.kitx_float I.nk True.intro e (λz=>nomatch z) h
 | @lst a xs ea=>cases(show u=Value.ref a from rx);obtain⟨_,_,n,_,h1⟩:=(show sd X.prog X.w H s.heap a (.lst xs)from I.mV a _ ea);exact gq lD I.nk ⟨_,h1,rfl⟩ e (λz=>nomatch z) h
 | @frz a ob xs ea=>cases(show u=Value.ref a from rx);obtain⟨_,_,_,n,_,h1⟩:=(show sd X.prog X.w H s.heap a (.frz ob (.lst xs))from I.mV a _ ea);exact gq lD I.nk ⟨_,h1,rfl⟩ e (λz=>nomatch z) h
 | @tup a xs ea=>cases(show u=Value.ref a from rx);obtain⟨_,_,_,p⟩:=(show sd X.prog X.w H s.heap a (.tup xs)from I.mV a _ ea);obtain⟨o,h1,h2,_⟩:=p;exact gq W.kitx_tuple I.nk ⟨o,h1,h2⟩ e (λz=>nomatch z) h
 | @dK a kvs ea=>cases(show u=Value.ref a from rx);obtain⟨_,_,vs,_,p⟩:=(show sd X.prog X.w H s.heap a (.dK kvs)from I.mV a _ ea);obtain⟨o,es,ep,h1,h2,_⟩:=p;exact gq W.kitx_dict I.nk ⟨o,h1,h2.1⟩ e (λz=>nomatch z) h
 | @dT a kvs ea=>cases(show u=Value.ref a from rx);obtain⟨_,_,xs,_,o,es,ep,h1,h2,_⟩:=(show sd X.prog X.w H s.heap a (.dT kvs)from I.mV a _ ea);exact gq W.kitx_dict I.nk ⟨o,h1,h2.1⟩ e (λz=>nomatch z) h
 | @ins a C dx fs ea cl ha hn htk hm=>cases(show u=Value.ref a from rx);obtain⟨mA,O,_⟩:=Bg I.mV ea;obtain⟨od,J,_⟩:=O.look;exact gq (W.kitx_own (cl.get _) cl.hd ha hn htk hm) I.nk J e (λz=>nomatch z) h
end
structure r6(k:Nat)(A:Ar):Prop where
 hd:A.handled=none
 dp:A.depth+3*k+5<recursionLimit
 un:A.units+16*k+200<cLine
def r6.mono{j k:Nat}{A:Ar}(r:r6 k A)(h:j<=k):r6 j A:=⟨r.hd,by have:=r.dp;omega,by have:=r.un;omega⟩
def r6.deeper{k:Nat}{A:Ar}(r:r6 (k+1) A)(env:Env):r6 k (A.deeper env):=
 ⟨r.hd,by have:=r.dp;show A.depth+1+3*k+5<_;omega,by have:=r.un;show A.units+3+16*k+200<_;omega⟩
def Ha{A:Ar}{C:Addr}{us:List Vl}{kw:List (Str×Vl)}:(A.under (.builtin "type.__call__" ⟨.ref C::us,kw⟩)).depth=A.depth+1:=by first|rfl|simp[Around.under,Code.weight,Code.isCreation,Code.isGuard,Code.isCaller,Code.frames,Code.isFrame,guardIds]
def Hk{A:Ar}{C:Addr}{us:List Vl}{kw:List (Str×Vl)}:(A.under (.builtin "type.__call__" ⟨.ref C::us,kw⟩)).units=A.units+1:=by first|rfl|simp[Around.under,Code.cUnits,Code.frames,Code.isFrame]
def r6.make{k:Nat}{A:Ar}(r:r6 (k+1) A)(C:Addr)(us:List Vl)(kw:List (Str×Vl)):r6 k (A.under (.builtin "type.__call__" ⟨.ref C::us,kw⟩)):=
 ⟨r.hd,by have:=r.dp;rw[Ha];omega,by have:=r.un;rw[Hk];omega⟩
def r6.depth{k:Nat}{A:Ar}(r:r6 k A):A.depth<recursionLimit:=by have:=r.dp;omega
def r6.units{k:Nat}{A:Ar}(r:r6 k A):A.units+64<cLine:=by have:=r.un;omega
def Tj:TA:=λ_ H Q=>Q [] H
def Th(ta:TE)(tr:TA):TA:=λσ H Q=>ta σ H λx H1=>tr σ H1 λxs H2=>Q (x::xs) H2
variable {es:List Expr}
section
variable {e:Expr}{t:TA}
def QP:PA X [] Tj:=λ_ _ _ _ H Q I h=>iF ⟨[],H,I,.nil,h⟩
def OC(ha:PE X e te)(hr:PA X es t)(hs:Bb X e es:=by rfl):PA X (e::es) (Th te t):=by intro pos WH s σ H Q I h;rw[hs];show wpAny _ _ (spliced ((false,eval e X.env)::backTo pos (starEach es X.env))) _ _ s;refine io (sH (ha WH s σ H _ I h) λu s1 zz=>x5 zz λx H1 I1 r1 q1=>?_);exact sH (hr pos WH s1 σ H1 _ I1 q1) λus s2 zz=>x5 zz λxs H2 I2 r2 q2=>⟨x::xs,H2,I2,.cons r1 r2,q2⟩
def VC(t:TA):TE:=λσ H Q=>t σ H λxs H1=>xs.length<=sizeLine/\∀p,H1 p=none->Q (.ref p) (upd H1 p (.tup xs))
def UZ(t:TA):TE:=λσ H Q=>t σ H λxs H1=>xs.length<=sizeLine/\∀p,H1 p=none->Q (.ref p) (upd H1 p (.lst xs))
def RA{x1}(h:PA X es t):PE X (.Tuple es x1 pos) (VC t):=by intro WH s σ H Q I hq;refine wpAny_Tuple_spliced (sH (h pos WH s σ H _ I hq) λus s1 ⟨xs,H1,I1,r,z,q⟩=>⟨by rw[<-r.length];exact z,?_⟩);have hf:H1 s1.heap.objs.size=none:=I1.mV.fresh (dv _);refine⟨.ref s1.heap.objs.size,upd H1 s1.heap.objs.size (.tup xs),I1.laid (t':=s1.toks) (λb u e=>de _ e) (dv _) ?_,rfl,q _ hf⟩;exact⟨z,us,r,⟨_,dI _ rfl,rfl,⟨_,rfl⟩,rfl⟩⟩
def QR(h:PA X es t):PE X (.List es pos) (UZ t):=by intro WH s σ H Q I hq;refine wpAny_List_spliced (sH (h pos WH s σ H _ I hq) λus s1 ⟨xs,H1,I1,r,z,q⟩=>⟨by rw[<-r.length];exact z,?_⟩);have hf:H1 s1.heap.objs.size=none:=I1.mV.fresh (dv _);refine⟨.ref s1.heap.objs.size,upd H1 s1.heap.objs.size (.lst xs),I1.laid (t':=s1.toks) (λb u e=>de _ e) (dv _) ?_,rfl,q _ hf⟩;exact⟨z,us,0,r,dI _ rfl⟩
end
abbrev Sp:=List V->Hp->VK->XK->Prop
abbrev KG:=List Env->Hp->Sd->XK->Vl->Sd->Prop
structure HG(P:Pg)(w:Wo)(K:qu)(mg:QQZ)(base:Heap)(A:Ar)(outer:List Env)(s:Sd)(H:Hp):Prop where
 frames:A.frames=some outer
 mod:Mod K mg base
 bs:∀b o,base.get? b=some o->s.heap.get? b=some o/\H b=none
 oa:base.objs.size<=s.heap.objs.size
 nF:s.heap.FunFrames base outer
 oo:∀b∈we outer,H b=none
 mV:yl P w H s.heap
 bare:AllBare s.gens
def CE(outer:List Env)(P:Pg)(w:Wo)(H:Hp)(s:Sd)(Q:VK)(u:Vl)(s':Sd):Prop:=
 ∃v H',s'.os=s.os/\AllBare s'.gens/\Un (we outer) [] H H' s.heap s'.heap/\yl P w H' s'.heap/\qJ v u/\Q v H'
def CR(CX:KG)(outer:List Env)(P:Pg)(w:Wo)(H:Hp)(s:Sd)(Q:VK)(E:XK)(r:Result)(s':Sd):Prop:=
 match r with
 | .ok (.ret u)=>CE outer P w H s Q u s'
 | .ok _=>False
 | .error e=>CX outer H s E e s'
structure xw(P:Pg)(w:Wo)(K:qu)(mg:QQZ)(base:Heap)(CX:KG)(k:Nat)(f:Addr)(fd:FuncData)(ps:QQQ)(sp:Sp):Prop where
 len:∀vs H Q E,sp vs H Q E->vs.length=ps.length
 run:∀(A:Ar) (outer:List Env) (s:Sd) (H:Hp) (args:Args) (us:List Vl) (vs:List V) (Q:VK) (E:XK),r6 k A->HG P w K mg base A outer s H->BindsTo s fd args (ps.zip us)->qE vs us->sp vs H Q E->
  codeAny (model P w) A (.call (.ref f) args) (CR CX outer P w H s Q E) s
def HG.make{P:Pg}{w:Wo}{K:qu}{mg:QQZ}{base:Heap}{A:Ar}{outer:List Env}{s:Sd}{H:Hp}(e:HG P w K mg base A outer s H)(C:Addr)(us:List Vl)(kw:List (Str×Vl)):
  HG P w K mg base (A.under (.builtin "type.__call__" ⟨.ref C::us,kw⟩)) outer s H:=⟨by first|exact e.frames|(simpa [Around.under,Code.envs,Code.isFrame,pushEnvs]using e.frames),e.mod,e.bs,e.oa,e.nF,e.oo,e.mV,e.bare⟩
variable {s':Sd}
section
variable {σ:St}
def Inv.oi(I:Inv X WH σ H s):HG X.prog X.w X.K X.mg X.base X.A X.stack s H:=
 ⟨I.ok.frames,I.ok.mod,I.bs,d6 I.ok.oa I.sz,I.stack,I.nK,I.mV,I.bare⟩
def Inv.after{Q:VK}{u:Vl}(I:Inv X WH σ H s)(h:CE X.stack X.prog X.w H s Q u s'):EP X WH σ Q u s':=by obtain⟨v,H',os,bare,un,mV,r,q⟩:=h;obtain⟨hh,g,d,t,Zs⟩:=s';obtain rfl:Zs=s.os:=os;exact⟨v,H',I.call (h':=hh) (g':=g) (d':=d) (t':=t) (ch:=[]) un mV bare (λb z=>absurd z (by simp)),r,q⟩
end
def Tu(sp:Sp)(Xt:List V)(E:XK)(t:TA):TE:=λσ H Q=>t σ H λvs H1=>sp (vs++Xt) H1 Q E
def Ue(C:Addr)(sp:Sp)(Xt:List V)(E:XK)(t:TA):TE:=λσ H Q=>t σ H λvs H1=>∀x dx,H1 x=none->H1 dx=none->dx≠x->
 sp (.ref x::(vs++Xt)) (upd (upd H1 dx (.own x)) x (.ins C dx [])) (λv H2=>v=.mS/\Q (.ref x) H2) E
def uS(K:qu)(fd:FuncData)(ps:QQQ)(ds:List Vl):Prop:=
 ∀(s:Sd) (us:List Vl),K.In s.heap->(us++ds).length=ps.length->BindsTo s fd ⟨us,[]⟩ (ps.zip (us++ds))
def uS.all{K:qu}{fd:FuncData}{ps:QQQ}(h:∀us:List Vl,us.length=ps.length->bindArgs fd ⟨us,[]⟩=pure (ps.zip us)):uS K fd ps []:=λs us _ hl=>by rw[eZ]at hl ⊢;exact .of_eq (h us hl)
def B'(CX:KG)(X:Cx)(E:XK):Prop:=∀(WH:QQY) (σ:St) (H:Hp) (s:Sd) (e:Vl) (s':Sd),Inv X WH σ H s->CX X.stack H s E e s'->X.xe e s'
variable {CX:KG}{k:Nat}{fd:FuncData}{ps:QQQ}{sp:Sp}{Xt:List V}{ds:List Vl}{m:Str}{p WK:Pos}
section
variable {f:Addr}{E:XK}{x:Str}{e o:Expr}{t:TA}
def Fb{WH:QQY}{σ:St}{H:Hp}{s:Sd}{Q:VK}{us:List Vl}{vs:List V}(F:xw X.prog X.w X.K X.mg X.base CX k f fd ps sp)(hr:r6 k X.A)(hb:uS X.K fd ps ds)(hd:qE Xt ds)(hx:B' CX X E) (I:Inv X WH σ H s) (r:qE vs us) (h:sp (vs++Xt) H Q E):wpAny (model X.prog X.w) X.A (call (.ref f) us) (EP X WH σ Q) X.xe s:=by
 have r2:qE (vs++Xt) (us++ds):=r.append hd;have hl:(us++ds).length=ps.length:=by rw[<-r2.length];exact F.len _ _ _ _ h
 refine iD (gm (F.run X.A X.stack s H ⟨us,[]⟩ (us++ds) (vs++Xt) Q E hr I.oi (hb s us I.nk hl) r2 h) λr s' hq=>?_);cases r with
 | error e=>exact hx WH σ H s e s' I hq
 | ok fl=>
  cases fl with
  | ret u=>exact I.after hq
  | next=>exact False.elim hq
  | brk=>exact False.elim hq
  | cont=>exact False.elim hq
def PM(F:xw X.prog X.w X.K X.mg X.base CX k f fd ps sp)(hr:r6 k X.A)(hg:Gl X x)(hm:X.mg x=some (.ref f))(hk:W.keepIn X.K (.ref f)=true)(hb:uS X.K fd ps ds)(hd:qE Xt ds)(hx:B' CX X E) (ha:PA X (e::es) t) (W0:yU x:=by decide) (he:Bb X e es:=by rfl) (WX:CH X pos es:=by rfl):
  PE X (.Call (.Name x p) (e::es) [] pos) (Tu sp Xt E t):=by
 intro WH s σ H Q I h;refine fU (wV I hg hm ?_ W0);refine iO (h₀:=X.base) I.ok.mod.oC hk (sH (ha pos WH s σ H _ I h) λus s1 zz=>x5 zz λvs H1 I1 r q=>⟨I1.nk,?_⟩) he WX;exact Fb F hr hb hd hx I1 r q
structure Mk(K:qu)(C f:Addr):Prop where
 makes:W.makesIn K C=true
 init:W.findIn K (.ref C) "__init__"=some (some (.ref f))
 fn:W.isFn K (.ref f)=true
 kp:W.keepIn K (.ref C)=true
def Mq{WH:QQY}{σ:St}{H:Hp}{s:Sd}{Q:VK}{us:List Vl}{vs:List V}(M:Mk X.K C f)(F:xw X.prog X.w X.K X.mg X.base CX k f fd ps sp)(hr:r6 (k+1) X.A)(hb:uS X.K fd ps ds)(hd:qE Xt ds) (hx:B' CX X E) (I:Inv X WH σ H s) (r:qE vs us) (h:∀x dx,H x=none->H dx=none->dx≠x->sp (.ref x::(vs++Xt)) (upd (upd H dx (.own x)) x (.ins C dx [])) (λv H2=>v=.mS/\Q (.ref x) H2) E):
  wpAny (model X.prog X.w) X.A (call (.ref C) us) (EP X WH σ Q) X.xe s:=by
 have hq:=h (s.heap.objs.size+1) s.heap.objs.size (I.mV.fresh (gY _)) (I.mV.fresh (dv _)) (dM (fJ _));have I2:=Inv.made (C:=C) I;have r2:qE (V.ref (s.heap.objs.size+1)::(vs++Xt)) (Value.ref (s.heap.objs.size+1)::(us++ds)):=.cons rfl (r.append hd);have hl:(Value.ref (s.heap.objs.size+1)::us++ds).length=ps.length:=by have e:=r2.length;rw[F.len _ _ _ _ hq]at e;exact e.symm
 refine iD (Mi (f:=f) I.nk M.makes M.init (fj.mp M.fn) (gm (F.run _ X.stack _ _ ⟨Value.ref (s.heap.objs.size+1)::us,[]⟩ (Value.ref (s.heap.objs.size+1)::(us++ds)) _ _ E (hr.make C us [])
  (I2.oi.make C us []) (hb _ (Value.ref (s.heap.objs.size+1)::us) I2.nk hl) r2 hq) λr s' Yp=>?_))
 cases r with
 | error e=>exact hx WH σ _ _ e s' I2 Yp
 | ok fl=>
  cases fl with
  | ret u=>obtain⟨v,H',I3,rv,ev,q3⟩:=I2.after Yp;subst ev;exact⟨rv,⟨V.ref (s.heap.objs.size+1),H',I3,rfl,q3⟩⟩
  | next=>exact False.elim Yp
  | brk=>exact False.elim Yp
  | cont=>exact False.elim Yp
def Oc(M:Mk X.K C f)(F:xw X.prog X.w X.K X.mg X.base CX k f fd ps sp)(hr:r6 (k+1) X.A)(hg:Gl X x)(hm:X.mg x=some (.ref C))(hb:uS X.K fd ps ds)(hd:qE Xt ds)(hx:B' CX X E) (ha:PA X (e::es) t) (W0:yU x:=by decide) (he:Bb X e es:=by rfl) (WX:CH X pos es:=by rfl):
  PE X (.Call (.Name x p) (e::es) [] pos) (Ue C sp Xt E t):=by
 intro WH s σ H Q I h;refine fU (wV I hg hm ?_ W0);refine iO (h₀:=X.base) I.ok.mod.oC M.kp (sH (ha pos WH s σ H _ I h) λus s1 zz=>x5 zz λvs H1 I1 r q=>⟨I1.nk,?_⟩) he WX;exact Mq M F hr hb hd hx I1 r q
end
variable {g:List Vl→List Vl→List Vl}{gV:List V→List V→List V}{ks:QQQ}{kpos:Pos}{kws:List Keyword}{tk:TA}{nm:Option Str}
section
variable {f:Addr}{E:XK}{x:Str}{e o:Expr}{t:TA}
structure VQ(K:qu)(fd:FuncData)(ps ks:QQQ)(g:List Vl->List Vl->List Vl)(gV:List V->List V->List V):Prop where
 to:∀(s:Sd) (us ws:List Vl),K.In s.heap->(g us ws).length=ps.length->BindsTo s fd ⟨us,ks.zip ws⟩ (ps.zip (g us ws))
 rel:∀{vs:List V} {us:List Vl} {zs:List V} {ws:List Vl},qE vs us->qE zs ws->qE (gV vs zs) (g us ws)
end
structure s8(N P:QQQ)(sc:Scope):Prop where
 kind:sc.kind=.function
 co:sc.isCoroutine=false
 gen:sc.isGenerator=false
 nd:N.Nodup
 pre:N.take P.length=P
 par:∀x∈P,sc.names.lookup x=some .local\/sc.names.lookup x=some .cell
 o9:∀y∈sc.names,y.2≠.free
theorem DT{kindOf:Str->Option NameKind}{x:Str}:∀{binds:List (Str×Vl)} {m:QQZ},(∀v,(x,v)∉binds)->bindL kindOf binds m x=m x
 | [],_,_=>rfl
 | (n,v)::r,m,h=>by
  unfold bindL;rw[DT λw hw=>h w (dE _ hw)];split
  .have:x≠n:=by rintro rfl;exact h v dG
   simp[this]
  .rfl
theorem DF{kindOf:Str->Option NameKind}{x:Str}:∀{binds:List (Str×Vl)} {m:QQZ},(∀v,(x,v)∉binds)->bindC kindOf binds m x=m x
 | [],_,_=>rfl
 | (n,v)::r,m,h=>by
  unfold bindC;rw[DF λw hw=>h w (dE _ hw)];split
  .rfl
  .have:x≠n:=by rintro rfl;exact h v dG
   simp[this]
theorem Dy{kindOf:Str->Option NameKind}{x:Str}{v:Vl}:∀{P:QQQ} {vs:List Vl} {i:Nat} {m:QQZ},P.Nodup->P[i]?=some x->vs[i]?=some v->kindOf x=some .local->
  bindL kindOf (P.zip vs) m x=some v
 | [],_,_,_,_,h,_,_=>by simp at h
 | _::_,[],_,_,_,_,h,_=>by simp at h
 | p::P,w::vs,0,m,nd,h1,h2,hk=>by simp at h1 h2;subst h1;subst h2;show bindL kindOf ((p,w)::P.zip vs) m p=_;unfold bindL;rw[DT λv hv=>(dQ.mp nd).1 (jR hv).1,df hk];simp
 | p::P,w::vs,i+1,m,nd,h1,h2,hk=>by show bindL kindOf ((p,w)::P.zip vs) m x=_;unfold bindL;exact Dy (i:=i) (dQ.mp nd).2 (by simpa using h1) (by simpa using h2) hk
theorem DE{kindOf:Str->Option NameKind}{x:Str}{v:Vl}:∀{P:QQQ} {vs:List Vl} {i:Nat} {m:QQZ},P.Nodup->P[i]?=some x->vs[i]?=some v->kindOf x≠some .local->
  bindC kindOf (P.zip vs) m x=some v
 | [],_,_,_,_,h,_,_=>by simp at h
 | _::_,[],_,_,_,_,h,_=>by simp at h
 | p::P,w::vs,0,m,nd,h1,h2,hk=>by simp at h1 h2;subst h1;subst h2;show bindC kindOf ((p,w)::P.zip vs) m p=_;unfold bindC;rw[DF λv hv=>(dQ.mp nd).1 (jR hv).1,cZ hk];simp
 | p::P,w::vs,i+1,m,nd,h1,h2,hk=>by show bindC kindOf ((p,w)::P.zip vs) m x=_;unfold bindC;exact DE (i:=i) (dQ.mp nd).2 (by simpa using h1) (by simpa using h2) hk
def start(N:QQQ)(vs:List V):St:=vs.map some++List.replicate (N.length - vs.length) none
def vp(CX:KG)(P:Pg)(w:Wo)(K:qu)(mg:QQZ)(base:Heap)(N:QQQ)(qual:Str)(scope:Scope)(f:Addr)(cd:Vl)(A:Ar)(outer:List Env)(s:Sd)(H:Hp)(E:XK):Cx where
 prog:=P
 w:=w
 K:=K
 mg:=mg
 base:=base
 A:=A.deeper (envOfC qual scope s.heap.objs.size f cd)
 N:=N
 s₀:=s
 H₀:=H
 env:=envOfC qual scope s.heap.objs.size f cd
 outer:=outer
 stack:=envOfC qual scope s.heap.objs.size f cd::outer
 ex:=[]
 calm:=true
 fn:=λ_=>true
 pn:=[]
 xe:=λe s'=>wpAny (model P w) (A.deeper (envOfC qual scope s.heap.objs.size f cd)) (leaving (envOfC qual scope s.heap.objs.size f cd) e) (λ_ Zt=>CX outer H s E e Zt) (λe' Zt=>CX outer H s E e' Zt) s'
def Gp{sc:Scope}{n:Nat}{x:Str}(h:sc.names.lookup x=some .cell):∃c,(cellsFrom n sc.names []).lookup x=some c:=by have q:=lN sc.names n [] (.inl h);exact jB.mp q
def JY{CX:KG}{P:Pg}{w:Wo}{K:qu}{mg:QQZ}{base:Heap}{N ps:QQQ}{qual:Str}{scope:Scope}{f:Addr}{cd:Vl}{A:Ar}{outer:List Env}{s s1:Sd}{H:Hp}{E:XK}{us:List Vl}{vs:List V} (S:s8 N ps scope) (hd:A.handled=none) (e0:HG P w K mg base A outer s H) (hl:vs.length=ps.length) (r:qE vs us) (x:InCallC s s.heap.objs.size (bindL (envOfC qual scope s.heap.objs.size f cd).kindOf (ps.zip us) λ_=>none) (cellsFrom (s.heap.objs.size+1) scope.names []) (bindC (envOfC qual scope s.heap.objs.size f cd).kindOf (ps.zip us) λ_=>none) s1):
  Inv (vp CX P w K mg base N qual scope f cd A outer s H E) [] (start N vs) H s1:=by
 have WX:ps.length<=N.length:=by have:=eX List.length S.pre;rw[fz]at this;omega
 obtain⟨h1,tk,rfl,hk⟩:=x.done;have noA:∀b:Addr,b∉(vp CX P w K mg base N qual scope f cd A outer s H E).ex:=λb z=>absurd (show b∈([]:QXQ)from z) (by simp);refine⟨⟨e0.mod,S.kind,rfl,rfl,dv _,λy z c h1 h2=>?_,λy hy=>?_,λy c _ h=>?_,λ_=>hd,Around.frames_deeper e0.frames,.inr ⟨rfl,rfl⟩,λb z=>absurd z (noA b),e0.bs,e0.oa,λb _ _=>noA b,λb z=>absurd z (noA b),e0.nF,e0.oo⟩,rfl,e0.bare,Un.kept hk,⟨_,x.toInCall.ns,λi y v h1 h2 h3=>?_⟩,λy c h=>⟨_,x.cell y c h⟩,e0.mV.fresh (dv _),λy c h=>?_,λp hp=>absurd (show p∈([]:QQY)from hp) (by simp),e0.mV.kept hk,?_⟩
 .exact name_of_addr x.apart (gO h1) (gO h2)
 .have hy:scope.names.lookup y=some .cell\/scope.names.lookup y=some .free:=hy;rcases hy with hy|hy
  .exact Gp hy
  .exact absurd rfl (S.o9 _ (gO hy))
 .exact jz (x.above y c (gO h))
 .have hi:i<vs.length:=by
   unfold start at h2;by_cases hi:i<vs.length
   .exact hi
   .rw[eV (by simpa using hi)]at h2;rw[jO]at h2;split at h2<;>cases h2
  have ha:vs[i]?=some v:=by
   unfold start at h2;rw[e9 (by simpa using hi),dD]at h2;cases e:vs[i]? with
   | none=>rw[e]at h2;cases h2
   | some a=>rw[e]at h2;cases h2;rfl
  obtain⟨u,hu,rv⟩:=r.get ha;have hp:ps[i]?=some y:=by rw[<-S.pre,List.getElem?_take_of_lt (by omega)];exact h1
  have ndP:ps.Nodup:=by rw[<-S.pre];exact S.nd.sublist (List.take_sublist _ _)
  refine⟨u,rv,?_⟩;rcases S.par y (fu hp)with k|k
  .exact .inl ⟨k,Dy ndP hp hu k⟩
  .obtain⟨c,e⟩:=Gp (n:=s.heap.objs.size+1) k;refine .inr ⟨.inl k,c,e,?_⟩;have q:=x.cell y c e;rw[DE ndP hp hu (by show scope.names.lookup y≠_;rw[k];decide)]at q;exact q
 .exact e0.mV.fresh (jz (x.above y c (gO h)))
 .unfold start;show _=N.length;rw[cY,cV,iL];omega
def K1{CX:KG}{P:Pg}{w:Wo}{K:qu}{mg:QQZ}{base:Heap}{k:Nat}{f:Addr}{name qual:Str}{params:Arguments}{body:List Stmt}{scope:Scope}{dV kV Xl pm WQ ct oc:Vl}{an od:Option Addr} {XB:Array (Option Vl)} {N ps:QQQ} {sp:Sp} (lk:K.lookup f=some ⟨oc,od,.func (W.fnOf name qual params body scope dV kV Xl pm an WQ ct),XB⟩) (XW:W.codeIn K WQ qual=true) (S:s8 N ps scope) (len:∀vs H Q E,sp vs H Q E->vs.length=ps.length) (W2:∀(A:Ar) (outer:List Env) (s:Sd) (H:Hp) (vs:List V) (Q:VK) (E:XK),r6 k (A.deeper (envOfC qual scope s.heap.objs.size f WQ))->sp vs H Q E->
   ∃t,B6 (vp CX P w K mg base N qual scope f WQ A outer s H E) body t/\t {nx:=λ_ H'=>Q .mS H',rt:=Q} (start N vs) H):
  xw P w K mg base CX (k+1) f (W.fnOf name qual params body scope dV kV Xl pm an WQ ct) ps sp:=by
 refine⟨len,λA outer s H args us vs Q E hr e0 hb r Yb=>?_⟩;have hl:=len _ _ _ _ Yb;have KX:K.In s.heap:=e0.mod.oC.keeps λb o e=>(e0.bs b o e).1;have lim:s.heap.NoLimit:=e0.mod.nolimit.keeps λb o e=>(e0.bs b o e).1;have hkind:∀y∈ps.zip us,scope.names.lookup y.1=some .local\/(scope.names.lookup y.1=some .cell/\((cellsFrom (s.heap.objs.size+1) scope.names []).lookup y.1).isSome=true):=λ⟨n,v⟩ hy=>by
  rcases S.par n (jR hy).1 with q|q
  .exact .inl q
  .exact .inr ⟨q,lN _ _ _ (.inl q)⟩
 refine codeAny_call_function hr.depth (KX _ _ lk) rfl S.co S.gen rfl (W.codeRec_of KX XW) (hb _ _ _ _ ?_);refine wpAny_newFunctionEnv_cells S.kind hkind λenv he s1 x=>?_;subst he;refine⟨lim.keeps x.toInCall.keep,codeAny_func ?_⟩;obtain⟨t,ht,hq⟩:=W2 A outer s H vs Q E (hr.deeper _) Yb;have I:Inv (vp CX P w K mg base N qual scope f WQ A outer s H E) [] (start N vs) H s1:=JY S hr.hd e0 hl r x;refine eA (ht [] s1 (start N vs) H _ I hq) (λfl s' hs=>?_) λe s' hs=>hs;have WM:∀{σ':St} {H':Hp} {v:V} {u:Vl},Inv (vp CX P w K mg base N qual scope f WQ A outer s H E) [] σ' H' s'->qJ v u->Q v H'->CE outer P w H s Q u s':=
  λ{σ' H' v u} J rv q=>⟨v,H',J.os,J.bare,J.base,J.mV,rv,q⟩
 cases fl with
 | ret u=>obtain⟨v,σ',H',J,rv,q⟩:=hs;exact WM J rv q
 | next=>obtain⟨σ',H',J,q⟩:=hs;exact WM (v:=V.mS) (u:=Value.none) J rfl q
 | brk=>obtain⟨_,_,_,q⟩:=hs;exact False.elim q
 | cont=>obtain⟨_,_,_,q⟩:=hs;exact False.elim q
variable {id T:String}{r:List V→Hp→VK→Prop}
section
variable {x:Str}{e:Expr}{t:TA}
def V5(r:List V->Hp->VK->Prop)(t:TA):TE:=λσ H Q=>t σ H λvs H1=>r vs H1 Q
def Md(hc:yu X (.builtin id) r)(hg:Gl X x)(hm:X.mg x=none)(hv:bootBuiltins x=some (.builtin id))(ha:PA X (e::es) t)(hn:x≠"__name__":=by decide)(W0:yU x:=by decide)
  (he:Bb X e es:=by rfl) (WX:CH X pos es:=by rfl):PE X (.Call (.Name x p) (e::es) [] pos) (V5 r t):=by
 intro WH s σ H Q I h;refine fU (wF I hg hm hv ?_ hn W0);exact gT (sH (ha pos WH s σ H _ I h) λus s1 zz=>x5 zz λvs H1 I1 r1 q1=>hc WH s1 σ H1 vs us Q I1 r1 q1) he WX
def JE(hc:yu X (.type T) r)(hg:Gl X x)(hm:X.mg x=none)(hv:bootBuiltins x=some (.type T))(ha:PA X (e::es) t)(hn:x≠"__name__":=by decide)(W0:yU x:=by decide)
  (he:Bb X e es:=by rfl) (WX:CH X pos es:=by rfl):PE X (.Call (.Name x p) (e::es) [] pos) (V5 r t):=by
 intro WH s σ H Q I h;refine fU (wF I hg hm hv ?_ hn W0);exact fZ (sH (ha pos WH s σ H _ I h) λus s1 zz=>x5 zz λvs H1 I1 r1 q1=>hc WH s1 σ H1 vs us Q I1 r1 q1) he WX
end
end L2
namespace HT
open PySem PyProof.Rows
section
open PySem.SeqAt
open PySem.AutoSeq1 (wpAny_loadPart')
open PySem.MeetsSeq PySem.MeetsSeq2 PySem.MeetsSeq3
end
variable {prog:Pg}{w:Wo}{A:Ar}{E:QQX}{s:Sd}
def Oq{t b:Addr}{vs ws:List Vl}{Q:QQX}(ht:IsTup s.heap t vs.toArray)(hb:IsTup s.heap b ws.toArray)(hv:vs≠[]) (h1:ws=[]->Q (.ref t) s) (h2:ws≠[]->Q (.ref s.heap.objs.size) {s with heap:=s.heap.push {cls:=.type "tuple",data:=.seq (vs++ws).toArray}})
  (hsz:vs.length+ws.length<=sizeLine):wpAny (model prog w) A (binaryOp .Add (.ref t) (.ref b)) Q E s:=by
 obtain⟨⟨cls,dd,data,sl⟩,ho,hc,n,hd⟩:=id ht;obtain⟨⟨cls2,dd2,data2,sl2⟩,ho2,hc2,n2,hd2⟩:=id hb;simp only at hc hd hc2 hd2;subst hc hd hc2 hd2;have e:vs.toArray++ws.toArray=(vs++ws).toArray:=by simp
 by_cases hw:ws=[]
 .exact kQ ⟨_,ho,rfl⟩ ⟨_,ho2,rfl⟩ lO seq_tuple_add j3 jP (jC _ _)
   (tuple_addW1 t b vs.toArray ws.toArray n n2 dd dd2 sl sl2 (by simpa using hv) (by simp[hw])) ⟨ho,ho2,h1 hw⟩
 .refine kQ ⟨_,ho,rfl⟩ ⟨_,ho2,rfl⟩ lO seq_tuple_add j3 jP (jC _ _)
   (tuple_addW2 t b vs.toArray ws.toArray n n2 dd dd2 sl sl2 (by simpa using hv) (by simpa using hw) (by rw[dw,dw];exact hsz)) ⟨ho,ho2,?_⟩
  rw[e];exact h2 hw
def tw(n d:Nat):Option Int->Nat
 | none=>d
 | some v=>if v<0 then(v+(n:Int)).toNat else min v.toNat n
def Cy(n d:Nat):tw n d none=d:=rfl
def Jj(n d k:Nat):tw n d (some (k:Int))=min k n:=by show(if (k:Int)<0 then((k:Int)+(n:Int)).toNat else min (k:Int).toNat n)=min k n;rw[cZ (by omega),jn]
def QS(n d:Nat)(hd:d<=n)(o:Option Int):tw n d o<=n:=by
 cases o with
 | none=>exact hd
 | some v=>
  show(if v<0 then(v+(n:Int)).toNat else min v.toNat n)<=n;by_cases hv:v<0
  .rw[df hv];omega
  .rw[cZ hv];exact Nat.min_le_right _ _
def IV(v:Int)(n d:Nat):(if v<0 then max (v+(n:Int)) 0 else min v (n:Int))=((tw n d (some v):Nat):Int):=by
 show(if v<0 then max (v+(n:Int)) 0 else min v (n:Int))=(((if v<0 then(v+(n:Int)).toNat else min v.toNat n):Nat):Int);by_cases hv:v<0
 .simp only[df hv];omega
 .simp only[cZ hv];omega
def HU(lo hi:Option Int)(n:Nat):Builtin.Slice.sliceAdjust lo hi 1 (n:Int)=(((tw n 0 lo:Nat):Int),((tw n n hi:Nat):Int)):=by
 have h1:¬((1:Int)<0):=by omega
 unfold Builtin.Slice.sliceAdjust;simp only[h1,ko];refine my ?_ ?_
 .cases lo with
  | none=>rfl
  | some v=>exact IV v n 0
 .cases hi with
  | none=>rfl
  | some v=>exact IV v n n
def G8(i j:Nat):Builtin.Slice.slicePlaces (i:Int) (j:Int) 1=j - i:=by
 unfold Builtin.Slice.slicePlaces;have h1:(1:Int)>0:=by omega
 simp only[h1,jb,Int.ediv_one];split<;>omega
def Ck{v:Vl}{o:Option Int}{Q:Option Int->Sd->Prop}(p:IsPart v o)(h:Q o s):wpAny (model prog w) A (Builtin.Slice.slicePartIndex v) Q E s:=by
 cases p with
 | none=>exact slicePart_none h
 | int i t=>exact slicePart_int h
def ww{sl:Addr}{vl vu:Vl}{lo hi:Option Int}{n:Nat}{Q:Int×Int×Nat->Sd->Prop}(hs:s.heap.IsSliceOf sl vl vu .none)(pl:IsPart vl lo)(pu:IsPart vu hi) (h:Q (((tw n 0 lo:Nat):Int),1,tw n n hi - tw n 0 lo) s):wpAny (model prog w) A (Builtin.Slice.sliceApplied (.ref sl) (pure (n:Int))) Q E s:=by
 obtain⟨os,Zu,Zb,XY⟩:=id hs;unfold Builtin.Slice.sliceApplied Builtin.Slice.sliceFields;refine cW (cW (fk Zu XY (x:=vl) rfl (cW (fk Zu XY (x:=vu) rfl (cW (fk Zu XY (x:=.none) rfl (dq ?_)))))));refine cW (slicePart_none ?_);show wpAny _ _ (if ((1:Int)==0)=true then _ else _) _ _ s;rw[cZ (by decide)];refine cW (Ck pl (cW (Ck pu (cW (dq ?_)))));show wpAny _ _ (match Builtin.Slice.sliceAdjust lo hi 1 (n:Int)with|(lo,hi)=>pure (lo,(1:Int),Builtin.Slice.slicePlaces lo hi 1)) _ _ s;rw[HU lo hi n];show wpAny _ _ (pure (((tw n 0 lo:Nat):Int),(1:Int),Builtin.Slice.slicePlaces ((tw n 0 lo:Nat):Int) ((tw n n hi:Nat):Int) 1)) _ _ s;rw[G8];exact dq h
def ME(xs:Array Vl)(i k:Nat):((List.range k).filterMap λ(m:Nat)=>xs[((i:Int)+(m:Int)*1).toNat]?).toArray=((xs.toList.drop i).take k).toArray:=by
 have e:(λ(m:Nat)=>xs[((i:Int)+(m:Int)*1).toNat]?)=λm=>xs[i+m]?:=by
  funext m;have:((i:Int)+(m:Int)*1).toNat=i+m:=by omega
  rw[this]
 rw[e];have:=pick_run xs i k;rw[List.filterMap_map]at this;have e2:((λx=>xs[x]?)∘λx=>i+x)=λm=>xs[i+m]?:=rfl;rw[e2]at this;rw[this]
def zy{t sl:Addr}{WI:Array Vl}{vl vu:Vl}{lo hi:Option Int}{Q:QQX}(ht:IsTup s.heap t WI)(hs:s.heap.IsSliceOf sl vl vu .none)(pl:IsPart vl lo)(pu:IsPart vu hi) (hw:¬(tw WI.size 0 lo=0/\tw WI.size WI.size hi=WI.size)) (h:Q (.ref s.heap.objs.size) {s with heap:=s.heap.push {cls:=.type "tuple",data:=.seq ((WI.toList.drop (tw WI.size 0 lo)).take (tw WI.size WI.size hi - tw WI.size 0 lo)).toArray}})
  (hsz:WI.size<=sizeLine):wpAny (model prog w) A (getItem (.ref t) (.ref sl)) Q E s:=by
 have X5:sizeOk (.seq ((WI.toList.drop (tw WI.size 0 lo)).take (tw WI.size WI.size hi - tw WI.size 0 lo)).toArray):=by show((WI.toList.drop (tw WI.size 0 lo)).take (tw WI.size WI.size hi - tw WI.size 0 lo)).toArray.size<=sizeLine;rw[dw,fz,gx,ii];omega
 have hj:tw WI.size WI.size hi<=WI.size:=QS _ _ (dv _) hi;obtain⟨os,Zu,Zb,XY⟩:=id hs;have hTs:s.TypeIs (.ref sl) "slice":=⟨os,Zu,Zb⟩;unfold getItem
 try with_reducible refine eU ?_
 first|refine cW (dq ?_)|skip
 refine cW (jo ht.typeIs (by decide) ?_);refine cW (fO (name:=Str.ofString "__getitem__") ht.typeIs fD
  (fV fD ht.typeIs kE ?_ (kS _ _)))
 show wpAny _ _ (Builtin.Tuple.tupleItemsOf (.ref t)>>=_) _ _ s;refine cW (tupleItemsOf_ ht ?_);refine cW (jD hTs ?_);rw[df (by decide)];refine cW (ww hs pl pu ?_);have hno:¬((((tw WI.size 0 lo:Nat):Int)==0&&(1:Int)==1&&(tw WI.size WI.size hi - tw WI.size 0 lo)==WI.size)=true):=by intro q;rw[dU,dU]at q;have q1:((tw WI.size 0 lo:Nat):Int)=0:=eq_of_beq q.1.1;have q2:tw WI.size WI.size hi - tw WI.size 0 lo=WI.size:=eq_of_beq q.2;exact hw ⟨by omega,by omega⟩
 show wpAny _ _ (if (((tw WI.size 0 lo:Nat):Int)==0&&(1:Int)==1&&(tw WI.size WI.size hi - tw WI.size 0 lo)==WI.size)=true then _ else _) _ _ s;rw[cZ hno,ME]
 first
  | exact cW (m:=Builtin.Tuple.tupleExact _) (fX (dq ⟨_,rfl,dq h⟩) X5)
  | exact cW (m:=Builtin.Tuple.tupleExact _) (fX (cW (dq (dq ⟨_,rfl,dq h⟩))) X5)
  | exact cW (cW (m:=Builtin.Tuple.tupleExact _) (fX (dq (dq ⟨_,rfl,dq h⟩)) X5))
  | exact cW (cW (m:=Builtin.Tuple.tupleExact _) (fX (dq ⟨_,rfl,dq h⟩) X5))
end HT
namespace L2
abbrev TO:=St->Hp->(Option Int->Hp->Prop)->Prop
def PO(X:Cx)(e:Option Expr)(t:TO):Prop:=
 ∀(WH:QQY) (s:Sd) (σ:St) (H:Hp) (Q:Option Int->Hp->Prop),Inv X WH σ H s->t σ H Q->
  wpAny (model X.prog X.w) X.A (evalPart e X.env) (λu s'=>∃o H',Inv X WH σ H' s'/\IsPart u o/\Q o H') X.xe s
def Pk:TO:=λ_ H Q=>Q none H
def TH(t:TE):TO:=λσ H Q=>t σ H λx H1=>∃i,x=.int i/\Q (some i) H1
variable {X:Cx}{e:Expr}{te:TE}{lo hi:Option Expr}{tl th:TO}{pos p2:Pos}
def O7:PO X none Pk:=by intro WH s σ H Q I h;rw[evalPart_none];exact dq ⟨none,H,I,.none,h⟩
def O1(h:PE X e te):PO X (some e) (TH te):=by intro WH s σ H Q I hw;rw[evalPart_some];refine sH (h WH s σ H _ I hw) λu s1 zz=>x5 zz λx H1 I1 r1 q1=>?_;obtain⟨i,rfl,q⟩:=q1;obtain⟨t,rfl⟩:=r1;exact⟨some i,H1,I1,.int i t,q⟩
def TX(X:Cx)(r:V->Option Int->Option Int->Hp->VK->Prop):Prop:=
 ∀(WH:QQY) (s:Sd) (σ:St) (H:Hp) (x:V) (v vl vu:Vl) (lo hi:Option Int) (sl:Addr) (Q:VK),Inv X WH σ H s->qJ x v->s.heap.IsSliceOf sl vl vu .none->IsPart vl lo->IsPart vu hi->r x lo hi H Q->
  ∃T id,typeLookup (.type T) "__getitem__"=pure (some (.builtin id))/\s.TypeIs v T/\wpAny (model X.prog X.w) X.A (getItem v (.ref sl)) (EP X WH σ Q) X.xe s
def Wm(r:V->Option Int->Option Int->Hp->VK->Prop)(te:TE)(tl th:TO):TE:=λσ H Q=>te σ H λx H1=>tl σ H1 λl H2=>th σ H2 λu H3=>r x l u H3 Q
def Ln{r:V->Option Int->Option Int->Hp->VK->Prop}(hr:TX X r)(he:PE X e te)(hl:PO X lo tl)(hu:PO X hi th):PE X (.Subscript e (.Slice lo hi none p2) pos) (Wm r te tl th):=by intro WH s σ H Q I h;refine Subscript_ (sH (he WH s σ H _ I h) λv s1 zz=>x5 zz λx H1 I1 r1 q1=>?_);refine wpAny_Slice (sH (hl WH s1 σ H1 _ I1 q1) λvl s2 zz=>x5 zz λl H2 I2 pl q2=>sH (hu WH s2 σ H2 _ I2 q2) λvu s3 zz=>x5 zz λu H3 I3 pu q3=>?_);rw[evalPart_none];refine dq ?_;have I4:Inv X WH σ H3 {s3 with heap:=s3.heap.push {cls:=.type "slice",data:=.fields #[vl,vu,.none]}}:=I3.kept (t':=s3.toks) λb ob q=>de _ q;obtain⟨T,id,hT,ht,hg⟩:=hr WH {s3 with heap:=s3.heap.push {cls:=.type "slice",data:=.fields #[vl,vu,.none]}} σ H3 x v vl vu l u s3.heap.objs.size Q I4 r1 (mJ ..) pl pu q3;show wpAny (model X.prog X.w) X.A (subscriptTail e (.Slice lo hi none p2) v (.ref s3.heap.objs.size)) (EP X WH σ Q) X.xe {s3 with heap:=s3.heap.push {cls:=.type "slice",data:=.fields #[vl,vu,.none]}};exact tail_any (ops:=[.ref s3.heap.objs.size,v]) ht hT hg (by with_unfolding_all rfl)
def BK(xs:List V)(lo hi:Option Int):List V:=(xs.drop (HT.tw xs.length 0 lo)).take (HT.tw xs.length xs.length hi - HT.tw xs.length 0 lo)
def AA(xs:List V)(lo hi:Option Int):(BK xs lo hi).length<=xs.length:=by unfold BK;rw[fz,gx];omega
def Vk(K:qu):V->Option Int->Option Int->Hp->VK->Prop:=λx lo hi H Q=>∃a xs,x=.ref a/\ve K H a xs/\
 ¬(HT.tw xs.length 0 lo=0/\HT.tw xs.length xs.length hi=xs.length)/\∀p,H p=none->Q (.ref p) (upd H p (.tup (BK xs lo hi)))
def Rx:TX X (Vk X.K):=by
 intro WH s σ H x v vl vu lo hi sl Q I rx hs pl pu h;obtain⟨a,xs,rfl,hx,hw,q⟩:=h;cases rx;obtain⟨its,r,ht,hz⟩:=I.tuple hx;have WN:its.toArray.size=xs.length:=by rw[dw];exact r.length.symm
 refine⟨"tuple",_,fD.lookup,ht.typeIs,?_⟩;refine HT.zy ht hs pl pu (by rw[WN];exact hw) ?_ (by rw[WN];exact hz);rw[WN];refine⟨.ref s.heap.objs.size,_,I.laid (t':=s.toks) (o:=.tup (BK xs lo hi)) (λb ob q=>de _ q) (dv _) ?_,rfl,q _ (I.mV.fresh (dv _))⟩;exact⟨d6 (AA xs lo hi) hz,_,(r.drop (HT.tw xs.length 0 lo)).take (HT.tw xs.length xs.length hi - HT.tw xs.length 0 lo),E1.new _ _⟩
def UF(K:qu):R2:=λx y H Q=>∃a b xs ys,x=.ref a/\y=.ref b/\ve K H a xs/\ve K H b ys/\xs≠[]/\xs.length+ys.length<=sizeLine/\
 (ys=[]->Q (.ref a) H)/\(ys≠[]->∀p,H p=none->Q (.ref p) (upd H p (.tup (xs++ys))))
def qE.nO{xs:List V}{us:List Vl}(r:qE xs us):us=[]↔xs=[]:=by
 cases r with
 | nil=>simp
 | cons _ _=>simp
def OW:xp X (binaryOp .Add) (UF X.K):=by intro WH s σ H x y v u Q I rx ry h;obtain⟨a,b,xs,ys,rfl,rfl,ha,hb,hx,hz,q1,q2⟩:=h;cases rx;cases ry;obtain⟨its,r1,p1,_⟩:=I.tuple ha;obtain⟨its2,r2,p2,_⟩:=I.tuple hb;refine HT.Oq p1 p2 (λz=>hx (r1.nO.mp z)) (λz=>⟨.ref a,H,I,rfl,q1 (r2.nO.mp z)⟩) (λz=>?_) (by rw[<-r1.length,<-r2.length];exact hz);refine⟨.ref s.heap.objs.size,_,I.laid (t':=s.toks) (o:=.tup (xs++ys)) (λb ob q=>de _ q) (dv _) ?_,rfl,q2 (λw=>z (r2.nO.mpr w)) _ (I.mV.fresh (dv _))⟩;exact⟨by rw[cY];exact hz,_,r1.append r2,E1.new _ _⟩
def GH(n:Nat)(i:Int):Option Nat:=if 0<=i then(if i<n then some i.toNat else none)else if -(n:Int)<=i then some (i+n).toNat else none
def vC{α:Type}(xs:List α)(i:Int):Option α:=(GH xs.length i).bind λj=>xs[j]?
def IX{n:Nat}{i:Int}{j:Nat}(h:GH n i=some j):seqIndex? i n=some j/\j<n/\-(n:Int)<=i/\i<n:=by
 unfold GH at h;by_cases h0:0<=i
 .rw[df h0]at h;by_cases h1:i<n
  .rw[df h1]at h;have e:i.toNat=j:=dh h;exact⟨by rw[lE h0 h1,e],by omega,by omega,h1⟩
  .rw[cZ h1]at h;cases h
 .rw[cZ h0]at h;by_cases h1:-(n:Int)<=i
  .rw[df h1]at h;have e:(i+n).toNat=j:=dh h;exact⟨by rw[kT (by omega) h1,e],by omega,h1,by omega⟩
  .rw[cZ h1]at h;cases h
def Et{α:Type}{xs:List α}{i:Int}{v:α}(h:vC xs i=some v):∃j,seqIndex? i xs.length=some j/\xs[j]?=some v/\j<xs.length/\-(xs.length:Int)<=i/\i<xs.length:=by
 unfold vC at h;cases e:GH xs.length i with
 | none=>rw[e]at h;cases h
 | some j=>rw[e]at h;obtain⟨h1,h2,h3,h4⟩:=IX e;exact⟨j,h1,h,h2,h3,h4⟩
def ur{α:Type}{xs:List α}{j:Nat}{v:α}(h:xs[j]?=some v):vC xs (j:Int)=some v:=by
 have hj:j<xs.length:=(c9.mp h).1;have e:GH xs.length (j:Int)=some j:=by unfold GH;rw[df (by omega),df (by omega)];simp
 unfold vC;rw[e];exact h
def Bf(b:Expr):Prop:=∀o i,subscripted b false o i=operate [o,i] (getItem o i)
def SW(X:Cx)(r:R2):Prop:=
 ∀(value WR:Expr) (WH:QQY) (s:Sd) (σ:St) (H:Hp) (x y:V) (v u:Vl) (Q:VK),Inv X WH σ H s->qJ x v->qJ y u->r x y H Q->
  subscripted WR false v u=operate [v,u] (getItem v u)->wpAny (model X.prog X.w) X.A (subscriptTail value WR v u) (EP X WH σ Q) X.xe s
def V6(X:Cx)(id:String)(r:V->List V->Hp->VK->Prop):Prop:=
 ∀(WH:QQY) (s:Sd) (σ:St) (H:Hp) (x:V) (xs:List V) (v:Vl) (us:List Vl) (Q:VK),Inv X WH σ H s->qJ x v->qE xs us->r x xs H Q->
  wpAny (model X.prog X.w) X.A (call (.builtin id) (v::us)) (EP X WH σ Q) X.xe s
variable {o:Expr}{es:List Expr}{to:TE}{t:TA}{name:Str}{WK WO:Pos}{T id:String}{r:V→List V→Hp→VK→Prop}{a:Expr}{ta tb:TE}
section
variable {b:Expr}
def Lg{r:R2}(hr:SW X r)(ha:PE X a ta)(hb:PE X b tb)(hs:Bf b):PE X (.Subscript a b pos) (Tb r ta tb):=by intro WH s σ H Q I h;exact Subscript_ (So ha hb I h λv u s2 x y H2 I2 rx ry q=>hr a b WH s2 σ H2 x y v u Q I2 rx ry q (hs _ _))
def Vp(K:qu):R2:=λx y H Q=>∃p xs i v,x=.ref p/\y=.int i/\yT K H p xs/\vC xs i=some v/\Q v H
def VG(K:qu):R2:=λx y H Q=>∃p xs i v,x=.ref p/\y=.int i/\ve K H p xs/\vC xs i=some v/\Q v H
def VX:R2:=λx y H Q=>∃z i c,x=.str z/\y=.int i/\z.length<=sizeLine/\vC z.cps.toList i=some c/\Q (.str ⟨#[c]⟩) H
def Iq:SW X (Vp X.K):=by
 intro value WR WH s σ H x y v u Q I rx ry h hs;obtain⟨p,xs,i,z,rfl,rfl,hq,he,q⟩:=h;cases rx;obtain⟨t,rfl⟩:=ry;obtain⟨its,r,pl,hz⟩:=I.list hq;obtain⟨j,h1,h2,h3,h4,h5⟩:=Et he;obtain⟨w,ew,YR⟩:=r.get h2;have hl:=r.length;have hn:=yK;have WM:EP X WH σ Q w s:=⟨z,H,I,YR,q⟩;by_cases h0:0<=i
 .have hj:i.toNat=j:=by rw[lE h0 h5]at h1;exact dh h1
  exact item_listR pl.isList h0 (by omega) (by rw[hj];simpa using ew) WM hs
 .have hj:(i+(its.toArray.size:Int)).toNat=j:=by rw[kT (by omega) h4]at h1;rw[dw,<-hl];exact dh h1
  exact j4 (x:=w) pl.isList.typeIs ls.lookup
   (wpAny_getItem_list_neg (Q:=λr s'=>r=w/\EP X WH σ Q r s') pl.isList (by omega) (by rw[dw]<;>omega) (by omega) (by rw[hj];simpa using ew) ⟨rfl,WM⟩) hs
def Sb:SW X (VG X.K):=by
 intro value WR WH s σ H x y v u Q I rx ry h hs;obtain⟨p,xs,i,z,rfl,rfl,hq,he,q⟩:=h;cases rx;obtain⟨t,rfl⟩:=ry;obtain⟨its,r,pl,hz⟩:=I.tuple hq;obtain⟨j,h1,h2,h3,h4,h5⟩:=Et he;obtain⟨w,ew,YR⟩:=r.get h2;have hl:=r.length;have hn:=yK;have WM:EP X WH σ Q w s:=⟨z,H,I,YR,q⟩;exact j4 (x:=w) pl.typeIs slot_tuple_getitem.lookup
  (getItem_tuple (j:=j) (Q:=λr s'=>r=w/\EP X WH σ Q r s') pl (by omega) (by omega) (by rw[dw,<-hl];exact h1) (by simpa using ew) ⟨rfl,WM⟩) hs
def SM:SW X VX:=by
 intro value WR WH s σ H x y v u Q I rx ry h hs;obtain⟨z,i,c,rfl,rfl,hz,he,q⟩:=h;obtain⟨t,rfl⟩:=rx;obtain⟨t',rfl⟩:=ry;obtain⟨j,h1,h2,h3,h4,h5⟩:=Et he;have hl:z.cps.toList.length=z.length:=by simp[Str.length]
 rw[hl]at h1 h4 h5;have hn:=yK;exact tail_any (typeIs_str s z t) slot_str_getitem.lookup (getItem_str (c:=c) (by
  have e1:decide (i< -(2 ^ 63:Int))=false:=eN (by omega);have e2:decide (i>=2 ^ 63)=false:=eN (by omega);rw[e1,e2,jl]) (by rw[h1];simpa using h2) ⟨.str ⟨#[c]⟩,H,I.tok _,⟨_,rfl⟩,q⟩) hs
def Hm(its:List Vl)(n j:Nat)(u:Vl):Obj.mapSeq (·.setIfInBounds j u) {cls:=.type "list",data:=.seq its.toArray n}={cls:=.type "list",data:=.seq (its.set j u).toArray n}:=by simp[Obj.mapSeq]
def Inv.lst{WH:QQY}{σ:St}{H:Hp}{s:Sd}{p:Addr}{xs:List V}(I:Inv X WH σ H s)(h:H p=some (.lst xs)):
  ∃(its:List Vl) (n:Nat),qE xs its/\s.heap.get? p=some {cls:=.type "list",data:=.seq its.toArray n}/\xs.length<=sizeLine:=by
 obtain⟨z,its,n,r,e⟩:=I.mV p _ h;exact⟨its,n,r,e,z⟩
def Inv.oF{WH:QQY}{σ:St}{H:Hp}{s:Sd}{p:Addr}{xs ys:List V}{its its':List Vl}{n n':Nat}{f:Obj->Obj}(I:Inv X WH σ H s)(h:H p=some (.lst xs)) (ho:s.heap.get? p=some {cls:=.type "list",data:=.seq its.toArray n}) (hf:f {cls:=.type "list",data:=.seq its.toArray n}={cls:=.type "list",data:=.seq its'.toArray n'}) (r:qE ys its') (hz:ys.length<=sizeLine) (t:Nat):
  Inv X WH σ (upd H p (.lst ys)) {s with heap:=s.heap.update p f,toks:=t}:=by
 have e:(s.heap.update p f).get? p=some {cls:=.type "list",data:=.seq its'.toArray n'}:=by rw[fL f ho (by rw[hf]<;>rfl),hf]
 refine I.write (x:=p) (e:=p) (by rw[h];trivial) (.inl rfl) (λb u hb q=>(gg _ _ (dP hb)).trans q) ⟨_,e⟩ ?_;exact⟨hz,its',n',r,e⟩
def Uk:V->V->V->Hp->(Hp->Prop)->Prop:=λo i v H Q=>∃p xs k j,o=.ref p/\i=.int k/\H p=some (.lst xs)/\GH xs.length k=some j/\Q (upd H p (.lst (xs.set j v)))
def MB:Tq X Uk:=by
 intro WH s σ H o i v ov iv u Q I ro ri rv h;obtain⟨p,xs,k,j,rfl,rfl,hp,hj,q⟩:=h;cases ro;obtain⟨t,rfl⟩:=ri;obtain⟨its,n,r,ho,hz⟩:=I.lst hp;obtain⟨h1,h2,h3,h4⟩:=IX hj;have hl:=r.length;have hn:=yK;have I':Inv X WH σ (upd H p (.lst (xs.set j v))) {s with heap:=s.heap.update p (Obj.mapSeq (·.setIfInBounds j u))}:=
  I.oF hp ho (Hm its n j u) (r.set rv j) (by rw[ij];exact hz) s.toks
 by_cases h0:0<=k
 .have hk:k.toNat=j:=by rw[lE h0 h4]at h1;exact dh h1
  exact W.ki_setAt ho h0 (by omega) (by rw[dw,<-hl];exact h4) (by rw[hk];exact⟨_,I',q⟩)
 .have hk:(k+(its.toArray.size:Int)).toNat=j:=by rw[kT (by omega) h3]at h1;rw[dw,<-hl];exact dh h1
  exact W.ki_setBack ho (by omega) (by rw[dw,<-hl];exact h3) (by omega) (by rw[hk];exact⟨_,I',q⟩)
def Fy(lo hi:Option Int)(n:Nat):(sliceBounds lo hi none n).1=((HT.tw n 0 lo:Nat):Int)/\(sliceBounds lo hi none n).2.1=((HT.tw n n hi:Nat):Int)/\(sliceBounds lo hi none n).2.2=1:=by
 refine⟨?_,?_,rfl⟩
 .cases lo with
  | none=>simp[sliceBounds,HT.tw]
  | some i=>
   simp only[sliceBounds,HT.tw,lP,show(1:Int)>0 by decide,jb];by_cases h:i<0
   .simp only[h,jb]<;>omega
   .simp only[h,ko]<;>omega
 .cases hi with
  | none=>simp[sliceBounds,HT.tw]
  | some i=>
   simp only[sliceBounds,HT.tw,lP,show(1:Int)>0 by decide,jb];by_cases h:i<0
   .simp only[h,jb]<;>omega
   .simp only[h,ko]<;>omega
def CV(its:List Vl)(lo hi:Option Int):slicePick its.toArray lo hi none=((its.drop (HT.tw its.length 0 lo)).take (HT.tw its.length its.length hi - HT.tw its.length 0 lo)).toArray:=by obtain⟨h1,h2,h3⟩:=Fy lo hi its.toArray.size;unfold slicePick;rw[h1,h2,h3];simp only[sliceRange_one,pick_run,dw]<;>rfl
def Vz(K:qu):V->Option Int->Option Int->Hp->VK->Prop:=λx lo hi H Q=>∃a xs,x=.ref a/\yT K H a xs/\∀p,H p=none->Q (.ref p) (upd H p (.lst (BK xs lo hi)))
def Ju:TX X (Vz X.K):=by intro WH s σ H x v vl vu lo hi sl Q I rx hs pl pu h;obtain⟨a,xs,rfl,hx,q⟩:=h;cases rx;obtain⟨its,r,ht,hz⟩:=I.list hx;have WN:=r.length;refine⟨"list",_,ls.lookup,ht.isList.typeIs,?_⟩;refine wpAny_getItem_list_slice ht.isList hs pl pu .none (by simp) ?_ (by rw[dw]<;>omega);rw[CV,<-WN];refine⟨.ref s.heap.objs.size,_,I.laid (t':=s.toks) (o:=.lst (BK xs lo hi)) (λb ob q=>de _ q) (dv _) ?_,rfl,q _ (I.mV.fresh (dv _))⟩;exact⟨d6 (AA xs lo hi) hz,_,0,(r.drop (HT.tw xs.length 0 lo)).take (HT.tw xs.length xs.length hi - HT.tw xs.length 0 lo),dI _ rfl⟩
def yp:V->Bool
 | .mS=>true
 | .bl _=>true
 | .int _=>true
 | .str _=>true
 | _=>false
def NE:V->V->Bool
 | .mS,.mS=>true
 | .bl a,.bl b=>a==b
 | .bl a,.int b=>(if a then 1 else 0)==b
 | .int a,.bl b=>a==(if b then 1 else 0)
 | .int a,.int b=>a==b
 | .str a,.str b=>a==b
 | _,_=>false
def R4{A:Ar}{s:Sd}{y x:V}{u v:Vl}(ry:qJ y u)(rx:qJ x v)(fy:yp y=true)(fx:yp x=true):SeqAt.EqAt A s u v (NE y x):=by
 cases y with
 | mS=>
  cases ry;cases x with
  | mS=>cases rx;exact SeqAt.EqAt.same _
  | bl b=>cases rx;exact SeqAt.EqAt.none_bool b
  | int b=>obtain⟨t,rfl⟩:=rx;exact SeqAt.EqAt.none_int b t
  | str b=>obtain⟨t,rfl⟩:=rx;exact SeqAt.EqAt.none_str b t
  | _=>exact absurd (show false=true from fx) dB
 | bl a=>
  cases ry;cases x with
  | mS=>cases rx;exact SeqAt.EqAt.bool_none a
  | bl b=>cases rx;exact SeqAt.EqAt.bool_bool a b
  | int b=>obtain⟨t,rfl⟩:=rx;exact SeqAt.EqAt.bool_int a b t
  | str b=>obtain⟨t,rfl⟩:=rx;exact SeqAt.EqAt.bool_str a b t
  | _=>exact absurd (show false=true from fx) dB
 | int a=>
  obtain⟨t',rfl⟩:=ry;cases x with
  | mS=>cases rx;exact SeqAt.EqAt.int_none a t'
  | bl b=>cases rx;exact SeqAt.EqAt.int_bool a t' b
  | int b=>obtain⟨t,rfl⟩:=rx;exact SeqAt.EqAt.int_int a t' b t
  | str b=>obtain⟨t,rfl⟩:=rx;exact kM a t' b t
  | _=>exact absurd (show false=true from fx) dB
 | str a=>
  obtain⟨t',rfl⟩:=ry;cases x with
  | mS=>cases rx;exact SeqAt.EqAt.str_none a t'
  | bl b=>cases rx;exact SeqAt.EqAt.str_bool a t' b
  | int b=>obtain⟨t,rfl⟩:=rx;exact kN a t' b t
  | str b=>obtain⟨t,rfl⟩:=rx;exact SeqAt.EqAt.str_str a t' b t
  | _=>exact absurd (show false=true from fx) dB
 | _=>exact absurd (show false=true from fy) dB
def Fm(x:V)(u:Vl):Bool:=match u with
 | .none=>NE .mS x
 | .bool b=>NE (.bl b) x
 | .int i _=>NE (.int i) x
 | .str z _=>NE (.str z) x
 | _=>false
def HB{x y:V}{u:Vl}(r:qJ y u)(f:yp y=true):Fm x u=NE y x:=by
 cases y with
 | mS=>cases r;rfl
 | bl b=>cases r;rfl
 | int i=>obtain⟨t,rfl⟩:=r;rfl
 | str z=>obtain⟨t,rfl⟩:=r;rfl
 | _=>exact absurd (show false=true from f) dB
theorem zj{x:V}:∀{xs:List V} {us:List Vl},qE xs us->xs.all yp=true->us.any (Fm x)=xs.any λy=>NE y x
 | _,_,.nil,_=>rfl
 | y::xs,u::us,.cons r t,f=>by rw[eW,dU]at f;rw[fW,fW,HB r f.1,zj t f.2]
theorem wx{A:Ar}{s:Sd}{x:V}{v:Vl}(rx:qJ x v)(fx:yp x=true):∀{xs:List V} {us:List Vl},qE xs us->xs.all yp=true->∀u∈us,SeqAt.EqAt A s u v (Fm x u)
 | _,_,.nil,_=>λu hu=>by cases hu
 | y::xs,u::us,.cons r t,f=>λu' hu=>by
  rw[eW,dU]at f;rcases dg.mp hu with rfl|hu
  .rw[HB r f.1];exact R4 r rx f.1 fx
  .exact wx rx fx t f.2 u' hu
def inV(x:V)(xs:List V):Bool:=xs.any λy=>NE y x
def VL(K:qu)(Yh:Bool):R2:=λx y H Q=>∃p xs,y=.ref p/\(yT K H p xs\/ve K H p xs)/\yp x=true/\xs.all yp=true/\Q (.bl (if Yh then !inV x xs else inV x xs)) H
def Ks:xp X (compareOp .In) (VL X.K false):=by
 intro WH s σ H x y v u Q I rx ry h;obtain⟨p,xs,rfl,hq,fx,fs,q⟩:=h;cases ry;rcases hq with hq|hq
 .obtain⟨its,r,pl,hz⟩:=I.list hq;refine SeqAt.in_listAt (Fm x) pl.isList (λw hw=>wx rx fx r fs w (by simpa using hw)) ⟨.bl _,H,I,rfl,?_⟩;rw[show its.toArray.any (Fm x)=its.any (Fm x)by simp,zj r fs];exact q
 .obtain⟨its,r,pl,hz⟩:=I.tuple hq;refine SeqAt.in_tupleAt (Fm x) pl (λw hw=>wx rx fx r fs w (by simpa using hw)) ⟨.bl _,H,I,rfl,?_⟩;rw[show its.toArray.any (Fm x)=its.any (Fm x)by simp,zj r fs];exact q
def Eg:xp X (compareOp .NotIn) (VL X.K true):=by
 intro WH s σ H x y v u Q I rx ry h;obtain⟨p,xs,rfl,hq,fx,fs,q⟩:=h;cases ry;rcases hq with hq|hq
 .obtain⟨its,r,pl,hz⟩:=I.list hq;refine SeqAt.notIn_listAt (Fm x) pl.isList (λw hw=>wx rx fx r fs w (by simpa using hw)) ⟨.bl _,H,I,rfl,?_⟩;rw[show its.toArray.any (Fm x)=its.any (Fm x)by simp,zj r fs];exact q
 .obtain⟨its,r,pl,hz⟩:=I.tuple hq;refine SeqAt.notIn_tupleAt (Fm x) pl (λw hw=>wx rx fx r fs w (by simpa using hw)) ⟨.bl _,H,I,rfl,?_⟩;rw[show its.toArray.any (Fm x)=its.any (Fm x)by simp,zj r fs];exact q
def Fp:xp X (compareOp .NotIn) (λx y H Q=>∃i j,x=.str i/\y=.str j/\Q (.bl (!(!(Builtin.Str.occurrences j i 0 j.length 1).isEmpty))) H):=by intro WH s σ H x y v u Q I rx ry h;obtain⟨i,j,rfl,rfl,q⟩:=h;obtain⟨t,rfl⟩:=rx;obtain⟨t',rfl⟩:=ry;exact notIn_str ⟨.bl _,H,I,rfl,q⟩
def wO:yu X (.builtin "len") (λxs H Q=>∃p ys,xs=[.ref p]/\(yT X.K H p ys\/ve X.K H p ys)/\Q (.int ys.length) H):=by
 intro WH s σ H xs us Q I r h;obtain⟨p,ys,rfl,hq,q⟩:=h;obtain⟨u,rfl,rx⟩:=xl r;cases rx;have hn:=yK;rcases hq with hq|hq
 .obtain⟨its,r',pl,hz⟩:=I.list hq;have WN:=r'.length;exact Calls.call_len_list pl.isList (by simp only[dw]<;>omega) ⟨.int ys.length,H,I.tok _,⟨s.toks+1,by rw[dw,WN]⟩,q⟩
 .obtain⟨its,r',pl,hz⟩:=I.tuple hq;have WN:=r'.length;exact len_tuple pl (by simp only[dw]<;>omega) ⟨.int ys.length,H,I.tok _,⟨s.toks+1,by rw[dw,WN]⟩,q⟩
def Ei:yu X (.builtin "len") (λxs H Q=>∃z,xs=[.str z]/\z.length<=sizeLine/\Q (.int z.length) H):=by intro WH s σ H xs us Q I r h;obtain⟨z,rfl,hz,q⟩:=h;obtain⟨u,rfl,t,rfl⟩:=xl r;have hn:=yK;exact len_str (by omega) ⟨.int z.length,H,I.tok _,⟨_,rfl⟩,q⟩
def EN:yu X (.type "list") (λxs H Q=>∃p ys,xs=[.ref p]/\(yT X.K H p ys\/ve X.K H p ys)/\∀l,H l=none->Q (.ref l) (upd H l (.lst ys))):=by
 intro WH s σ H xs us Q I r h;obtain⟨p,ys,rfl,hq,q⟩:=h;obtain⟨u,rfl,rx⟩:=xl r;cases rx;have WM:∀(its:List Vl),qE ys its->ys.length<=sizeLine->∀(h':Heap) (c':Nat),(∀b o',s.heap.get? b=some o'->h'.get? b=some o')->
   h'.get? s.heap.objs.size=some {cls:=.type "list",dict:=none,data:=.seq its.toArray c',slots:=#[]}->EP X WH σ Q (.ref s.heap.objs.size) {s with heap:=h'}:=λits r' hz h' c' kp e=>
  ⟨.ref s.heap.objs.size,_,I.laid (t':=s.toks) kp (dv _) (show sd X.prog X.w _ h' _ (.lst ys)from⟨hz,its,c',r',e⟩),rfl,q _ (I.mV.fresh (dv _))⟩
 rcases hq with hq|hq
 .obtain⟨its,r',pl,hz⟩:=I.list hq;have WN:=r'.length;obtain⟨o,ho,hc,n,hd⟩:=pl.isList;exact call_list_seq p (.inl rfl) ho hc hd (λh' c' kp e=>WM its r' hz h' c' kp e) (by simp only[dw]<;>omega)
 .obtain⟨its,r',pl,hz⟩:=I.tuple hq;have WN:=r'.length;obtain⟨o,ho,hc,n,hd⟩:=pl;exact call_list_seq p (.inr rfl) ho hc hd (λh' c' kp e=>WM its r' hz h' c' kp e) (by simp only[dw]<;>omega)
def vY:yu X (.type "tuple") (λxs H Q=>∃p ys,xs=[.ref p]/\((yT X.K H p ys/\∀l,H l=none->Q (.ref l) (upd H l (.tup ys)))\/(ve X.K H p ys/\Q (.ref p) H))):=by
 intro WH s σ H xs us Q I r h;obtain⟨p,ys,rfl,h⟩:=h;obtain⟨u,rfl,rx⟩:=xl r;cases rx;rcases h with⟨hq,q⟩|⟨hq,q⟩
 .obtain⟨its,r',pl,hz⟩:=I.list hq;have WN:=r'.length;refine call_tuple_list pl.isList (λh' kp=>?_) (by simp only[dw]<;>omega);have I1:Inv X WH σ H {s with heap:=h'}:=I.kept (t':=s.toks) kp;have I2:Inv X WH σ (upd H h'.objs.size (.tup ys)) {s with heap:=h'.push {cls:=.type "tuple",data:=.seq its.toArray}}:=
   I1.laid (t':=s.toks) (λb o e=>de _ e) (dv _) (show sd X.prog X.w _ _ _ (.tup ys)from⟨hz,its,r',E1.new _ _⟩)
  exact⟨.ref h'.objs.size,_,I2,rfl,q _ (I1.mV.fresh (dv _))⟩
 .obtain⟨its,r',pl,hz⟩:=I.tuple hq;exact call_tuple_same pl ⟨.ref p,H,I,rfl,q⟩
def Vu(K:qu)(T:String)(x:V)(H:Hp):Prop:=match x with
 | .str _=>T="str"
 | .int _=>T="int"
 | .ref p=>(T="list"/\∃xs,yT K H p xs)\/(T="tuple"/\∃o,K.lookup p=some o/\o.cls=.type "tuple"/\o.dict=none)\/
   (T="dict"/\((∃kvs,H p=some (.dK kvs))\/∃kvs,H p=some (.dT kvs)))\/(T="set"/\∃S n,H p=some (.set S n))
 | _=>False
def Nv{WH:QQY}{σ:St}{H:Hp}{s:Sd}{T:String}{x:V}{v:Vl}(I:Inv X WH σ H s)(r:qJ x v)(ty:Vu X.K T x H):
  s.TypeIs v T/\∀a,v=.ref a->∃ob,s.heap.get? a=some ob/\ob.dict=none:=by
 cases x with
 | str z=>obtain⟨t,rfl⟩:=r;cases(show T="str" from ty);exact⟨typeIs_str s z t,λ_ e=>nomatch e⟩
 | int i=>obtain⟨t,rfl⟩:=r;cases(show T="int" from ty);exact⟨l0 s i t,λ_ e=>nomatch e⟩
 | ref p=>
  cases r;rcases ty with⟨rfl,xs,hq⟩|⟨rfl,o,hk,hc,hd⟩|⟨rfl,hk⟩|⟨rfl,S,n,hk⟩
  .obtain⟨its,_,pl,_⟩:=I.list hq;refine⟨pl.isList.typeIs,λa e=>?_⟩;cases e;obtain⟨o,n,e,c,hd,_⟩:=pl;exact⟨o,e,hd⟩
  .refine⟨⟨o,I.nk p o hk,hc⟩,λa e=>?_⟩;cases e;exact⟨o,I.nk _ o hk,hd⟩
  .have z:∃o,s.heap.get? p=some o/\o.ExactDict:=by
    rcases hk with⟨kvs,hk⟩|⟨kvs,hk⟩
    .obtain⟨_,_,_,_,o,_,_,e,ex,_⟩:=I.mV p _ hk;exact⟨o,e,ex⟩
    .obtain⟨_,_,_,_,o,_,_,e,ex,_⟩:=I.mV p _ hk;exact⟨o,e,ex⟩
   obtain⟨o,e,ex⟩:=z;refine⟨⟨o,e,ex.1⟩,λa e2=>?_⟩;cases e2;exact⟨o,e,ex.2.1⟩
  .obtain⟨o,_,_,_,e,ex,_⟩:=I.mV p _ hk;refine⟨⟨o,e,ex.1⟩,λa e2=>?_⟩;cases e2;exact⟨o,e,ex.2.1⟩
 | _=>exact False.elim ty
def Wn(K:qu)(T:String)(r:V->List V->Hp->VK->Prop)(to:TE)(t:TA):TE:=λσ H Q=>to σ H λx H1=>Vu K T x H1/\t σ H1 λxs H2=>r x xs H2 Q
def Tw(pa:PlainAttrs T)(slot:Slot T name id)(hty:typeOf (.builtin id)=pure (.type "method_descriptor"))(hm:V6 X id r)(ho:PE X o to)(ha:PA X (e::es) t) (WU:attributeBase o name X.env (eval o X.env)=eval o X.env:=by rfl)
  (XZ:((backTo WO (starEach (e::es) X.env)).all (λx=>!x.1)&&(backToKw WO (keywordEach [] X.env)).all (λx=>x.1.isSome)
   &&decide ((e::es).length+([]:List Keyword).length+(if ([]:List Keyword).isEmpty then 0 else 1)<30))=true:=by rfl)
  (W4:(WK.endLine==WO.line)=true:=by rfl) (hs:Bb X e es:=by rfl) (WY:CH X WO es:=by rfl):
  PE X (.Call (.Attribute o name WK) (e::es) [] WO) (Wn X.K T r to t):=by
 intro WH s σ H Q I h;refine wpAny_Call_method_late WU XZ W4 rfl (sH (ho WH s σ H _ I h) λv s1 zz=>?_);obtain⟨x,H1,I1,r1,ty,q1⟩:=zz;obtain⟨h1,h2⟩:=Nv I1 r1 ty;refine⟨T,id,pa,slot,hty,h1,h2,?_⟩;have hA:=ha WO WH s1 σ H1 _ I1 q1;rw[hs]at hA ⊢;refine j5 (by show(false||(backTo WO (starEach es X.env)).any (·.1))=false;rw[WY]<;>rfl) (Calls.evalArgs_plain ?_);exact sH hA λus s2 zz=>x5 zz λvs H2 I2 r2 q2=>hm WH s2 σ H2 x vs v us Q I2 r1 r2 q2
end
def Ws(X:Cx)(id:String)(r:V->List V->Hp->VK->Prop):Prop:=
 ∀(WH:QQY) (s:Sd) (σ:St) (H:Hp) (x:V) (xs:List V) (v:Vl) (us:List Vl) (Q:VK),Inv X WH σ H s->qJ x v->qE xs us->r x xs H Q->
  wpAny (model X.prog X.w) X.A (call (.builtin id) (v::us)) (EP X WH σ Q) X.xe s
def qE.one:∀{x:V} {us:List Vl},qE [x] us->∃u,us=[u]/\qJ x u
 | _,_,.cons r .nil=>⟨_,rfl,r⟩
theorem qE.rep{xs:List V}{us:List Vl}(h:qE xs us):∀k:Nat,qE (List.replicate k xs).flatten (List.replicate k us).flatten
 | 0=>.nil
 | k+1=>by rw[eI,eI,fP,fP];exact qE.append h (qE.rep h k)
theorem Dq(its:List Vl):∀(k:Nat) (acc:List Vl),List.foldl (λx1 x2=>x1++x2) acc.toArray (List.replicate k its.toArray)=(acc++(List.replicate k its).flatten).toArray
 | 0,acc=>by simp
 | k+1,acc=>by
  have e:acc.toArray++its.toArray=(acc++its).toArray:=by simp
  have e2:(acc++its)++(List.replicate k its).flatten=acc++(List.replicate (k+1) its).flatten:=by rw[eI,fP,ft]
  rw[<-e2,<-Dq its k (acc++its),<-e,eI,gb]
variable {WH:List (Addr × Obj)}{σ:St}{H:Hp}{s:Sd}{l:Addr}{xs ys zs:List V}
section
variable {b:Addr}
def Inv.lset{its its':List Vl}{n:Nat}{f:Array Vl->Array Vl}{t':Nat}(I:Inv X WH σ H s)(hH:H l=some (.lst xs)) (e:s.heap.get? l=some {cls:=.type "list",data:=.seq its.toArray n}) (hf:f its.toArray=its'.toArray) (hv:qE ys its') (hz:ys.length<=sizeLine):
  Inv X WH σ (upd H l (.lst ys)) {s with heap:=s.heap.update l (Obj.mapSeq f),toks:=t'}:=by
 have q:=PySem.IsL.update e f;rw[hf]at q;refine I.write (x:=l) (e:=l) (by rw[hH];exact trivial) (.inl rfl) (λb' u hb hu=>(gg s.heap (Obj.mapSeq f) (dP hb)).trans hu) ⟨_,q⟩ ?_;exact⟨hz,its',_,hv,q⟩
def Inv.oU{its:List Vl}{t':Nat}(I:Inv X WH σ H s)(hv:qE ys its)(hz:ys.length<=sizeLine):
  Inv X WH σ (upd H s.heap.objs.size (.lst ys)) {s with heap:=s.heap.push {cls:=.type "list",data:=.seq its.toArray},toks:=t'}:=
 I.laid (λ_ _ q=>de _ q) (dv _) ⟨hz,its,0,hv,dI _ rfl⟩
def Inv.fresh(I:Inv X WH σ H s):H s.heap.objs.size=none:=I.mV.fresh (dv _)
def Inv.oM(I:Inv X WH σ H s)(hH:H l=some (.lst xs)):xs.length<=sizeLine/\∃(its:List Vl) (n:Nat),qE xs its/\xs.length=its.length/\s.heap.get? l=some {cls:=.type "list",data:=.seq its.toArray n}:=by obtain⟨z,its,n,r,e⟩:=I.mV l _ hH;exact⟨z,its,n,r,r.length,e⟩
def My{n:Nat}(h:n<=sizeLine):Builtin.List.listTooLong n=false:=by unfold Builtin.List.listTooLong;exact eN (by omega)
end
def PZ:V->List V->Hp->VK->Prop:=λx vs H Q=>∃l xs y,x=.ref l/\vs=[y]/\H l=some (.lst xs)/\xs.length<sizeLine/\Q .mS (upd H l (.lst (xs++[y])))
def JU:Ws X "list.append" PZ:=by intro WH s σ H x vs v us Q I rx rv h;obtain⟨l,xs,y,rfl,rfl,hH,hz,q⟩:=h;cases rx;obtain⟨u,rfl,ru⟩:=rv.one;obtain⟨z,its,n,r,hl,e⟩:=I.oM hH;refine jt F.slot_list_append ⟨_,e,rfl⟩ F.entry_list_append (F.args_list_append_2 _ _) (PySem.list_append l its.toArray n u (by rw[dw];omega)) ⟨e,?_⟩;refine⟨.mS,_,I.lset (its':=its++[u]) hH e (by simp) (r.append (.cons ru .nil)) ?_,rfl,q⟩;rw[cY,dO];omega
def VR:R2:=λx y H Q=>∃l k xs,x=.ref l/\y=.int k/\H l=some (.lst xs)/\-(2 ^ 63)<=k/\k<2 ^ 63/\xs.length*k.toNat<=sizeLine/\
 ∀p,H p=none->Q (.ref p) (upd H p (.lst (List.replicate k.toNat xs).flatten))
def OX{α:Type}(xs:List α)(k:Nat):(List.replicate k xs).flatten.length=k*xs.length:=by
 induction k with
 | zero=>simp
 | succ k ih=>rw[eI,fP,cY,ih,mz,Nat.add_comm]
def RK:xp X (binaryOp .Mult) VR:=by
 intro WH s σ H x y v u Q I rx ry h;obtain⟨l,k,xs,rfl,rfl,hH,h1,h2,hz,q⟩:=h;cases rx;obtain⟨t,rfl⟩:=ry;obtain⟨z,its,n,r,hl,e⟩:=I.oM hH;have WN:its.toArray.size*k.toNat<=sizeLine:=by rw[dw,<-hl];exact hz
 have hcap:¬its.toArray.size*k.toNat>(2 ^ 63 - 1) / 8:=by
  have:(sizeLine:Nat)<=(2 ^ 63 - 1) / 8:=by decide
  omega
 have Xg:¬(!Builtin.List.listFitsIndex k)=true:=by rw[fitsIndex_both h1 h2];exact dB
 have hlong:¬Builtin.List.listTooLong (its.toArray.size*k.toNat)=true:=by rw[My WN];exact dB
 have Yq:List.foldl (λx1 x2=>x1++x2) #[] (List.replicate (if its.toArray.isEmpty=true then 0 else k.toNat) its.toArray)=(List.replicate k.toNat its).flatten.toArray:=by
  have f0:∀m:Nat,List.foldl (λx1 x2=>x1++x2) #[] (List.replicate m its.toArray)=(List.replicate m its).flatten.toArray:=λm=>by have:=Dq its m [];rw[dZ]at this;exact this
  rw[f0];cases its with
  | nil=>simp
  | cons a r'=>rw[cZ (by simp)]
 refine wpAny_binaryOp_repeat_ref (T:="list") (U:="int") (by decide) ⟨_,e,rfl⟩ (λs'=>l0 s' k t) noFill_list_mul F.fills_int_mul ma repeat_list F.slot_int_index.lookup
  (jt ma (l0 s k t) F.entry_int_rmul (F.args_int_rmul_2 _ _) (int___rmul___int_list k t l its.toArray n)
   ⟨e,rfl,⟨_,e,rfl⟩,jt F.slot_list_mul ⟨_,e,rfl⟩ F.entry_list_mul (F.args_list_mul_2 _ _) (AutoListH.list___mul___list_int_3 l its.toArray n k t Xg hcap hlong) ⟨e,?_⟩⟩)
 rw[Yq];exact⟨.ref _,_,I.oU (t':=s.toks) (r.rep k.toNat) (by rw[OX,Nat.mul_comm];exact hz),rfl,q _ I.fresh⟩
variable {prog:Pg}{w:Wo}{A:Ar}{E:QQX}
end L2
namespace Att
open PySem PySem.W PySem.Calls PyProof.Rows
def AJ{P:Params}{h:Heap}:∀(ns:List Int) (vs:List Vl),WellAll P h vs (ns.map WData.int)->IntsAre vs ns:=by
 intro ns;induction ns with
 | nil=>intro vs w;rw[iP]at w;cases w;exact .nil
 | cons n ns ih=>
  intro vs w;rw[dX]at w;cases w with
  | cons a b=>cases a;exact .cons _ _ (ih _ b)
def JV{l:OpenLaw}{n:Nat}(hn:l.most=some n){P:Params}{h:Heap}{args:List WData}{Zv:List Vl} (Yc:l.row.toRowW.claim.pre args=true) (hwl:WellAll P h Zv args):
  ∃a vs ns,Zv=[Value.ref a]/\args=[WData.list (ns.map WData.int)]/\h.get? a=some {cls:=.type "list",data:=.seq vs.toArray}/\IntsAre vs ns/\ns.length<=n:=by
 have hsh:WShape.hasAll [] args [.list .int]=true:=(pre_splitW Yc).1;have hc:l.pre.holds [] {args:=args}=true:=(pre_splitW Yc).2;obtain⟨d,r,rfl,h1,h2⟩:=hasAllW_cons hsh;obtain rfl:=hasAllW_nil h2;obtain⟨xs,rfl,h3⟩:=hasW_list h1;obtain⟨ns,rfl⟩:=items_int h3;have WN:ns.length<=n:=by
  unfold OpenLaw.pre at hc;have h4:(WTm.not (.lt (.lit (.int (n:Int))) (.len (.arg 0)))).holds [] {args:=[.list (ns.map .int)]}=true:=by have h4:=(holds_andW hc).1;rw[hn]at h4;exact h4
  have h5:=condW_of h4 (w_not (w_lt w_lit (w_len_list (w_arg rfl))));rw[cV]at h5;refine jE λq=>?_;have q':(n:Int)<((ns.length:Nat):Int):=by omega
  first
   | (rw[dW q']at h5;exact absurd h5 (by decide))
   | (simp at h5;omega)
 cases hwl with
 | cons w1 w2=>
  cases w2;cases w1 with
  | list ho Xh=>exact⟨_,_,ns,rfl,rfl,ho,AJ ns _ Xh,WN⟩
def J1(l:OpenLaw)(args:List WData):l.row.toRowW.claim.post args (.bool true) args=true:=
 postW_of (r:=l.row.toRowW) (X:=(true==true))
  (show WShape.has [] (.bool true) .bool=true by first|rfl|decide|simp[WShape.has,WShape.arms,WShape.armsAll])
  (show(WTm.eq .res (.lit (.bool true))).value [] {args:=args,res:=some (.bool true),after:=args}=some (.bool (true==true))from w_eq_bool (w_res rfl) w_lit) rfl
def attach_call{l:OpenLaw}{n:Nat}{q:Pg}{Xu:QQQ}{XP:(QQZ)->Heap->Prop}{YP:Wo->Heap->Prop}{d:DefRec} (hn:l.most=some n) (Zc:d.params.defaults=[]) (call:∀(w:Wo) (s₀ s₁:Sd) (mg mb:QQZ) (fa:Addr) (o:Obj) (pm cd Xl:Vl) (a:Addr) (vs:List Vl) (ns:List Int),Ground q Xu [] XP w s₀ mg mb s₁.heap->YP w s₁.heap->
   s₁.heap.get? fa=some o->o.data=.func (docDef d.name d.params d.body d.scope pm cd Xl)->s₁.heap.CodeRec cd d.name->mg d.name=some (.ref fa)->
   s₁.heap.get? a=some {cls:=.type "list",data:=.seq vs.toArray}->IntsAre vs ns->ns.length<=n->s₁.gens=#[]->
   codeAny (model l.prog w) callerA (.call (.ref fa) ⟨[.ref a],[]⟩) (λr s'=>r=.ok (.ret (.bool true))/\OldK s₁.heap s'.heap/\s'.os=s₁.os/\AllBare s'.gens) s₁):
  WalkO q Xu XP YP l.row.toRowW d [] (λf vs=>PySem.call f vs):=by
 intro w s₀ s₁ mg mb G Y fa o pm cd Xl dV kV ho hd XW hD hmg hg args Zv as Yc hlay hrd hwl hlo;obtain rfl:dV=.none:=Dflts.none hD Zc;obtain rfl:kV=.none:=Dflts.noKw hD;obtain⟨a,vs,ns,rfl,rfl,Zw,Yr,WN⟩:=JV hn Yc hwl;refine enter_call (gm (call w s₀ s₁ mg mb fa o pm cd Xl a vs ns G Y ho (fd_plain hd) XW hmg Zw Yr WN hg) λr s' hq=>?_);obtain⟨rfl,h2,h3,h4⟩:=hq;exact⟨.inl ⟨.bool true,.bool true,[],rfl,λ_=>rfl,.bool true,J1 l _,λ_=>⟨List.Pairwise.nil,λ_ hm=>(nomatch hm)⟩⟩,h2,h3,h4⟩
variable {prog:Pg}{w:Wo}{A:Ar}{E:QQX}{s:Sd}{K:Frag}
end Att
namespace L2
theorem Ds:∀{vs:List Vl} {ns:List Int},IntsAre vs ns->qE (ns.map V.int) vs
 | _,_,.nil=>.nil
 | _,_,.cons n t h=>.cons ⟨t,rfl⟩ (Ds h)
def LB(H:Hp):Prop:=∀b,H b=none\/∃o xs,H b=some (.frz o (.lst xs))
def MQ{P:Pg}{w:Wo}{K:qu}{mg mb:QQZ}{CX:KG}{k:Nat}{fa a:Addr}{fd:FuncData}{x:Str}{sp:Sp}{s₁:Sd}{vs:List Vl}{ns:List Int} (KX:K.In s₁.heap) (hns:s₁.heap.Ns mainGlobals mg) (hb:s₁.heap.Ns builtinsNs mb) (hbb:∀x:Str,x≠"__name__"->mb x=bootBuiltins x) (hlim:s₁.heap.NoLimit) (hg:s₁.gens=#[]) (ha:s₁.heap.get? a=some {cls:=.type "list",data:=.seq vs.toArray}) (hi:IntsAre vs ns) (hl:ns.length<=sizeLine) (hr:r6 k callerA)
  (F:∀base:Heap,K.In base->base.Ns mainGlobals mg->xw P w K mg base CX k fa fd [x] sp) (hbind:∀(s:Sd) (u:Vl),BindsTo s fd ⟨[u],[]⟩ [(x,u)])
  (Yb:∀H:Hp,LB H->yT K H a (ns.map V.int)->sp [.ref a] H (λv _=>v=.bl true) λ_ _ _=>False)
  (hCX:∀H e s',CX [] H s₁ (λ_ _ _=>False) e s'->False):
  codeAny (model P w) callerA (.call (.ref fa) ⟨[.ref a],[]⟩) (λr s'=>r=.ok (.ret (.bool true))/\OldK s₁.heap s'.heap/\s'.os=s₁.os/\AllBare s'.gens) s₁:=by
 have rv:=Ds hi;have lenV:=hi.length;have core:∀H:Hp,LB H->yT K H a (ns.map V.int)->yl P w H s₁.heap->(∀b,H b≠none->b=a)->(H a≠none->K.lookup a=none)->
   codeAny (model P w) callerA (.call (.ref fa) ⟨[.ref a],[]⟩) (λr s'=>r=.ok (.ret (.bool true))/\OldK s₁.heap s'.heap/\s'.os=s₁.os/\AllBare s'.gens) s₁:=by
  intro H hO hS mV hA hK;have X6:∀{b:Addr} {o:Obj},s₁.heap.get? b=some o->H b=none->(Ft s₁.heap H).get? b=some o:=λe n=>ML e n;have noA:∀{b:Addr} {o:Obj} {es:Array DictEntry} {ep:Nat},s₁.heap.get? b=some o->o.data=.dict es ep->H b=none:=λ{b o es ep} e d=>by
   cases q:H b with
   | none=>rfl
   | some u=>have e':b=a:=hA b (by rw[q];simp);subst e';rw[ha]at e;cases e;have d':Data.seq vs.toArray _=Data.dict es ep:=d;cases d'
  have nsK:∀{b:Addr} {m:QQZ},s₁.heap.Ns b m->(Ft s₁.heap H).Ns b m:=λ{b m} ⟨o,es,ep,e,d,r⟩=>⟨o,es,ep,X6 e (noA e d),d,r⟩;have hKb:K.In (Ft s₁.heap H):=λb o e=>X6 (KX b o e) (by
   cases q:H b with
   | none=>rfl
   | some u=>
    have e':b=a:=hA b (by rw[q];simp);subst e';rw[hK (by rw[q];simp)]at e;cases e)
  have hM:Mod K mg (Ft s₁.heap H):=⟨hKb,nsK hns,⟨mb,nsK hb,hbb⟩,let⟨mc,h1,h2⟩:=hlim;⟨mc,nsK h1,h2⟩⟩;have e0:HG P w K mg (Ft s₁.heap H) callerA [] s₁ H:=⟨rfl,hM,λb o e=>PJ e,mx (Ko _ _),trivial,λb hb=>absurd (show b∈([]:QXQ)from hb) (by simp),mV,.of_eq hg⟩;refine gm ((F _ hKb (nsK hns)).run callerA [] s₁ H ⟨[.ref a],[]⟩ [.ref a] [.ref a] _ _ hr e0 (hbind s₁ (.ref a)) (.cons rfl .nil) (Yb H hO hS)) λr s' h=>?_;cases r with
  | error e=>exact(hCX H e s' h).elim
  | ok fl=>
   cases fl with
   | next=>exact False.elim h
   | brk=>exact False.elim h
   | cont=>exact False.elim h
   | ret u=>
    obtain⟨v,H',os,bare,un,Zx,r',q⟩:=h;have q':v=.bl true:=q;subst q';obtain rfl:u=Value.bool true:=r';refine⟨rfl,OldK.of_keep λb o e=>?_,os,bare⟩;cases q:H b with
    | none=>exact un.keep b o e q (by intro z;exact absurd (show b∈([]:QXQ)from z) (by simp)) (by simp)
    | some u=>
     rcases hO b with z|⟨ob,xs,z⟩
     .rw[q]at z;cases z
     .have z2:=un.nG b ob _ z;obtain⟨e1,_⟩:=mV b _ z;obtain⟨e2,_⟩:=Zx b _ z2;rw[e]at e1;cases e1;exact e2
 cases hk:K.lookup a with
 | some o=>have e:=KX a o hk;rw[ha]at e;cases e;refine core (λ_=>none) (λ_=>.inl rfl) (.inr ⟨_,vs.toArray,_,hk,rfl,rfl,rfl,by rw[dw,lenV];exact hl,by simpa using rv⟩) (λb u z=>by have z':(none:Option HO)=some u:=z;cases z') (λb z=>absurd rfl z) λz=>absurd rfl z
 | none=>
  refine core (λb=>if b=a then some (.frz {cls:=.type "list",data:=.seq vs.toArray} (.lst (ns.map V.int)))else none) (λb=>?_) (.inl (.inr ⟨{cls:=.type "list",data:=.seq vs.toArray},df rfl⟩)) (λb u z=>?_) (λb z=>?_) λ_=>hk
  .by_cases hb:b=a
   .exact .inr ⟨_,_,df hb⟩
   .exact .inl (cZ hb)
  .by_cases hb:b=a
   .have z':=(df hb).symm.trans z;cases z';subst hb;exact⟨ha,by rw[cV];exact hl,vs,_,rv,ha⟩
   .have z':=(cZ hb).symm.trans z;cases z'
  .by_cases hb:b=a
   .exact hb
   .exact absurd (cZ hb) z
def Ph{l:W.OpenLaw}{n k:Nat}{q:Pg}{Xu:QQQ}{XP:(QQZ)->Heap->Prop}{YP:Wo->Heap->Prop}{d:DefRec}{K:Params->qu}{CX:Wo->KG}{sp:Wo->Sp}{x:Str} (hn:l.most=some n) (Zq:n<=sizeLine) (Zc:d.params.defaults=[]) (hr:r6 k callerA) (hY:∀(w:Wo) (h:Heap),YP w h->(K w.params).In h) (F:∀(w:Wo) (mg:QQZ) (fa:Addr) (h:Heap),(K w.params).In h->h.Ns mainGlobals mg->mg d.name=some (.ref fa)->
   ∃fd:FuncData,(∀(s:Sd) (u:Vl),BindsTo s fd ⟨[u],[]⟩ [(x,u)])/\
    ∀base:Heap,(K w.params).In base->base.Ns mainGlobals mg->xw l.prog w (K w.params) mg base (CX w) k fa fd [x] (sp w))
  (Yb:∀(w:Wo) (H:Hp) (a:Addr) (ns:List Int),ns.length<=n->LB H->yT (K w.params) H a (ns.map V.int)->sp w [.ref a] H (λv _=>v=.bl true) λ_ _ _=>False)
  (hCX:∀(w:Wo) (H:Hp) (s:Sd) (e:Vl) (s':Sd),CX w [] H s (λ_ _ _=>False) e s'->False):
  W.WalkO q Xu XP YP l.row.toRowW d [] (λf vs=>PySem.call f vs):=by
 refine Att.attach_call hn Zc λw s₀ s₁ mg mb fa o pm cd Xl a vs ns G Y ho hd XW hmg Zw Yr WN hg=>?_;have KX:=hY w _ Y;obtain⟨fd,hb,hF⟩:=F w mg fa _ KX G.T.g hmg;exact MQ KX G.T.g G.T.b G.T.builtins G.T.nolimit hg Zw Yr (d6 WN Zq) hr hF hb (λH hO hS=>Yb w H a ns WN hO hS) λH e s'=>hCX w H s₁ e s'
def Pb(s:Stmt)(j:Nat):Stmt:=match s with
 | .ClassDef _ _ _ body _ _ _ _ _ _ _=>body.getD j (.Pass ⟨0,0,0,0⟩)
 | _=>.Pass ⟨0,0,0,0⟩
def uA(s:Stmt):Arguments:=match s with
 | .FunctionDef _ a _ _ _ _ _ _ _ _=>a
 | _=>{posonlyargs:=[],args:=[],vararg:=none,kwonlyargs:=[],kw_defaults:=[],kwarg:=none,defaults:=[]}
def rQ(s:Stmt):List Stmt:=match s with
 | .FunctionDef _ _ b _ _ _ _ _ _ _=>b
 | _=>[]
def qd(s:Stmt):Scope:=match s with
 | .FunctionDef _ _ _ _ _ _ sc _ _ _=>sc
 | _=>{kind:=.function,names:=[],isGenerator:=false,isCoroutine:=false}
abbrev NF:KG:=λ_ _ _ _ _ _=>False
abbrev E0:XK:=λ_ _ _=>False
def FW{X:Cx}:B' NF X E0:=λ_ _ _ _ _ _ _ h=>h.elim
structure PB(K:qu)(x qual:Str)(st:Stmt)(f:Addr)(fd:FuncData):Prop where
 ex:∃(oc:Vl) (od:Option Addr) (kV Xl pm:Vl) (an:Option Addr) (WQ ct:Vl) (XB:Array (Option Vl)),
  fd=W.fnOf x qual (uA st) (rQ st) (qd st) .none kV Xl pm an WQ ct/\K.lookup f=some ⟨oc,od,.func fd,XB⟩/\W.codeIn K WQ qual=true
 kp:W.keepIn K (.ref f)=true
variable {P:Pg}{K:qu}{mg:QQZ}{base:Heap}
section
variable {w:Wo}
def PB.ok{x qual:Str}{st:Stmt}{f:Addr}{fd:FuncData}{N ps:QQQ}{k:Nat}{sp:Sp}(F:PB K x qual st f fd)(S:s8 N ps (qd st))(len:∀vs H Q E,sp vs H Q E->vs.length=ps.length) (W2:∀(WQ:Vl) (A:Ar) (outer:List Env) (s:Sd) (H:Hp) (vs:List V) (Q:VK) (E:XK),r6 k (A.deeper (envOfC qual (qd st) s.heap.objs.size f WQ))->sp vs H Q E->
   ∃t,B6 (vp NF P w K mg base N qual (qd st) f WQ A outer s H E).ow (rQ st) t/\t {nx:=λ_ H'=>Q .mS H',rt:=Q} (start N vs) H):xw P w K mg base NF (k+1) f fd ps sp:=by
 obtain⟨oc,od,kV,Xl,pm,an,WQ,ct,XB,rfl,lk,XW⟩:=F.ex;refine K1 lk XW S len λA outer s H vs Q E hr Yb=>?_;obtain⟨t,h,q⟩:=W2 WQ A outer s H vs Q E hr Yb;exact⟨t,h.ow,q⟩
def PB.binds{x qual:Str}{st:Stmt}{f:Addr}{fd:FuncData}{ps:QQQ}(F:PB K x qual st f fd) (h:∀(kV Xl pm:Vl) (an:Option Addr) (WQ ct:Vl) (us:List Vl),us.length=ps.length->bindArgs (W.fnOf x qual (uA st) (rQ st) (qd st) .none kV Xl pm an WQ ct) ⟨us,[]⟩=pure (ps.zip us)):uS K fd ps []:=by
 obtain⟨oc,od,kV,Xl,pm,an,WQ,ct,XB,rfl,lk,XW⟩:=F.ex;exact .all (h kV Xl pm an WQ ct)
def KW{x qual:Str}{st:Stmt}{f:Addr}{oc:Vl}{od an:Option Addr}{XB:Array (Option Vl)}{kV Xl pm WQ ct:Vl}(l:K.lookup f=some ⟨oc,od,.func (W.fnOf x qual (uA st) (rQ st) (qd st) .none kV Xl pm an WQ ct),XB⟩) (c:W.codeIn K WQ qual=true) (k:W.keepIn K (.ref f)=true):PB K x qual st f (W.fnOf x qual (uA st) (rQ st) (qd st) .none kV Xl pm an WQ ct):=⟨⟨oc,od,kV,Xl,pm,an,WQ,ct,XB,rfl,l,c⟩,k⟩
end
variable {X:Cx}
def pv(i:Nat){x:Str}{pos:Pos}(hN:X.N[i]?=some x:=by rfl)(hv:Ud X.env.scope x:=by first|exact Or.inl rfl|exact Or.inr (Or.inl rfl)|exact Or.inr (Or.inr rfl))(hd:yU x:=by decide)
  (XW:(x==("__classdict__":Str))=false:=by decide):PE X (.Name x pos) (Hi i):=Sn hN hv hd XW
def CL{A B:Prop}(h:B):if false=true then A else B:=by rw[cZ dB];exact h
def GN{A B:Prop}(h:A):if true=true then A else B:=by rw[df rfl];exact h
def qD{c A B:Prop}[Decidable c](h1:c->A)(h2:¬c->B):if c then A else B:=by
 by_cases h:c
 .rw[df h];exact h1 h
 .rw[cZ h];exact h2 h
def Qc(H H':Hp):Prop:=∀b o,H b=some o->H' b=some o
def Qc.trans{H H1 H2:Hp}(a:Qc H H1)(b:Qc H1 H2):Qc H H2:=λc o h=>b c o (a c o h)
section
variable {κ:Type}[DecidableEq κ]
def xb(kvs:List (κ×V))(k:κ):Option V:=(kvs.find? λkv=>decide (kv.1=k)).map (·.2)
def yL(kvs:List (κ×V))(k:κ)(v:V):List (κ×V):=
 if (kvs.any λkv=>decide (kv.1=k))=true then kvs.map (λkv=>if kv.1=k then(kv.1,v)else kv)else kvs++[(k,v)]
def Bo{p:κ×V}{r:List (κ×V)}{k:κ}(e:p.1=k):xb (p::r) k=some p.2:=by simp[xb,fM,e]
def BW{p:κ×V}{r:List (κ×V)}{k:κ}(e:¬p.1=k):xb (p::r) k=xb r k:=by simp[xb,fM,e]
theorem Gy(k:κ):∀kvs:List (κ×V),(kvs.any λkv=>decide (kv.1=k))=(xb kvs k).isSome
 | []=>rfl
 | p::r=>by
  rw[fW];by_cases e:p.1=k
  .simp only[Bo e,dW e,hU,Option.isSome_some]
  .rw[BW e,eN e,fE];exact Gy k r
def Av(kvs:List (κ×V))(k:κ)(v:V):(yL kvs k v).length<=kvs.length+1:=by
 unfold yL;split
 .rw[cV];omega
 .rw[cY,d9,dJ];omega
def yo.nC{o:Option V}{u:Option Vl}(r:yo o u):o.isSome=u.isSome:=by
 cases o with
 | none=>cases u with
  | none=>rfl
  | some _=>exact(show False from r).elim
 | some _=>cases u with
  | none=>exact(show False from r).elim
  | some _=>rfl
def KV.val{kvs:List (κ×V)}{vs:List (κ×Vl)}(r:KV kvs vs)(k:κ):yo (xb kvs k) (valueAt vs k):=by
 unfold KV at r;induction r with
 | nil=>exact True.intro
 | @cons p q ps qs h t ih=>
  obtain⟨h1,h2⟩:=h;by_cases e:p.1=k
  .have e':q.1=k:=h1.symm.trans e;have b:valueAt (q::qs) k=some q.2:=by simp[valueAt,fM,e']
   rw[Bo e,b];exact h2
  .have e':¬q.1=k:=λz=>e (h1.trans z);have b:valueAt (q::qs) k=valueAt qs k:=by simp[valueAt,fM,e']
   rw[BW e,b];exact ih
def KV.any{kvs:List (κ×V)}{vs:List (κ×Vl)}(r:KV kvs vs)(k:κ):(kvs.any λkv=>decide (kv.1=k))=vs.any λkv=>decide (kv.1=k):=by
 unfold KV at r;induction r with
 | nil=>rfl
 | cons h t ih=>rw[fW,fW,ih,h.1]
def KV.oE{kvs:List (κ×V)}{vs:List (κ×Vl)}(r:KV kvs vs)(k:κ){y:V}{u:Vl}(ry:qJ y u):
  KV (kvs.map λkv=>if kv.1=k then(kv.1,y)else kv) (vs.map λkv=>if kv.1=k then(kv.1,u)else kv):=by
 unfold KV at r ⊢;induction r with
 | nil=>exact .nil
 | @cons p q ps qs h t ih=>
  rw[dX,dX];refine .cons ?_ ih;obtain⟨h1,h2⟩:=h;by_cases e:p.1=k
  .rw[df e,df (h1.symm.trans e)];exact⟨h1,ry⟩
  .rw[cZ e,cZ (λz=>e (h1.trans z))];exact⟨h1,h2⟩
def KV.put{kvs:List (κ×V)}{vs:List (κ×Vl)}(r:KV kvs vs)(k:κ){y:V}{u:Vl}(ry:qJ y u):KV (yL kvs k y) (stored vs k u):=by
 unfold yL stored;rw[r.any k];by_cases e:(vs.any λkv=>decide (kv.1=k))=true
 .rw[df e,df e];exact r.oE k ry
 .rw[cZ e,cZ e];exact mH r ⟨rfl,ry⟩
def KV.length{kvs:List (κ×V)}{vs:List (κ×Vl)}(r:KV kvs vs):kvs.length=vs.length:=jj r
end
def F4{P:Pg}{w:Wo}{k:qW}{u:Vl}(r:qJ (kV k) u):(rq P w).is k u=true:=by
 cases k with
 | inl i=>obtain⟨t,e⟩:=(show ∃t,u=Value.int i t from r);subst e;exact GM P w i t
 | inr x=>obtain⟨t,e⟩:=(show ∃t,u=Value.str x t from r);subst e;exact Aw P w x t
theorem DD{P:Pg}{w:Wo}:∀{ks:List qW} {us:List Vl},qE (ks.map kV) us->ItemsAre (rq P w) ks us
 | [],_,r=>by rw[iP]at r;cases r;exact .nil
 | k::ks,_,r=>by
  rw[dX]at r;cases r with
  | cons h t=>exact .cons (F4 h) (DD t)
abbrev KT(H:Hp):List (List qW×V)->List (List qW×Addr×Vl)->Prop:=Paired λp q=>p.1=q.1/\H q.2.1=some (.tup (p.1.map kV))/\qJ p.2 q.2.2
def KT.val{H:Hp}{kvs:List (List qW×V)}{xs:List (List qW×Addr×Vl)}(r:KT H kvs xs)(k:List qW):yo (xb kvs k) ((atKey xs k).map (·.2)):=by
 induction r with
 | nil=>exact True.intro
 | @cons p q ps qs h t ih=>
  obtain⟨h1,_,h2⟩:=h;by_cases e:p.1=k
  .have e':q.1=k:=h1.symm.trans e;have b:atKey (q::qs) k=some q.2:=by simp[atKey,fM,e']
   rw[Bo e,b];exact h2
  .have e':¬q.1=k:=λz=>e (h1.trans z);have b:atKey (q::qs) k=atKey qs k:=by simp[atKey,fM,e']
   rw[BW e,b];exact ih
def KT.oE{H:Hp}{kvs:List (List qW×V)}{xs:List (List qW×Addr×Vl)}(r:KT H kvs xs)(k:List qW){y:V}{u:Vl}(ry:qJ y u):
  KT H (kvs.map λkv=>if kv.1=k then(kv.1,y)else kv) (xs.map (putAt k u)):=by
 induction r with
 | nil=>exact .nil
 | @cons p q ps qs h t ih=>
  rw[dX,dX];refine .cons ?_ ih;obtain⟨h1,h2,h3⟩:=h;unfold putAt;by_cases e:p.1=k
  .rw[df e,df (h1.symm.trans e)];exact⟨h1,h2,ry⟩
  .rw[cZ e,cZ (λz=>e (h1.trans z))];exact⟨h1,h2,h3⟩
def KT.put{H:Hp}{kvs:List (List qW×V)}{xs:List (List qW×Addr×Vl)}(r:KT H kvs xs)(k:List qW){b:Addr}{y:V}{u:Vl}(hb:H b=some (.tup (k.map kV)))(ry:qJ y u):
  KT H (yL kvs k y) (storedH xs k b u):=by
 have e:(kvs.any λkv=>decide (kv.1=k))=(atKey xs k).isSome:=by rw[Gy,(r.val k).nC,jp]
 unfold yL storedH;rw[e];by_cases q:(atKey xs k).isSome=true
 .rw[df q,df q];exact r.oE k ry
 .rw[cZ q,cZ q];exact mH r ⟨rfl,hb,ry⟩
def KT.keeps{H H':Hp}{kvs:List (List qW×V)}{xs:List (List qW×Addr×Vl)}(r:KT H kvs xs)(ht:∀b ys,H b=some (.tup ys)->H' b=some (.tup ys)):KT H' kvs xs:=
 Paired.oH r λ_ _ z=>⟨z.1,ht _ _ z.2.1,z.2.2⟩
variable {H:Hp}{h:Heap}{a:Addr}
section
variable {w:Wo}
def Qz{u:HO}(ok:yl P w H h)(e:Rd H a u):sd P w H h a u:=e.ok ok
def IM{kvs:List (qW×V)}(ok:yl P w H h)(e:Rd H a (.dK kvs)):kvs.length<=sizeLine/\(a==sysModules)=false/\∃vs,KV kvs vs/\h.DictOf (rq P w) a vs:=
 show sd P w H h a (.dK kvs)from Qz ok e
def S7{kvs:List (qW×V)}(ok:yl P w H h)(e:H a=some (.dK kvs)):kvs.length<=sizeLine/\(a==sysModules)=false/\∃vs,KV kvs vs/\h.DictOf (rq P w) a vs:=IM ok (.inl e)
def Fl{ks:List qW}(ok:yl P w H h)(e:H a=some (.tup (ks.map kV))):(tupleKind (rq P w)).is h ks a:=by obtain⟨_,its,r,o,h1,h2,⟨n,h3⟩,_⟩:=(show sd P w H h a (.tup (ks.map kV))from ok a _ e);exact⟨o,its.toArray,n,h1,h2,h3,by simpa using DD r⟩
def Jw{kvs:List (List qW×V)}(ok:yl P w H h)(e:Rd H a (.dT kvs)):kvs.length<=sizeLine/\(a==sysModules)=false/\
  ∃xs,KT H kvs xs/\h.DictOfH (tupleKind (rq P w)) a xs:=by
 obtain⟨z,y,xs,r,o,es,ep,h1,h2,h3,h4,h5⟩:=(show sd P w H h a (.dT kvs)from Qz ok e);refine⟨z,y,xs,r,o,es,ep,h1,h2,h3,h4,λx hx=>?_,h5⟩;have all:∀{l:List (List qW×V)} {m:List (List qW×Addr×Vl)},KT H l m->∀x∈m,(tupleKind (rq P w)).is h x.1 x.2.1:=by
  intro l m q;induction q with
  | nil=>intro x hx;exact nomatch hx
  | @cons p q ps qs hq t ih=>
   intro x hx;rcases dg.mp hx with e|hx
   .subst e;exact Fl ok (by rw[<-hq.1];exact hq.2.1)
   .exact ih x hx
 exact all r x hx
def Te{kvs:List (List qW×V)}(ok:yl P w H h)(e:H a=some (.dT kvs)):kvs.length<=sizeLine/\(a==sysModules)=false/\
  ∃xs,KT H kvs xs/\h.DictOfH (tupleKind (rq P w)) a xs:=Jw ok (.inl e)
end
def E6(H:Hp)(a:Addr)(y:V)(r:Option V):Prop:=
 (∃kvs k,Rd H a (.dK kvs)/\y=kV k/\r=xb kvs k)\/∃kvs k b,Rd H a (.dT kvs)/\y=.ref b/\H b=some (.tup (k.map kV))/\r=xb kvs k
def MW(H:Hp)(a:Addr)(y v:V)(H':Hp):Prop:=
 (∃kvs k,H a=some (.dK kvs)/\y=kV k/\kvs.length<sizeLine/\H'=upd H a (.dK (yL kvs k v)))\/
 ∃kvs k b,H a=some (.dT kvs)/\y=.ref b/\H b=some (.tup (k.map kV))/\kvs.length<sizeLine/\H'=upd H a (.dT (yL kvs k v))
def E6.k{H:Hp}{a:Addr}{kvs:List (qW×V)}{k:qW}(e:H a=some (.dK kvs)):E6 H a (kV k) (xb kvs k):=.inl ⟨kvs,k,.inl e,rfl,rfl⟩
def MW.k{H:Hp}{a:Addr}{kvs:List (qW×V)}{k:qW}{v:V}(e:H a=some (.dK kvs))(hl:kvs.length<sizeLine):MW H a (kV k) v (upd H a (.dK (yL kvs k v))):=.inl ⟨kvs,k,e,rfl,hl,rfl⟩
variable {WH:List (Addr × Obj)}{σ:St}{y v:V}{u r:Vl}
section
variable {s:Sd}{o:Option V}{A:Ar}{E:QQX}
def Inv.big(I:Inv X WH σ H s):sysModules<s.heap.objs.size:=by have h:mainGlobals<s.heap.objs.size:=(I.mod.glob.keeps I.bk).lt;exact ip (by decide) h
def KC{Q:QQX}(hu:A.units+1<cLine)(I:Inv X WH σ H s)(g:E6 H a y (some v))(ry:qJ y u)(h:∀w' s',Inv X WH σ H s'->qJ v w'->Q w' s'):
  wpAny (model X.prog X.w) A (getItem (.ref a) u) Q E s:=by
 rcases g with⟨kvs,k,e,ey,l⟩|⟨kvs,k,b,e,ey,eb,l⟩
 .subst ey;obtain⟨z,hd,vs,rel,dd⟩:=IM I.mV e;obtain⟨w',hw,YR⟩:=yo.some_of (v:=v) (o:=valueAt vs k) (by rw[l];exact rel.val k);exact wpAny_getItem_of (F4 ry) dd.mapOf hw (h w' _ (I.tok _) YR)
 .subst ey;cases(show u=Value.ref b from ry);obtain⟨z,hd,xs,rel,dd⟩:=Jw I.mV e;obtain⟨w',hw,YR⟩:=yo.some_of (v:=v) (o:=(atKey xs k).map (·.2)) (by rw[l];exact rel.val k);obtain⟨p,hp,WP⟩:=j6.mp hw;refine wpAny_getItem_heap (jf hu) (Fl I.mV eb) dd hp ?_;rw[WP];exact h w' _ (I.tok _) YR
def Vs{Q:QQX}(hu:A.units+1<cLine)(I:Inv X WH σ H s)(g:E6 H a y o)(ry:qJ y u)(h:∀s',Inv X WH σ H s'->Q (.bool o.isSome) s'):
  wpAny (model X.prog X.w) A (compareOp .In u (.ref a)) Q E s:=by
 rcases g with⟨kvs,k,e,ey,l⟩|⟨kvs,k,b,e,ey,eb,l⟩
 .subst ey;obtain⟨z,hd,vs,rel,dd⟩:=IM I.mV e;refine wpAny_in_of (F4 ry) hd dd.mapOf ?_;rw[<-(rel.val k).nC,<-l];exact h _ (I.tok _)
 .subst ey;cases(show u=Value.ref b from ry);obtain⟨z,hd,xs,rel,dd⟩:=Jw I.mV e;refine wpAny_in_heap (jf hu) (Fl I.mV eb) hd dd ?_;have q:=(rel.val k).nC;rw[jp]at q;rw[<-q,<-l];exact h _ (I.tok _)
def Iw{h':Heap}{t':Nat}{ob:HO}(I:Inv X WH σ H s)(mu:Ut (H a))(hs:Heap.SameBut a s.heap h')(he:∃q,h'.get? a=some q)(new:sd X.prog X.w (upd H a ob) h' a ob):
  Inv X WH σ (upd H a ob) {s with heap:=h',toks:=t'}:=
 I.write (x:=a) (e:=a) mu (.inl rfl) (λb q hb z=>(hs.2 b hb).trans z) he new
def LO{P:Pg}{w:Wo}{H':Hp}{h':Heap}{kvs:List (qW×V)}{vs:List (qW×Vl)}(z:kvs.length<=sizeLine)(hd:(a==sysModules)=false)(rel:KV kvs vs)(dd:h'.DictOf (rq P w) a vs):
  sd P w H' h' a (.dK kvs):=⟨z,hd,vs,rel,dd⟩
def Kj{H':Hp}{Q:Unit->Sd->Prop}(hu:A.units+1<cLine)(I:Inv X WH σ H s)(g:MW H a y v H')(ry:qJ y u)(rv:qJ v r)(h:∀s',Inv X WH σ H' s'->Q () s'):
  wpAny (model X.prog X.w) A (setItem (.ref a) u r) Q E s:=by
 rcases g with⟨kvs,k,e,ey,l,eH⟩|⟨kvs,k,b,e,ey,eb,l,eH⟩
 .subst ey eH;obtain⟨z,hd,vs,rel,dd⟩:=S7 I.mV e;have hz:vs.length<=sizeLine:=by rw[<-rel.length];exact z
  have hl:(yL kvs k v).length<=sizeLine:=by have:=Av kvs k v;omega
  refine wpAny_setItem_pairs (hsz:=hz) (F4 ry) dd λh' dd' hs=>h _ ?_;have he:∃q,h'.get? a=some q:=let⟨q,_,_,hq,_⟩:=dd';⟨q,hq⟩;exact Iw I (by rw[e];exact True.intro) hs he (LO hl hd (rel.put k rv) dd')
 .subst ey eH;cases(show u=Value.ref b from ry);obtain⟨z,hd,xs,rel,dd⟩:=Te I.mV e;have hz:xs.length<=sizeLine:=by rw[<-jj rel];exact z
  have hl:(yL kvs k v).length<=sizeLine:=by have:=Av kvs k v;omega
  refine wpAny_setItem_heap (hsz:=hz) (jf hu) (Fl I.mV eb) dd λh' dd' hs=>h _ ?_;obtain⟨q,es,ep,hq,h2,h3,h4,_,h5⟩:=dd';refine Iw I (by rw[e];exact True.intro) hs ⟨q,hq⟩ ⟨hl,hd,_,(rel.put k eb rv).keeps λc ys ec=>?_,q,es,ep,hq,h2,h3,h4,h5⟩;rw[pW (TZ ec e (λz=>nomatch z))];exact ec
end
variable {kvs:List (qW × V)}{k:qW}
section
variable {s:Sd}{A:Ar}{E:QQX}
end
def FV{X:Cx}{WH:QQY}{σ:St}{H:Hp}{s:Sd}{a:Addr}{y:V}{o:Option V}(I:Inv X WH σ H s)(g:E6 H a y o):s.TypeIs (.ref a) "dict":=by
 rcases g with⟨kvs,k,e,_,_⟩|⟨kvs,k,b,e,_,_,_⟩
 .obtain⟨_,_,vs,_,dd⟩:=IM I.mV e;exact dd.typeIs
 .obtain⟨_,_,xs,_,dd⟩:=Jw I.mV e;exact dd.typeIs
def Tx(td ty tv:TE):TS:=λD σ H=>tv σ H λv H1=>td σ H1 λx H2=>ty σ H2 λy H3=>∃a H4,x=.ref a/\MW H3 a y v H4/\D.nx σ H4
variable {i e value:Expr}{pos WT YQ:Pos}{td ty tv:TE}
section
variable {o:Expr}
def Oa(hu:X.A.units+1<cLine)(ho:PE X o td)(hi:PE X i ty)(hv:PE X value tv)(hs:swapsWith value (some (.Subscript o i WT)) pos.line X.env=pure false):
  PS X (.Assign [.Subscript o i WT] value pos) (Tx td ty tv):=by
 intro WH s σ H D I h;refine wpAny_Assign_Subscript (sH (hv WH s σ H _ I h) λr s1 zz=>x5 zz λv H1 I1 rv q1=>sH (ho WH s1 σ H1 _ I1 q1) λu s2 zz=>x5 zz λx H2 I2 rx q2=>sH (hi WH s2 σ H2 _ I2 q2) λiv s3 zz=>?_) hs;obtain⟨y,H3,I3,ry,a,H4,ex,g,q3⟩:=zz;subst ex;obtain rfl:u=Value.ref a:=rx;exact Kj hu I3 g ry rv λs4 I4=>⟨σ,H4,I4,q3⟩
end
structure M1(X:Cx)(o:Expr)(m:Str)(WK:Pos)(e:Expr)(WO:Pos):Prop where
 base:attributeBase o m X.env (eval o X.env)=eval o X.env
 pb:((backTo WO (starEach [e] X.env)).all (λx=>!x.1)&&(backToKw WO (keywordEach [] X.env)).all (λx=>x.1.isSome)
  &&decide (([e]:List Expr).length+([]:List Keyword).length+(if ([]:List Keyword).isEmpty then 0 else 1)<30))=true
 line:(WK.endLine==WO.line)=true
 trees:backTo WO (starEach [e] X.env)=[(false,eval e X.env)]
structure M2(X:Cx)(o:Expr)(m:Str)(WK:Pos)(e f:Expr)(WO:Pos):Prop where
 base:attributeBase o m X.env (eval o X.env)=eval o X.env
 pb:((backTo WO (starEach [e,f] X.env)).all (λx=>!x.1)&&(backToKw WO (keywordEach [] X.env)).all (λx=>x.1.isSome)
  &&decide (([e,f]:List Expr).length+([]:List Keyword).length+(if ([]:List Keyword).isEmpty then 0 else 1)<30))=true
 line:(WK.endLine==WO.line)=true
 trees:backTo WO (starEach [e,f] X.env)=[(false,eval e X.env),(false,eval f X.env)]
variable {d:V}
section
variable {s:Sd}{o:Option V}{A:Ar}{E:QQX}
end
variable {f:Expr}{WK WO:Pos}{tx:TE}
section
variable {o:Expr}
end
section
variable {s:Sd}{A:Ar}{E:QQX}
end
section
variable {s:Sd}{A:Ar}{E:QQX}
end
section
variable {κ:Type}[DecidableEq κ]
end
def AD(env:Env):List (Str×NameKind)->List (Str×Addr)->List (Str×Addr)
 | [],acc=>acc
 | (n,k)::r,acc=>AD env r (if k==.free then(n,(env.cells.lookup n).getD 0)::acc else acc)
theorem GX{env:Env}{f:(Str×NameKind)->List (Str×Addr)->Sem (ForInStep (List (Str×Addr)))} (hf:∀x cs,(x.2=.free->∃c,env.cells.lookup x.1=some c)->f x cs=pure (.yield (if x.2==.free then(x.1,(env.cells.lookup x.1).getD 0)::cs else cs))):
  ∀(l:List (Str×NameKind)) (acc:List (Str×Addr)),(∀x∈l,x.2=.free->∃c,env.cells.lookup x.1=some c)->forIn l acc f=pure (AD env l acc)
 | [],acc,_=>by rw[j7];rfl
 | (n,k)::r,acc,h=>by rw[jS,hf (n,k) acc (h _ dG),pure_bind];exact GX hf r _ λx hx=>h x (dE _ hx)
def yr{scope:Scope}{env:Env}(h:∀x∈scope.names,x.2=.free->∃c,env.cells.lookup x.1=some c):closureFor scope env=pure (AD env scope.names []):=by
 unfold closureFor;have e:=GX (env:=env) (f:=λ(x:Str×NameKind) (cs:List (Str×Addr))=>(do
   if x.2==.free then
    let a<-cellOf env x.1
    pure (ForInStep.yield ((x.1,a)::cs))
   else pure (ForInStep.yield cs))) (λx cs hx=>by
  cases hk:x.2==NameKind.free with
  | false=>simp
  | true=>
   obtain⟨c,hc⟩:=hx (by simpa using hk);simp[cellOf,hc]) scope.names [] h
 first
  | exact(eX (·>>=pure) e).trans (by simp)
  | (simp only[bind_pure];exact e)
  | (rw[<-e];rfl)
theorem LY{env:Env}{x:Str}{c:Addr}:∀{l:List (Str×NameKind)} {acc:List (Str×Addr)},(∀x∈l,x.2=.free->∃c,env.cells.lookup x.1=some c)->(∀x c,acc.lookup x=some c->env.cells.lookup x=some c)->(AD env l acc).lookup x=some c->env.cells.lookup x=some c
 | [],acc,_,ha,h=>ha x c h
 | (n,k)::r,acc,hl,ha,h=>by
  refine LY (l:=r) (acc:=if k==.free then(n,(env.cells.lookup n).getD 0)::acc else acc) (λy hy=>hl y (dE _ hy)) (λy d hd=>?_) h;cases hk:k==NameKind.free with
  | false=>rw[hk]at hd;exact ha y d (by simpa using hd)
  | true=>
   rw[hk,df rfl]at hd;obtain⟨e,he⟩:=hl (n,k) dG (by simpa using hk);rw[eG]at hd;cases hy:y==n with
   | true=>
    rw[hy]at hd;have yn:y=n:=by simpa using hy
    subst yn;have he:env.cells.lookup y=some e:=he;rw[he]at hd ⊢;exact hd
   | false=>rw[hy]at hd;exact ha y d hd
theorem Nh{env:Env}{x:Str}:∀{l:List (Str×NameKind)} {acc:List (Str×Addr)},(∃c,acc.lookup x=some c)->∃c,(AD env l acc).lookup x=some c
 | [],_,h=>h
 | (n,k)::r,acc,h=>by
  refine Nh (l:=r) ?_;cases hk:k==NameKind.free with
  | false=>simpa using h
  | true=>
   rw[df rfl,eG];cases hy:x==n with
   | true=>exact⟨_,rfl⟩
   | false=>exact h
theorem Ic{env:Env}{x:Str}:∀{l:List (Str×NameKind)} {acc:List (Str×Addr)},l.lookup x=some .free->∃c,(AD env l acc).lookup x=some c
 | [],_,h=>by simp at h
 | (n,k)::r,acc,h=>by
  rw[eG]at h;cases hy:x==n with
  | true=>rw[hy]at h;have hk:k=.free:=dh h;subst hk;refine Nh (l:=r) ⟨(env.cells.lookup n).getD 0,?_⟩;show List.lookup x (if NameKind.free==NameKind.free then(n,(env.cells.lookup n).getD 0)::acc else acc)=some ((env.cells.lookup n).getD 0);rw[df (by rfl),eG,hy]
  | false=>rw[hy]at h;exact Ic (l:=r) h
theorem ut{env:Env}{x:Str}:∀{l:List (Str×NameKind)},(l.map λ(n,k)=>if (k==NameKind.free&&env.scope.kind==.function&&env.kindOf n==some .cell)then(n,NameKind.cell)else(n,k)).lookup x
   = (l.lookup x).map λk=>if (k==NameKind.free&&env.scope.kind==.function&&env.kindOf x==some .cell)then NameKind.cell else k
 | []=>rfl
 | (n,k)::r=>by
  rw[dX];show List.lookup x ((if (k==NameKind.free&&env.scope.kind==.function&&env.kindOf n==some .cell)=true then(n,NameKind.cell)else(n,k))::_)=_;cases hy:x==n with
  | true=>
   have yn:x=n:=by simpa using hy
   subst yn;by_cases hc:(k==NameKind.free&&env.scope.kind==.function&&env.kindOf x==some .cell)=true
   .rw[df hc,eG,eG,hy];simp only[jT];rw[df hc]
   .rw[cZ hc,eG,eG,hy];simp only[jT];rw[cZ hc]
  | false=>
   by_cases hc:(k==NameKind.free&&env.scope.kind==.function&&env.kindOf n==some .cell)=true
   .rw[df hc,eG,eG,hy];exact ut
   .rw[cZ hc,eG,eG,hy];exact ut
def NW(ix:List (Option Nat))(σ:St):St:=ix.map λo=>o.bind λi=>(σ[i]?).join
abbrev Cx.comp(X:Cx)(scope:Scope)(N':QQQ)(C:Addr)(s0:Sd)(H0:Hp)(ex:QXQ):Cx:=
 {X with N:=N',s₀:=s0,H₀:=H0,env:=compEnvC scope (AD X.env scope.names []) C X.env,outer:=X.stack,ex:=ex,fn:=λ_=>false,pn:=[],xe:=λ_ _=>False}
structure sr(X:Cx)(scope:Scope)(ix:List (Option Nat))(N':QQQ):Prop where
 kind:scope.kind=.function
 oz:∀y∈scope.names,y.2≠.cell
 nam:∀y∈scope.names,y.2=.local->scope.names.lookup y.1=some .local
 fre:∀y∈scope.names,y.2=.free->X.env.scope.names.lookup y.1=some .cell\/X.env.scope.names.lookup y.1=some .free
 len:ix.length=N'.length
 at_:∀(j i:Nat) (x:Str),ix[j]?=some (some i)->N'[j]?=some x->X.N[i]?=some x/\scope.names.lookup x=some .free
variable {scope:Scope}{ix:List (Option Nat)}{N':QQQ}{fp:QXQ}
section
variable {s:Sd}
def sr.cells(S:sr X scope ix N')(ok:X.Ok):∀x∈scope.names,x.2=.free->∃c,X.env.cells.lookup x.1=some c:=λx hx hk=>ok.has x.1 (S.fre x hx hk)
def sr.sub(S:sr X scope ix N')(ok:X.Ok){x:Str}{c:Addr}(h:(AD X.env scope.names []).lookup x=some c):X.env.cells.lookup x=some c:=LY (S.cells ok) (λ_ _ z=>by simp at z) h
theorem vm{x:Str}{k:NameKind}:∀{l:List (Str×NameKind)},l.lookup x=some k->(x,k)∈l
 | [],h=>by simp at h
 | (n,j)::r,h=>by
  rw[eG]at h;cases hy:x==n with
  | true=>
   rw[hy]at h;have yn:x=n:=by simpa using hy
   subst yn;rw[dh h];exact dG
  | false=>rw[hy]at h;exact dE _ (vm h)
def Inv.comp{C:Addr}{h1:Heap}{tk:Nat}(I:Inv X WH σ H s)(S:sr X scope ix N')(hf:∀b∈fp,A9 X WH H b)(WV:∀b∈fp,b<s.heap.objs.size)(hC:s.heap.objs.size<=C) (k:∀b o,s.heap.get? b=some o->h1.get? b=some o) (hn:h1.Ns C (λ_=>none)):Inv (X.comp scope N' C s H fp) (X.pn++WH) (NW ix σ) H {s with heap:=h1,toks:=tk}:=by
 have sub:∀{x:Str} {c:Addr},(AD X.env scope.names []).lookup x=some c->X.env.cells.lookup x=some c:=λh=>S.sub I.ok h;refine⟨⟨I.ok.mod,S.kind,I.ok.glob,I.ok.blt,hC,λx y c e1 e2=>I.ok.inj x y c (sub e1) (sub e2),λx hx=>?_,λ_ _ z=>(dB z).elim,I.ok.hd,I.ok.frames,.inl rfl,λb hb=>⟨dM (dR (WV b hb) hC),λx c e=>(hf b hb).2.2.2.2.1 x c (sub e)⟩,I.bs,d6 I.ok.oa I.sz,λb o e hb=>?_,λb hb hfs=>?_,I.stack,I.nK⟩,rfl,I.bare,Un.kept k,⟨_,hn,λi x v e1 e2 e3=>?_⟩,λx c e=>?_,I.mV.fresh hC,λx c e=>I.m9 x c (sub e),λp hp=>?_,I.mV.kept k,?_⟩
 .have hx:(relabel scope X.env).names.lookup x=some .cell\/(relabel scope X.env).names.lookup x=some .free:=hx;have e:(relabel scope X.env).names.lookup x=(scope.names.lookup x).map λk=>if (k==NameKind.free&&X.env.scope.kind==.function&&X.env.kindOf x==some .cell)then NameKind.cell else k:=ut
  rw[e]at hx;cases q:scope.names.lookup x with
  | none=>rw[q]at hx;rcases hx with hx|hx<;>simp at hx
  | some kd=>
   cases kd with
   | free=>exact Ic q
   | cell=>exact absurd rfl (S.oz _ (vm q))
   | _=>rw[q]at hx;rcases hx with hx|hx<;>simp at hx
 .rcases(hf b hb).2.2.2.1 with z|z
  .exact I.ok.nS b o e z
  .exact absurd (dR (dA e) (d6 I.ok.oa z)) (fi _)
 .rcases dg.mp (I.nB b hfs)with z|z
  .exact(hf b hb).2.1 z
  .exact(hf b hb).2.2.1 z
 .have YS:(ix[i]?).map (λo=>o.bind λi=>(σ[i]?).join)=some (some v):=by have z:(NW ix σ)[i]?=some (some v):=e2;unfold NW at z;rw[dD]at z;exact z
  cases q:ix[i]? with
  | none=>rw[q]at YS;cases YS
  | some o=>
   rw[q]at YS;cases o with
   | none=>cases YS
   | some j=>
    have YT:(σ[j]?).join=some v:=dh YS;have e4:σ[j]?=some (some v):=by
     cases r:σ[j]? with
     | none=>rw[r]at YT;cases YT
     | some w=>rw[r]at YT;exact eX some YT
    obtain⟨n1,n2⟩:=S.at_ i j x q e1;obtain⟨m,hm,hl⟩:=I.loc;have hk:=S.fre _ (vm n2) rfl;have hv:Ud X.env.scope x:=by
     rcases hk with z|z
     .exact .inr (.inl z)
     .exact .inr (.inr z)
    obtain⟨u,ru,lk⟩:=hl j x v n1 e4 hv;refine⟨u,ru,?_⟩;have hk':X.env.kindOf x=some .cell\/X.env.kindOf x=some .free:=hk;rcases lk with⟨z,_⟩|⟨_,c,hc,hcell⟩
    .rcases hk' with y|y<;>(rw[y]at z;cases z)
    .obtain⟨c',hc'⟩:=Ic (env:=X.env) (acc:=[]) n2;have:=sub hc';rw[hc]at this;cases this;refine .inr ⟨?_,c,hc',hcell.keeps k⟩;show(relabel scope X.env).names.lookup x=some .cell\/(relabel scope X.env).names.lookup x=some .free;have e:(relabel scope X.env).names.lookup x=(scope.names.lookup x).map λk=>if (k==NameKind.free&&X.env.scope.kind==.function&&X.env.kindOf x==some .cell)then NameKind.cell else k:=ut
     rw[e,n2];simp only[jT];split
     .exact .inl rfl
     .exact .inr rfl
 .obtain⟨v,q⟩:=I.cell x c (sub e);exact⟨v,q.keeps k⟩
 .obtain⟨e,n,ne,nf,d⟩:=I.pin p (by simpa using hp);refine⟨k _ _ e,n,dM (dR (dA e) hC),λz=>?_,d⟩;rcases dg.mp (I.nB p.1 z)with y|y
  .exact ne y
  .exact nf y
 .show(NW ix σ).length=N'.length;unfold NW;rw[cV];exact S.len
end
section
variable {prog:Pg}{w:Wo}{A:Ar}{R:Result→Sd→Prop}{s:Sd}
def xR{Xy Xc iter:Expr}{Xi:List Expr}{scope:Scope}{pos:Pos}{it acc:Vl}{env:Env}(I:Nat->Sd->Prop){EX:QQX}(hEX:∀e s',EX e s'->notedBy (model prog w) A env (λx s'=>R (.error x) s') e s') (turn:∀n s,I n s->wpAny (model prog w) A (pyNext it) (λr s₁=>match r with
   | none=>R (.ok .next) s₁
   | some v=>wpAny (model prog w) A (letOwnedTupleGo Xc it v) (λ_ s₁=>wpAny (model prog w) A (assign Xc env v) (λ_ s₂=>
     wpAny (model prog w) A (forIn Xi true λc r=>if r=true then do let ok<-isTrue c env (eval c env);pure (ForInStep.yield ok)else pure (ForInStep.yield r)) (λok s₃=>
      if ok=true then wpAny (model prog w) A (eval Xy env) (λx s₄=>
       wpAny (model prog w) A (call (.builtin "list.append") [acc,x]) (λ_ s₅=>∃m,m<n/\I m s₅) (λ_ _=>False) s₄) EX s₃
      else ∃m,m<n/\I m s₃) (λ_ _=>False) s₂) (λ_ _=>False) s₁) (λ_ _=>False) s₁) (λ_ _=>False) s)
  (n:Nat) (h:I n s):
  codeAny (model prog w) A (.compLoop (.ListComp Xy [⟨Xc,iter,Xi,0⟩] scope pos) 0 it acc env) R s:=by
 refine codeAny_loop rfl I (λn s hI=>?_) n h;show wpAny _ A ((compTurn (.ListComp Xy [⟨Xc,iter,Xi,0⟩] scope pos) 0 it acc env).onRaise (λx=>do noteFrame x env;theTreesLotGoes x)) _ _ s;refine wpAny_noted ?_;rw[compTurn_list];refine cW (ie (cW (eA (turn n s hI) (λr s₁ h₁=>?_) λ_ _ h'=>h'.elim)));cases r with
 | none=>exact dq h₁
 | some v=>
  refine cW (eA h₁ (λ_ s₁' h₁'=>?_) λ_ _ h'=>h'.elim);refine cW (eA h₁' (λ_ s₂ h₂=>cW (eA h₂ (λok s₃ h₃=>?_) λ_ _ h'=>h'.elim)) λ_ _ h'=>h'.elim);cases ok with
  | false=>exact dq ⟨rfl,h₃⟩
  | true=>exact cW (cW (eA h₃ (λx s₄ h₄=>cW (eA h₄ (λ_ s₅ h₅=>dq (dq ⟨rfl,h₅⟩)) λ_ _ h'=>h'.elim)) hEX))
end
def PF(X:Cx)(Xi:List Expr)(t:TT):Prop:=
 ∀(WH:QQY) (s:Sd) (σ:St) (H:Hp) (Q:Bool->Hp->Prop),Inv X WH σ H s->t σ H Q->
  wpAny (model X.prog X.w) X.A (forIn Xi true λc r=>if r=true then do let ok<-isTrue c X.env (eval c X.env);pure (ForInStep.yield ok)else pure (ForInStep.yield r)) (TP X WH σ Q) X.xe s
def Uo:TT:=λ_ H Q=>Q true H
def Sj{X:Cx}:PF X [] Uo:=λ_ _ _ H _ I h=>wpAny_tests_nil ⟨H,I,h⟩
def Sq{X:Cx}{c:Expr}{t:TT}(h:PT X c t):PF X [c] t:=λWH s σ H Q I q=>wpAny_tests_one (h WH s σ H Q I q)
def QG(ix:List (Option Nat))(g:TG)(tt:TT)(te:TE)(σ:St)(J:It)(Q:VK)(H:Hp):Prop:=
 ∃W:Nat->Nat->List V->St->Hp->Prop,(∃m,W 0 m [] (NW ix σ) H)/\∀i m ys σ' H,W i m ys σ' H->
  (J.stop i H/\ys.length<=sizeLine/\∀D,H D=none->Q (.ref D) (upd H D (.lst ys)))\/
  (J.go i H/\ys.length<sizeLine/\∀x H',J.oO i H x H'->g x σ' H' λσ2 H2=>tt σ2 H2 λb H3=>if b=true then te σ2 H3 λy H4=>∃m',m'<m/\W (i+1) m' (ys++[y]) σ2 H4 else ∃m',m'<m/\W (i+1) m' ys σ2 H3)
def Nk(ix:List (Option Nat))(wi:TI)(g:TG)(tt:TT)(te:TE):TE:=λσ H Q=>wi σ H λJ H1=>QG ix g tt te σ J Q H1
variable {tg iter Xy:Expr}{Xi:List Expr}{g:TG}{tt:TT}{te:TE}{J:It}{it:Addr}{tn:Nat→Heap→Prop}{Q:VK}
section
variable {s:Sd}
def BG{XP:Addr->Sd->Hp->QXQ->QQY->St->Vl->Sd->Prop}{RR:Vl->Addr->Result->Sd->Prop}{E:QQX}(hc:X.calm=true)(S:sr X scope ix N')(I:Inv X WH σ H s)(T:Gw X.prog X.w X.K tg J fp it tn)(st:tn 0 s.heap)(hf:∀b∈fp,A9 X WH H b) (hg:∀C s0 H0 ex,PG (X.comp scope N' C s0 H0 ex) tg g) (ht:∀C s0 H0 ex,PF (X.comp scope N' C s0 H0 ex) Xi tt) (he:∀C s0 H0 ex WH s σ H Q,Inv (X.comp scope N' C s0 H0 ex) WH σ H s->te σ H Q->wpAny (model X.prog X.w) X.A (eval Xy (X.comp scope N' C s0 H0 ex).env) (EP (X.comp scope N' C s0 H0 ex) WH σ Q) (XP C s0 H0 ex WH σ) s) (hx:∀C D e s',s.heap.objs.size<=C->(∃XF σ',(∀b∈fp,∃o,(b,o)∈XF)/\XP C s H fp XF σ' e s')->notedBy (model X.prog X.w) X.A (compEnvC scope (AD X.env scope.names []) C X.env) (λx s'=>RR D C (.error x) s') e s') (hw:QG ix g tt te σ J Q H) (WM:∀D C s' H' m,s.heap.objs.size<=C->H' C=none->s'.heap.Ns C m->Inv X WH σ H' s'->Q (.ref D) H'->RR (.ref D) C (.ok .next) s'):
  wpAny (model X.prog X.w) X.A (newList []) (λacc s₃=>wpAny (model X.prog X.w) X.A (newFunctionEnv scope X.env.globals (AD X.env scope.names []) [] X.env.qual none .none (some X.env)) (λXo s₄=>
   codeAny (model X.prog X.w) X.A (.compStart (.ListComp Xy [⟨tg,iter,Xi,0⟩] scope pos) 0 (.ref it) acc {Xo with scope:=relabel scope X.env}) (RR acc Xo.locals) s₄) E s₃) E s:=by
 obtain⟨W,⟨m0,w0⟩,turn⟩:=hw;have WV:∀b∈fp,b<s.heap.objs.size:=λb hb=>by obtain⟨o,e,_⟩:=T.obj _ _ st b hb;exact dA e
 refine fX (wpAny_newFunctionEnv S.oz (by intro y hy;simp at hy) (λh₁ Ys YU=>?_) S.kind);dsimp only at Ys YU ⊢;generalize hH2:s.heap.push {cls:=.type "list",dict:=none,data:=.seq ([]:List Vl).toArray}=H2 at Ys YU ⊢;have hC:H2.objs.size=s.heap.objs.size+1:=by rw[<-hH2,fv]
 have hDC:s.heap.objs.size≠H2.objs.size:=by rw[hC];exact dM (fJ _)
 have YV:s.heap.objs.size<=H2.objs.size:=by rw[hC];exact gY _
 have Zd:∀b,b<s.heap.objs.size->b≠H2.objs.size/\b≠s.heap.objs.size:=λb hb=>⟨by rw[hC];exact dM (fY hb),dM hb⟩;have Xe:∀b o,s.heap.get? b=some o->h₁.get? b=some o:=λb o e=>YU.extBut b o (Zd b (dA e)).1 (de _ (hH2 ▸ de _ e));have hacc:h₁.get? s.heap.objs.size=some {cls:=.type "list",data:=.seq ([]:List Vl).toArray 0}:=YU.extBut _ _ hDC (de _ (hH2 ▸ dI _ rfl));have Ys:h₁.Ns H2.objs.size (λ_=>none):=Ys;have XX:∀{H':Hp} {pl:QQY},(∀b∈fp,H' b=none)->(∀p∈pl,p.1∉fp)->∀b∈fp,A9 (X.comp scope N' H2.objs.size s H fp) (X.pn++WH++pl) H' b:=λ{H' pl} hn WX b hb=>by
  refine⟨hn b hb,dM (dR (WV b hb) YV),λz=>?_,.inl hb,λx c e=>(hf b hb).2.2.2.2.1 x c (S.sub I.ok e),λp hp=>?_⟩
  .rcases dg.mp (I.nB b z)with y|y
   .exact(hf b hb).2.1 y
   .exact(hf b hb).2.2.1 y
  .rcases dY.mp (show p∈X.pn++WH++pl by simpa using hp)with z|z
   .exact(hf b hb).2.2.2.2.2 p z
   .intro q;exact WX p z (q ▸ hb)
 have loop:∀s₃:Sd,s₃={s with heap:=h₁,toks:=s.toks+([]:List (Str×Vl)).length}->
   codeAny (model X.prog X.w) X.A (.compLoop (.ListComp Xy [⟨tg,iter,Xi,0⟩] scope pos) 0 (.ref it) (.ref s.heap.objs.size) (compEnvC scope (AD X.env scope.names []) H2.objs.size X.env))
    (RR (.ref s.heap.objs.size) H2.objs.size) s₃:=by
  rintro s₃ rfl
  refine xR (hEX:=λe s' z=>hx _ _ e s' YV z) (λn s'=>∃(i:Nat) (ys:List V) (us:List Vl) (k:Nat) (σ':St) (H':Hp),Inv (X.comp scope N' H2.objs.size s H fp) (X.pn++WH) σ' H' s'/\tn i s'.heap/\(∀b∈fp,H' b=none)/\H' s.heap.objs.size=none/\
   s'.heap.get? s.heap.objs.size=some {cls:=.type "list",data:=.seq us.toArray k}/\qE ys us/\ys.length<=sizeLine/\W i n ys σ' H') ?_ m0
   ⟨0,[],[],0,NW ix σ,H,I.comp S hf WV YV Xe Ys,T.keep _ _ _ st λb _ o e=>Xe b o e,λb hb=>(hf b hb).1,I.mV.fresh (dv _),hacc,.nil,eL _,w0⟩
  rintro n s' ⟨i,ys,us,k,σ',H',I',Xw,fr',hD',Xn,rv',hz',w'⟩
  have cellD:∀x c,(X.comp scope N' H2.objs.size s H fp).env.cells.lookup x=some c->c≠s.heap.objs.size:=λx c e=>by obtain⟨v,q⟩:=I.cell x c (S.sub I.ok e);exact dM q.lt
  have pinD:∀p∈X.pn++WH,p.1≠s.heap.objs.size:=λp hp=>dM (dA (I.pin p hp).1);have dfs:s.heap.objs.size∉(X.comp scope N' H2.objs.size s H fp).fs:=λz=>by
   rcases dg.mp (I.nB _ z)with y|y
   .exact absurd I.lt (by rw[<-y];exact fi _)
   .exact I.oR (dv _) y
  have dfp:s.heap.objs.size∉fp:=λz=>absurd (WV _ z) (fi _);have IpD:Inv (X.comp scope N' H2.objs.size s H fp) (X.pn++WH++[(s.heap.objs.size,{cls:=.type "list",data:=.seq us.toArray k})]) σ' H' s':=I'.nP λp hp=>by
   rcases dY.mp hp with z|z
   .exact I'.pin p (eF _ z)
   .have e:p=(s.heap.objs.size,{cls:=.type "list",data:=.seq us.toArray k}):=by simpa using z
    subst e;exact⟨Xn,hD',hDC,dfs,λv z=>by cases z⟩
  have pfp:∀p∈[((s.heap.objs.size,{cls:=.type "list",data:=.seq us.toArray k}):Addr×Obj)],p.1∉fp:=λp hp=>by
   have e:p=(s.heap.objs.size,{cls:=.type "list",data:=.seq us.toArray k}):=by simpa using hp
   subst e;exact dfp
  rcases turn i n ys σ' H' w' with⟨stop,hz,q⟩|⟨go,hz,step⟩
  .refine eA (T.done (X.comp scope N' H2.objs.size s H fp) rfl rfl rfl hc i _ s' σ' H' (λ_ _=>False) IpD (XX fr' pfp) Xw stop) (λr s1 ⟨hr,I1⟩=>?_) λ_ _ z=>z;subst hr;show RR _ _ _ _;have Zy:s1.heap.get? s.heap.objs.size=some {cls:=.type "list",data:=.seq us.toArray k}:=(I1.pin (s.heap.objs.size,{cls:=.type "list",data:=.seq us.toArray k}) (by simp)).1;obtain⟨m,hnC,_⟩:=id I1.loc;refine WM _ _ s1 (upd H' s.heap.objs.size (.lst ys)) m YV (by rw[pW (dP hDC)];exact I1.free) hnC ?_ (q _ hD');have nD:∀b o,s.heap.get? b=some o->b≠s.heap.objs.size:=λb o e=>(Zd b (dA e)).2;have hD0:H s.heap.objs.size=none:=I.mV.fresh (dv _);refine I.oQ (s':=s1) (ch:=fp) I1.os ⟨λb o e n1 n2 n3=>?_,λb o e n1 n2 n3=>?_,λb o e n1 n2=>?_,λb o e n1=>?_,λb xs e=>?_,λb o u e=>?_,λb ps e=>?_⟩ (λb u e=>?_) I1.bare λb hb=>⟨(hf b hb).2.2.2.1,(hf b hb).2.1,(hf b hb).2.2.2.2.1,(hf b hb).2.2.2.2.2⟩
   .exact I1.base.keep b o e n1 n2 n3
   .exact I1.base.slot b o e n1 n2 n3
   .rw[pW (nD b o e)];exact I1.base.free b o e n1 n2
   .exact I1.base.there b o e n1
   .rw[pW (qO e hD0)];exact I1.base.nJ b xs e
   .rw[pW (qO e hD0)];exact I1.base.nG b o u e
   .obtain⟨more,z⟩:=I1.base.nL b ps e;exact⟨more,by rw[pW (qO e hD0)];exact z⟩
   .by_cases hb:b=s.heap.objs.size
    .subst hb;rw[qh]at e;cases e;exact⟨hz,us,k,rv',Zy⟩
    .rw[pW hb]at e;exact(I1.mV b u e).nz (λc v _ z=>z) (λc z=>by rw[pW (qO z hD')];exact z) (λc xs z=>by rw[pW (qO z hD')];exact z)
  .refine eA (T.item (X.comp scope N' H2.objs.size s H fp) rfl rfl rfl hc i _ s' σ' H' (λ_ _=>False) IpD (XX fr' pfp) Xw go) (λr s1 ⟨v,hr,h4⟩=>?_) λ_ _ z=>z;subst hr;show wpAny _ _ (letOwnedTupleGo tg (.ref it) v) _ _ s1;refine eA h4 (λ_ s2 zz=>?_) λ_ _ z=>z;obtain⟨x,H5,I5,r5,y5,Za,fr5⟩:=zz;have I5':=I5.pinned (XX fr5 pfp) (T.obj _ _ Za);refine eA (hg H2.objs.size s H fp _ s2 σ' H5 x v _ I5' r5 (step x H5 y5)) (λ_ s3 ⟨σ6,H6,I6,q6⟩=>?_) λ_ _ z=>z;refine eA (ht H2.objs.size s H fp _ s3 σ6 H6 _ I6 q6) (λok s4 ⟨H7,I7,q7⟩=>?_) λ_ _ z=>z;have Ze:∀{σ7:St} {H7:Hp} {s7:Sd},Inv (X.comp scope N' H2.objs.size s H fp) (X.pn++WH++[(s.heap.objs.size,{cls:=.type "list",data:=.seq us.toArray k})]++Cb fp s2.heap) σ7 H7 s7->
     tn (i+1) s7.heap/\(∀b∈fp,H7 b=none)/\H7 s.heap.objs.size=none/\s7.heap.get? s.heap.objs.size=some {cls:=.type "list",data:=.seq us.toArray k}:=λ{σ7 H7 s7} K7=>by
    have pd:=K7.pin (s.heap.objs.size,{cls:=.type "list",data:=.seq us.toArray k}) (by simp);refine⟨T.keep _ _ _ Za λb hb o e=>(K7.pin (b,o) (eF _ (eF _ (vj hb e)))).1,λb hb=>?_,pd.2.1,pd.1⟩;obtain⟨o,e,d⟩:=T.obj _ _ Za b hb;exact(K7.pin (b,o) (eF _ (eF _ (vj hb e)))).2.1
   cases ok with
   | false=>rw[cZ dB]at q7 ⊢;obtain⟨m',hm,w7⟩:=q7;obtain⟨t7,f7,d7,o7⟩:=Ze I7;exact⟨m',hm,i+1,ys,us,k,σ6,H7,I7.ni.ni,t7,f7,d7,o7,rv',hz',w7⟩
   | true=>
    rw[df rfl]at q7 ⊢;refine eA (he H2.objs.size s H fp _ s4 σ6 H7 _ I7 q7) (λyv s5 ⟨y,H8,I8,r8,m',hm,w8⟩=>?_) λ_ _ z=>⟨_,_,λb hb=>(by
     obtain⟨o,e,_⟩:=T.obj _ _ Za b hb;exact⟨o,eF _ (vj hb e)⟩),z⟩
    obtain⟨t8,f8,d8,o8⟩:=Ze I8;have hsz:us.toArray.size<=sizeLine:=by rw[dw,<-rv'.length];exact hz'
    refine append_at (hsz:=hsz) o8 λh' sb od=>?_;refine⟨m',hm,i+1,ys++[y],us++[yv],k+1,σ6,H8,?_,T.keep _ _ _ t8 λb hb o e=>(sb.2 b λq=>dfp (q ▸ hb)).trans e,f8,d8,?_,rv'.append (.cons r8 .nil),?_,w8⟩
    .exact I8.ni.ni.turned (it:=s.heap.objs.size) (t':=s5.toks) (λb o hb e=>(sb.2 b hb).trans e) d8 hDC (.inr (dv _)) cellD (by simpa using pinD)
    .rw[od,List.push_toArray]
    .rw[cY,dO];exact hz
 exact codeAny_compStart_list (loop _ rfl) (T.self _ 0 _ _ _ (T.keep _ _ _ st λb _ o e=>Xe b o e) (loop _ rfl))
def Inv.letGo{C:Addr}{s':Sd}{H':Hp}{σ':St}{h':Heap}(I:Inv X WH σ H s)(I':Inv X WH σ' H' s')(hC:s.heap.objs.size<=C)(hn:H' C=none)(hs:Heap.SameBut C s'.heap h'):Inv X WH σ' H' {s' with heap:=h'}:=
 I'.turned (t':=s'.toks) (it:=C) (λb o hb e=>(hs.2 b hb).trans e) hn (λz=>absurd (dR I.lt hC) (by rw[z];exact fi _)) (.inr (d6 I.sz hC))
  (λx c e z=>by
   obtain⟨v,r⟩:=I.cell x c e;exact absurd (dR r.lt hC) (by rw[z];exact fi _))
  (λp hp z=>absurd (dR (dA (I.pin p hp).1) hC) (by rw[z];exact fi _))
def NT{wi:TI}(hc:X.calm=true)(S:sr X scope ix N')(hi:PI X tg iter wi)(hg:∀C s0 H0 ex,PG (X.comp scope N' C s0 H0 ex) tg g)(ht:∀C s0 H0 ex,PF (X.comp scope N' C s0 H0 ex) Xi tt)(he:∀C s0 H0 ex,PE (X.comp scope N' C s0 H0 ex) Xy te) (hs:∀x,foldedSetIterable iter X.env x=pure x:=by intro _;rfl):PE X (.ListComp Xy [⟨tg,iter,Xi,0⟩] scope pos) (Nk ix wi g tt te):=by
 intro WH s σ H Q I h;rw[eval_ListComp];refine jF (use:=none) rfl hs (yr (S.cells I.ok)) S.kind S.nam (eA (hi WH s σ H _ I h) (λxv s₁ h₁=>eA h₁ (λitv s₂ h₂=>?_) λ_ _ e=>e) λ_ _ e=>e);obtain⟨it,fp,tn,J,H2,e,I2,T,W7,f2,hw⟩:=h₂;subst e;refine BG (RR:=λacc C=>compPost (model X.prog X.w) X.A X.xe none (EP X WH σ Q) acc C) hc S I2 T W7 f2 hg ht (XP:=λ_ _ _ _ _ _ _ _=>False) he (λ_ _ _ _ _ z=>by obtain⟨_,_,_,z⟩:=z;exact z.elim) hw λD C s' H' m hCs hCn hn I3 q=>?_;exact⟨m,hn,λh' Zf=>⟨.ref D,_,I2.letGo I3 hCs hCn Zf,rfl,q⟩⟩
def HF{wi:TI}{i:Nat}{x:Str}{px Yt:Pos}(hN:X.N.Nodup)(hix:X.N[i]?=some x)(hx:Lc X.env.scope x)(hc:X.calm=true)(S:sr X scope ix N')(hi:PI X tg iter wi)(hg:∀C s0 H0 ex,PG (X.comp scope N' C s0 H0 ex) tg g)(ht:∀C s0 H0 ex,PF (X.comp scope N' C s0 H0 ex) Xi tt) (he:∀C s0 H0 ex,PE (X.comp scope N' C s0 H0 ex) Xy te) (Yd:swapsWith (.ListComp Xy [⟨tg,iter,Xi,0⟩] scope pos) (some (.Name x px)) Yt.line X.env=pure true) (hf:Nq X x:=by first|exact .inl rfl|exact .inr rfl|assumption) (hs:∀x,foldedSetIterable iter X.env x=pure x:=by intro _;rfl):
  PS X (.Assign [.Name x px] (.ListComp Xy [⟨tg,iter,Xi,0⟩] scope pos) Yt) (RM (Nk ix wi g tt te) (Lq i)):=by
 intro WH s σ H D I h;rw[exec_Assign_Name_used _ _ _ _ Yd];refine cW (ie (cW ?_));show wpAny _ X.A (do let _<-comprehension (.ListComp Xy [⟨tg,iter,Xi,0⟩] scope pos) scope X.env _ (newList []) false (eval iter X.env) (some (assign (.Name x px) X.env))) _ _ s;refine cW (eA (jF (use:=some (assign (.Name x px) X.env)) (Q:=λ_ s'=>SP X WH D .next s') rfl hs (yr (S.cells I.ok)) S.kind S.nam
  (eA (hi WH s σ H _ I h) (λxv s₁ h₁=>eA h₁ (λitv s₂ h₂=>?_) λ_ _ e=>e) λ_ _ e=>e)) (λ_ s' hq=>dq (dq hq)) λ_ _ e=>e)
 obtain⟨it,fp,tn,J,H2,e,I2,T,W7,f2,hw⟩:=h₂;subst e;refine BG (RR:=λacc C=>compPost (model X.prog X.w) X.A X.xe (some (assign (.Name x px) X.env)) (λ_ s'=>SP X WH D .next s') acc C) hc S I2 T W7 f2 hg ht (XP:=λ_ _ _ _ _ _ _ _=>False) he (λ_ _ _ _ _ z=>by obtain⟨_,_,_,z⟩:=z;exact z.elim) hw λDa C s' H' m hCs hCn hn I3 q=>?_;show wpAny _ X.A (assign (.Name x px) X.env (.ref Da)) _ _ _;refine lh (D0 I3 hN hix hx (v:=.ref Da) rfl (λs4 I4 ⟨a,sb,ha⟩=>?_) hf);have ca:C≠a:=λz=>by
  rcases ha with y|y
  .exact absurd (dR I2.lt hCs) (by rw[z,y];exact fi _)
  .obtain⟨v,r⟩:=I2.cell x a y;exact absurd (dR r.lt hCs) (by rw[z];exact fi _)
 exact⟨m,hn.sameBut sb ca,λh' Zf=>⟨_,H',I2.letGo I4 hCs hCn Zf,q⟩⟩
end
def AM:typeLookup (.type "list") "__getattr__"=pure none:=by rw[typeLookup_type,j8];kernel_rfl
def FC:typeLookup (.type "list") "keys"=pure none:=by rw[typeLookup_type,j8];kernel_rfl
section
variable {prog:Pg}{w:Wo}{A:Ar}{E:QQX}
def Ls(a:Addr)(u:Tok)(its:Array Vl)(n:Nat)(sl:Array (Option Vl)):
  Meets (Builtin.«object.__getattribute__» ⟨[.ref a,.str "keys" u],[]⟩) λA R s=>s.heap.get? a=some ⟨.type "list",none,.seq its n,sl⟩/\A.handled=none/\∀h' tk e,Heap.NewAttrErr s.heap h' e (.ref a) "keys"->R (.error (.ref e)) {s with heap:=h',toks:=tk}:=
 Meets.of_wp λprog w A R s hs=>by
  obtain⟨hp,g,d,tk,os⟩:=s;obtain⟨h1,h2,h3⟩:=hs;have hT:(⟨hp,g,d,tk,os⟩:Sd).TypeIs (.ref a) "list":=⟨_,h1,rfl⟩;have f1:=FC;unfold Builtin.«object.__getattribute__»
  repeat (any_goals(first|assumption|wp_step))
  exact wpAny_raiseAttrError h2 h3 (attrMsg_fits (by decide+kernel) (by decide))
def Eh{s:Sd}{a:Addr}{its:Array Vl}{n:Nat}{sl:Array (Option Vl)}{Q:Option Vl->Sd->Prop}(ha:s.heap.get? a=some ⟨.type "list",none,.seq its n,sl⟩)(hA:A.handled=none) (h:∀h' tk,(∀b o,s.heap.get? b=some o->h'.get? b=some o)->Q none {s with heap:=h',toks:=tk}):wpAny (model prog w) A (getAttr? (.ref a) "keys") Q E s:=by
 obtain⟨hp,g,d,tk,os⟩:=s;have hT:(⟨hp,g,d,tk,os⟩:Sd).TypeIs (.ref a) "list":=⟨_,ha,rfl⟩;have f1:=sub_AttributeError;have f3:=iq.lookup;have f4:=iq.bind (.ref a);have f5:=AM;unfold getAttr? getAttrBy? getAttrBy
 repeat (any_goals(first|assumption|((with_reducible show wpAny _ _ (call (Value.builtin "list.__getattribute__") _ _) _ _ _);refine jt iq hT F.entry_list_ga (F.args_list_getattribute_2 _ _) (Ls a _ its n sl) ⟨ha,hA,λh' tk' e hx=>?_⟩)|wp_step))
 obtain⟨t',u',he⟩:=hx.there;show wpAny _ _ (getattributeRaised _ _ _ _ _ _ _) _ _ _;unfold getattributeRaised
 repeat (any_goals(first|assumption|wp_step))
 all_goals first|exact h _ _ hx.keeps|skip
end
def Ax:entryFor table "dict.update.loop"=some Builtin.«dict.update.loop»:=entryFor_of_tree (by kernel_rfl)
def vH:plainId "dict.update.loop"=true:=by decide+kernel
section
variable {prog:Pg}{w:Wo}{A:Ar}{E:QQX}{R:Result→Sd→Prop}{κ:Type}[DecidableEq κ]{knd:PySem.KeyKind prog w κ}
 {I:Addr} {fp wr:QXQ} {G:Array GenState->Array GenState->Prop} {P:Nat->Vl->Prop} {St:Nat->Sd->Prop}
def P7{s:Sd}{t:Addr}{x y:Vl}{Q:List Vl->Sd->Prop}(h:s.heap.IsTuple t #[x,y])(q:Q [x,y] s):wpAny (model prog w) A (Builtin.Dict.pairItems (.ref t)) Q E s:=by
 obtain⟨⟨oc,od,oda,XB⟩,h1,h2,n,h3⟩:=h;simp only at h2 h3;subst h2 h3;have hT:s.TypeIs (.ref t) "tuple":=⟨_,h1,rfl⟩;obtain⟨hp,g,d,tk,os⟩:=s;unfold Builtin.Dict.pairItems
 repeat (any_goals(first|assumption|wp_step))
def JG{all:List (κ×Vl)}(W:WalksS prog w A.in1 I fp wr G all.length P St)(d:Addr)(Zc:d∉fp)(kv:Nat->Vl)(tp:Nat->Addr)(hP:∀i v,P i v->v=.ref (tp i))(hw:∀j,j<all.length->tp j∉wr/\tp j≠d) (hk:∀j p,all[j]?=some p->knd.is p.1 (kv j)=true) (hz:all.length<=sizeLine):
  ∀(k i:Nat) (z:Int) (s:Sd),all.length - i=k->i<=all.length->St i s->(∀j p,all[j]?=some p->s.heap.IsTuple (tp j) #[kv j,p.2])->s.heap.DictOf knd d (merged [] (all.take i))->
   (∀s',Moved (d::wr) G s s'->s'.heap.DictOf knd d (merged [] all)->R (.ok (.ret .none)) s')->codeAny (model prog w) A (.builtin "dict.update.loop" ⟨[.ref d,.ref I,.int z 0,.none],[]⟩) R s:=by
 have hdw:d∉wr:=λh=>Zc (W.sub _ h);have Yu:∀b∈wr,b∈d::wr:=λb hb=>dE _ hb;intro k;induction k with
 | zero=>
  intro i z s hk0 hi W6 hT hD hR;have YG:i=all.length:=by omega
  subst YG;refine gU Ax ?_;rw[ia vH _];show wpAny _ A.in1 (pyNext (.ref I)>>=_) _ _ s;refine cW (W.done s _ _ W6 λs' hm=>?_);show wpAny _ A.in1 (Builtin.Dict.addKeywords d []>>=_) _ _ s';refine cW (dq (dq (hR s' (hm.mono Yu) ?_)));rw[fg]at hD;obtain⟨o,es,ep,ho,rest⟩:=hD;exact⟨o,es,ep,hm.heap d _ hdw ho,rest⟩
 | succ k ih=>
  intro i z s hk0 hi W6 hT hD hR;have WV:i<all.length:=by omega
  have X0:all[i]?=some all[i]:=cX WV;refine gU Ax ?_;rw[ia vH _];show wpAny _ A.in1 (pyNext (.ref I)>>=_) _ _ s;refine cW (W.item i s _ _ WV W6 λv s' hPv Zz hm=>?_);obtain rfl:=hP i v hPv;have hT':∀j p,all[j]?=some p->s'.heap.IsTuple (tp j) #[kv j,p.2]:=λj p e=>by obtain⟨o,h1,h2⟩:=hT j p e;exact⟨o,hm.heap _ _ (hw j (c9.mp e).1).1 h1,h2⟩
  have hD':s'.heap.DictOf knd d (merged [] (all.take i)):=by obtain⟨o,es,ep,ho,rest⟩:=hD;exact⟨o,es,ep,hm.heap d _ hdw ho,rest⟩
  show wpAny _ A.in1 (holding [Value.ref (tp i)] _>>=_) _ _ s';refine cW (eU (cW (wpAny_tryCatch (P7 (hT' i _ X0) ?_))));show wpAny _ A.in1 (holding [kv i,all[i].2] (dictSet d (kv i) all[i].2)) _ _ s';refine eU ?_;unfold dictSet;refine eU (cW (knd.pyHash (hk i _ X0) ?_));have hl:(merged [] (all.take i)).length<=sizeLine:=by have:=merged_length_le [] (all.take i);rw[fz]at this;simp only[dJ]at this;omega
  refine wpAny_dictSetHashed_pairs (hsz:=hl) (hk i _ X0) hD' λh' dd hs=>?_;rw[<-merged_take_succ [] all i _ X0]at dd;refine dq ⟨kB vH _,ih (i+1) _ _ (by omega) WV (W.frame _ s' _ _ Zz (gY _) λb hb o e=>?_) (λj p e=>?_) dd λZt ZA hD''=>?_⟩
  .rw[hs.2 b (λz:b=d=>Zc (z ▸ hb))];exact e
  .obtain⟨o,h1,h2⟩:=hT' j p e;refine⟨o,?_,h2⟩;show h'.get? (tp j)=some o;rw[hs.2 _ (hw j (c9.mp e).1).2];exact h1
  .refine hR Zt (mI W.gtrans ((hm.mono Yu).then_heap (gY _) λb o hb e=>?_) ZA) hD'';rw[hs.2 b (λz:b=d=>hb (by rw[z];exact dG))];exact e
end
section
variable {prog:Pg}{w:Wo}{A:Ar}{E:QQX}{κ:Type}[DecidableEq κ]{knd:PySem.KeyKind prog w κ}{s:Sd}
def AU{l:Addr}{its:Array Vl}{n:Nat}{sl:Array (Option Vl)}{all:List (κ×Vl)}{Q:QQX}(kv:Nat->Vl)(tp:Nat->Addr)(hh:A.handled=none)(hl:s.heap.get? l=some ⟨.type "list",none,.seq its n,sl⟩) (hits:∀(j:Nat) (v:Vl),its[j]?=some v->v=.ref (tp j)) (WN:its.size=all.length) (hT:∀j p,all[j]?=some p->s.heap.IsTuple (tp j) #[kv j,p.2]) (hk:∀j p,all[j]?=some p->knd.is p.1 (kv j)=true) (hz:all.length<=sizeLine) (h:∀h' tk,h'.DictOf knd s.heap.objs.size (merged [] all)->(∀b o,s.heap.get? b=some o->h'.get? b=some o)->Q (.ref s.heap.objs.size) {s with heap:=h',toks:=tk}):
  wpAny (model prog w) A (call (.type "dict") [.ref l]) Q E s:=by
 refine callType_codes (Q₁:=λobj s₁=>obj=Value.ref s.heap.objs.size/\s₁={s with heap:=s.heap.push {cls:=.type "dict",data:=.dict #[]}}) PySem.F.kt_called_dict (PySem.F.kt_typeCall_dict_1 _) F.entry_dict_init (kt_code_dict_new _ ⟨rfl,rfl⟩) ?_
 rintro obj s₁ ⟨rfl,rfl⟩
 have Yq:(s.heap.push {cls:=.type "dict",data:=.dict #[]}).DictOf knd s.heap.objs.size []:=Heap.DictOf.new s.heap;have hl':(s.heap.push {cls:=.type "dict",data:=.dict #[]}).get? l=some ⟨.type "list",none,.seq its n,sl⟩:=de _ hl;have hTl:Shared.TypeIs {s with heap:=s.heap.push {cls:=.type "dict",data:=.dict #[]}} (.ref l) "list":=⟨_,hl',rfl⟩;have lsz:l<s.heap.objs.size:=dA hl;refine⟨Yq.typeIs,F.args_dict_init_2 _ _,?_⟩;unfold Builtin.«dict.__init__»;refine cW ?_;unfold Builtin.Dict.selfAndRest;refine cW (wpAny_notOrdered_dict Yq.typeIs ?_);show wpAny _ _ (pure (s.heap.objs.size,[Value.ref l])) _ _ _;refine dq ?_;show wpAny _ _ (Builtin.Dict.updateFrom "dict.__init__" s.heap.objs.size (.ref l) [] .none) _ _ _;unfold Builtin.Dict.updateFrom;refine cW (jD hTl ?_);rw[df (by decide)];refine cW (Eh hl' (by simpa using hh) λh' tk keep=>?_);have hl2:h'.IsList l its:=⟨_,keep _ _ hl',rfl,n,rfl⟩;show wpAny _ _ (rule _>>=_) _ _ _;refine cW (kq (cW (gZ hl2 ?_)));have nd:h'.objs.size>s.heap.objs.size:=by have z:h'.get? s.heap.objs.size=some _:=keep _ _ (dI _ rfl);exact dA z
 have hDn:h'.DictOf knd s.heap.objs.size []:=by obtain⟨o,es,ep,ho,rest⟩:=Yq;exact⟨o,es,ep,keep _ _ ho,rest⟩
 have hTs:∀j p,all[j]?=some p->h'.IsTuple (tp j) #[kv j,p.2]:=λj p e=>by obtain⟨o,h1,h2⟩:=hT j p e;exact⟨o,keep _ _ (de _ h1),h2⟩
 have W8:l≠h'.objs.size:=dM (ip lsz nd);have W:=(kr (prog:=prog) (w:=w) (A:=A.in1.in1) (by simpa using hh) h'.objs.size l W8 its).toS;rw[WN]at W;refine dq ⟨kB vH _,JG (A:=A.in1) W s.heap.objs.size ?_ kv tp (λi v e=>hits i v e) (λj hj=>?_) hk hz all.length 0 0 _ (by omega) (eL _) ⟨⟨_,dI _ rfl,rfl,rfl⟩,hl2.push _⟩ (λj p e=>(hTs j p e).push _) ?_ λs' hm hD=>?_⟩
 .simp only[dg,dF,eY,fN];exact⟨dM nd,gM lsz⟩
 .have hj':all[j]?=some all[j]:=cX hj;obtain⟨o,h1,_⟩:=hT j _ hj';have tsz:=dA h1;simp only[dg,dF,eY];exact⟨dM (ip tsz nd),dM tsz⟩
 .obtain⟨o,es,ep,ho,rest⟩:=hDn;exact⟨o,es,ep,de _ ho,rest⟩
 .obtain⟨h2,g2,d2,t2,o2⟩:=s';have eg:g2=s.gens:=hm.gens;have ed:d2=s.drawn:=hm.drawn;have eo:o2=s.os:=hm.os;subst eg ed eo;refine⟨rfl,h h2 t2 hD λb o e=>?_⟩;have hb:=dA e;refine hm.heap b o ?_ (de _ (keep _ _ (de _ e)));simp only[dg,dF,eY,fN];exact⟨dM hb,dM (ip hb nd)⟩
end
def sV{κ:Type}[DecidableEq κ](l:List κ):List κ:=l.foldl (λacc k=>if k∈acc then acc else acc++[k]) []
def yc{κ:Type}[DecidableEq κ](l:List κ)(k:κ):sV (l++[k])=if k∈sV l then sV l else sV l++[k]:=by unfold sV;rw[lu];rfl
def Ja{κ:Type}[DecidableEq κ]:∀l:List κ,(sV l).length<=l.length:=by
 have go:∀(l acc:List κ),(l.foldl (λacc k=>if k∈acc then acc else acc++[k]) acc).length<=acc.length+l.length:=by
  intro l;induction l with
  | nil=>intro acc;simp
  | cons k r ih=>
   intro acc;rw[gb];refine d6 (ih _) ?_;split
   .simp only[d9];omega
   .simp only[d9,cY,dJ];omega
 intro l;have:=go l []
 simpa [sV]using this
def Nu{κ:Type}[DecidableEq κ](x:κ):∀l:List κ,x∈sV l↔x∈l:=by
 have go:∀(l acc:List κ),x∈l.foldl (λacc k=>if k∈acc then acc else acc++[k]) acc↔x∈acc\/x∈l:=by
  intro l;induction l with
  | nil=>intro acc;simp
  | cons k r ih=>
   intro acc;rw[gb,ih];by_cases h:k∈acc
   .rw[df h,dg];constructor
    .rintro (z|z)
     .exact .inl z
     .exact .inr (.inr z)
    .rintro (z|z|z)
     .exact .inl z
     .subst z;exact .inl h
     .exact .inr z
   .rw[cZ h,dY,dz,dg,or_assoc]
 intro l;have:=go l []
 simpa [sV]using this
def Ib{κ:Type}[DecidableEq κ]:∀l:List κ,l.Nodup->sV l=l:=by
 have go:∀(l acc:List κ),(acc++l).Nodup->l.foldl (λacc k=>if k∈acc then acc else acc++[k]) acc=acc++l:=by
  intro l;induction l with
  | nil=>intro acc _;simp
  | cons k r ih=>
   intro acc h;have hk:k∉acc:=λz=>by rw[fQ]at h;exact h.2.2 k z k dG rfl
   rw[gb,cZ hk,ih]
   .rw[ft];rfl
   .rw[ft];exact h
 intro l h;have:=go l [] (by simpa using h)
 simpa [sV]using this
section
variable {prog:Pg}{w:Wo}{A:Ar}{E:QQX}{R:Result→Sd→Prop}{κ:Type}[DecidableEq κ][BEq κ][LawfulBEq κ]{knd:PySem.KeyKind prog w κ}
 {I:Addr} {fp wr:QXQ} {G:Array GenState->Array GenState->Prop} {P:Nat->Vl->Prop} {St:Nat->Sd->Prop}
def F8{all:List κ}(W:WalksS prog w A.in1 I fp wr G all.length P St)(S:Addr)(hSf:S∉fp)(hval:∀i v k,P i v->all[i]?=some k->knd.is k v=true/\v.scannable=true)(hb:all.length+1<scanBound):
  ∀(n i:Nat) (s:Sd),all.length - i=n->i<=all.length->St i s->s.heap.SetOf knd S (λx=>decide (x∈sV (all.take i))) (sV (all.take i)).length->
   (∀s',Moved (S::wr) G s s'->s'.heap.SetOf knd S (λx=>decide (x∈sV all)) (sV all).length->R (.ok (.ret .none)) s')->codeAny (model prog w) A (.builtin "set.update.loop" ⟨[.ref S,.ref I],[]⟩) R s:=by
 have hSw:S∉wr:=λh=>hSf (W.sub _ h);have up:∀b∈wr,b∈S::wr:=λb hb=>dE _ hb;have kept:∀{s s':Sd} {T:κ->Bool} {m:Nat},Moved wr G s s'->s.heap.SetOf knd S T m->s'.heap.SetOf knd S T m:=λhm ⟨o,es,ep,t,ho,rest⟩=>⟨o,es,ep,t,hm.heap S _ hSw ho,rest⟩;intro n;induction n with
 | zero=>
  intro i s h0 hi W6 hS hR;obtain rfl:i=all.length:=by omega
  refine gU ir ?_;rw[ia gA _];rw[fg]at hS;exact cW (W.done s _ _ W6 λs' hm=>dq (hR s' (hm.mono up) (kept hm hS)))
 | succ n ih=>
  intro i s h0 hi W6 hS hR;have WV:i<all.length:=by omega
  have X0:all[i]?=some all[i]:=cX WV;refine gU ir ?_;rw[ia gA _];refine cW (W.item i s _ _ WV W6 λv s' hP Zz hm=>?_);obtain⟨k1,k2⟩:=hval i v _ hP X0;have Yv:=kept hm hS;show wpAny _ A.in1 (holding [v] (setAdd S v)>>=_) _ _ s';refine cW (eU ?_);unfold setAdd;refine eU (cW (knd.pyHash k1 ?_));have room:(sV (all.take i)).length+1<scanBound:=by have h1:=Ja (all.take i);rw[fz]at h1;omega
  refine wpAny_setAddHashed_of (knd:=knd) (s:={s' with toks:=s'.toks+1}) k1 k2 Yv room λh' hsb hS2=>?_;have et:all.take (i+1)=all.take i++[all[i]]:=by rw[gH,X0];rfl
  have hSi:h'.SetOf knd S (λx=>decide (x∈sV (all.take (i+1)))) (sV (all.take (i+1))).length:=by
   refine iu hS2 (λx=>?_) ?_
   .rw[et];by_cases WJ:all[i]∈sV (all.take i)
    .rw[yc,df WJ];by_cases hx:x=all[i]
     .subst hx;simp[WJ]
     .simp[hx]
    .rw[yc,cZ WJ];by_cases hx:x=all[i]
     .subst hx;simp
     .simp[hx]
   .rw[et,yc];by_cases WJ:all[i]∈sV (all.take i)
    .rw[df WJ];simp[WJ]
    .rw[cZ WJ];simp[WJ]
  refine dq ⟨kB gA _,ih (i+1) _ (by omega) WV (W.frame _ s' _ _ Zz (gY _) λb hb o e=>?_) hSi λZt ZA hS''=>?_⟩
  .rw[hsb.2 b (λz:b=S=>hSf (z ▸ hb))];exact e
  .refine hR Zt (mI W.gtrans ((hm.mono up).then_heap (gY _) λb o hb e=>?_) ZA) hS'';rw[hsb.2 b (λz:b=S=>hb (by rw[z];exact dG))];exact e
end
def FB:isSubtype (.type "list") (.type "set")=pure false:=by rw[jc];kernel_rfl
def A0:isSubtype (.type "list") (.type "frozenset")=pure false:=by rw[jc];kernel_rfl
section
variable {prog:Pg}{w:Wo}{A:Ar}{E:QQX}{κ:Type}[DecidableEq κ][BEq κ][LawfulBEq κ]{knd:PySem.KeyKind prog w κ}{s:Sd}
set_option maxHeartbeats 4000000 in
def C7{l:Addr}{WI:Array Vl}{all:List κ}{Q:QQX}(hh:A.handled=none)(hl:s.heap.IsList l WI)(hn:WI.size=all.length)(hi:∀(i:Nat) (v:Vl) (k:κ),WI[i]?=some v->all[i]?=some k->knd.is k v=true/\v.scannable=true)(hb:all.length+1<scanBound) (h:∀(h':Heap) (tk:Nat),h'.SetOf knd s.heap.objs.size (λx=>decide (x∈sV all)) (sV all).length->(∀b o,s.heap.get? b=some o->h'.get? b=some o)->Q (.ref s.heap.objs.size) {s with heap:=h',toks:=tk}):
  wpAny (model prog w) A (call (.type "set") [.ref l]) Q E s:=by
 obtain⟨c,tl,ZC⟩:=fA.mro;have hmade:=fA.made;have Yu:=fA.sub;refine iD (jU ?_);show wpAny _ _ (callAny (.type "set") _) _ _ _;refine dq ⟨iw _ (by decide+kernel),gU lw ?_⟩;rw[kU (j9 "set" [.ref l] []) rfl];have h1:=fA.notType;have h2:=fA.canCreate;have hct:=lQ (.ref l)
 repeat (any_goals(first|assumption|wp_step))
 have fresh:∀Xa:Bool,(s.heap.push {cls:=.type "set",dict:=none,data:=.set #[] 0 (.fresh 0 0 Xa)}).get? s.heap.objs.size=some {cls:=.type "set",dict:=none,data:=.set #[] 0 (.fresh 0 0 Xa)}:=λXa=>dI _ rfl;refine gm (code_set_new_1 (.ref l) (E:=E) (Q₁:=λobj s₁=>∃Xa:Bool,obj=Value.ref s.heap.objs.size/\s₁={s with heap:=s.heap.push {cls:=.type "set",dict:=none,data:=.set #[] 0 (.fresh 0 0 Xa)}}) λXa=>⟨Xa,rfl,rfl⟩) λr s₁ hr=>?_;cases r with
 | error e=>exact hr
 | ok fl=>
  cases fl with
  | ret obj=>
   obtain⟨Xa,rfl,rfl⟩:=hr;have hS:=fresh Xa;have hT:Shared.TypeIs {s with heap:=s.heap.push {cls:=.type "set",dict:=none,data:=.set #[] 0 (.fresh 0 0 Xa)}} (.ref s.heap.objs.size) "set":=⟨_,hS,rfl⟩;have hli:=fA.init.lookup;have hbi:=fA.init.bind (.ref s.heap.objs.size)
   repeat (any_goals(first|assumption|wp_step))
   refine gm (iQ (R:=wants (λr s₂=>r=.none/\∃h' tk,s₂={s with heap:=h',toks:=tk}/\h'.SetOf knd s.heap.objs.size (λx=>decide (x∈sV all)) (sV all).length/\(∀b o,s.heap.get? b=some o->h'.get? b=some o)) E) fA.init.plain lR (lT hT ?_)) λr₂ s₂ ZD=>?_
   .obtain⟨ol,hol,Zg,nl,hdl⟩:=hl;obtain⟨ocls,Yw,odata,X1⟩:=ol;simp only at Zg hdl;subst Zg;subst hdl;have ZE:(s.heap.push {cls:=.type "set",dict:=none,data:=.set #[] 0 (.fresh 0 0 Xa)}).get? l=some {cls:=.type "list",dict:=Yw,data:=.seq WI nl,slots:=X1}:=de _ hol;have hsls:=FB;have hslf:=A0;have hnd:(Value.type "list"==Value.type "dict")=false:=by decide
    have hl1:(s.heap.push {cls:=.type "set",dict:=none,data:=.set #[] 0 (.fresh 0 0 Xa)}).IsList l WI:=⟨_,ZE,rfl,nl,rfl⟩;unfold Builtin.«set.__init__» noKeywords Builtin.Frozenset.updateFrom;generalize hPI:pyIter=PI
    wp_walk
    subst hPI;refine gZ hl1 ?_;refine cW (wpAny_runValue ?_);have lS:l<s.heap.objs.size:=dA hol;have hh3:A.in1.in1.in1.handled=none:=by simp[hh]
    have lI:l≠(s.heap.push {cls:=.type "set",dict:=none,data:=.set #[] 0 (.fresh 0 0 Xa)}).objs.size:=by rw[fv];exact dM (fY lS)
    have W:=(kr (prog:=prog) (w:=w) hh3 _ l lI WI).toS;rw[hn]at W;refine F8 W s.heap.objs.size ?hf (λi v k e1 e2=>hi i v k e1 e2) hb all.length 0 _ (by omega) (eL _) ⟨⟨_,dI _ rfl,rfl,rfl⟩,(hl1.push _)⟩ ?h0 ?hR;case hf=>rw[fv];simp only[dg,dF,eY,fN];exact⟨dM (fJ _),gM lS⟩
    case h0=>exact iu ((jg (knd:=knd) Xa).setOf (de _ hS) (by unfold scanBound;omega)) (λ_=>rfl) rfl
    case hR=>intro s' hm Yv;obtain⟨h',g',d',tk',Zs⟩:=s';have eg:g'=s.gens:=hm.gens;have ed:d'=s.drawn:=hm.drawn;have eo:Zs=s.os:=hm.os;subst eg;subst ed;subst eo;refine dq ?_;show wpAny _ _ (ret Value.none) _ _ _;refine dq ⟨rfl,h',tk',rfl,Yv,λb o e=>?_⟩;have hb:=dA e;refine hm.heap b o ?_ (de _ (de _ e));rw[fv];simp only[dg,dF,eY,fN];exact⟨dM hb,dM (fY hb)⟩
   .cases r₂ with
    | error e=>exact ZD
    | ok fl₂=>
     cases fl₂ with
     | ret r=>
      obtain⟨rfl,h',tk,rfl,Yv,hk'⟩:=ZD
      repeat (any_goals(first|assumption|wp_step))
      exact h _ _ Yv hk'
     | _=>exact ZD.elim
  | _=>exact hr.elim
end
def CJ:isSubtype (.type "tuple") (.type "set")=pure false:=by rw[jc];kernel_rfl
def Al:isSubtype (.type "tuple") (.type "frozenset")=pure false:=by rw[jc];kernel_rfl
section
variable {prog:Pg}{w:Wo}{A:Ar}{E:QQX}{κ:Type}[DecidableEq κ][BEq κ][LawfulBEq κ]{knd:PySem.KeyKind prog w κ}{s:Sd}
set_option maxHeartbeats 4000000 in
def CD{l:Addr}{WI:Array Vl}{all:List κ}{Q:QQX}(hh:A.handled=none)(hl:s.heap.IsTuple l WI)(hn:WI.size=all.length)(hi:∀(i:Nat) (v:Vl) (k:κ),WI[i]?=some v->all[i]?=some k->knd.is k v=true/\v.scannable=true)(hb:all.length+1<scanBound) (h:∀(h':Heap) (tk:Nat),h'.SetOf knd s.heap.objs.size (λx=>decide (x∈sV all)) (sV all).length->(∀b o,s.heap.get? b=some o->h'.get? b=some o)->Q (.ref s.heap.objs.size) {s with heap:=h',toks:=tk}):
  wpAny (model prog w) A (call (.type "set") [.ref l]) Q E s:=by
 obtain⟨c,tl,ZC⟩:=fA.mro;have hmade:=fA.made;have Yu:=fA.sub;refine iD (jU ?_);show wpAny _ _ (callAny (.type "set") _) _ _ _;refine dq ⟨iw _ (by decide+kernel),gU lw ?_⟩;rw[kU (j9 "set" [.ref l] []) rfl];have h1:=fA.notType;have h2:=fA.canCreate;have hct:=lQ (.ref l)
 repeat (any_goals(first|assumption|wp_step))
 have fresh:∀Xa:Bool,(s.heap.push {cls:=.type "set",dict:=none,data:=.set #[] 0 (.fresh 0 0 Xa)}).get? s.heap.objs.size=some {cls:=.type "set",dict:=none,data:=.set #[] 0 (.fresh 0 0 Xa)}:=λXa=>dI _ rfl;refine gm (code_set_new_1 (.ref l) (E:=E) (Q₁:=λobj s₁=>∃Xa:Bool,obj=Value.ref s.heap.objs.size/\s₁={s with heap:=s.heap.push {cls:=.type "set",dict:=none,data:=.set #[] 0 (.fresh 0 0 Xa)}}) λXa=>⟨Xa,rfl,rfl⟩) λr s₁ hr=>?_;cases r with
 | error e=>exact hr
 | ok fl=>
  cases fl with
  | ret obj=>
   obtain⟨Xa,rfl,rfl⟩:=hr;have hS:=fresh Xa;have hT:Shared.TypeIs {s with heap:=s.heap.push {cls:=.type "set",dict:=none,data:=.set #[] 0 (.fresh 0 0 Xa)}} (.ref s.heap.objs.size) "set":=⟨_,hS,rfl⟩;have hli:=fA.init.lookup;have hbi:=fA.init.bind (.ref s.heap.objs.size)
   repeat (any_goals(first|assumption|wp_step))
   refine gm (iQ (R:=wants (λr s₂=>r=.none/\∃h' tk,s₂={s with heap:=h',toks:=tk}/\h'.SetOf knd s.heap.objs.size (λx=>decide (x∈sV all)) (sV all).length/\(∀b o,s.heap.get? b=some o->h'.get? b=some o)) E) fA.init.plain lR (lT hT ?_)) λr₂ s₂ ZD=>?_
   .obtain⟨ol,hol,Zg,nl,hdl⟩:=hl;obtain⟨ocls,Yw,odata,X1⟩:=ol;simp only at Zg hdl;subst Zg;subst hdl;have ZE:(s.heap.push {cls:=.type "set",dict:=none,data:=.set #[] 0 (.fresh 0 0 Xa)}).get? l=some {cls:=.type "tuple",dict:=Yw,data:=.seq WI nl,slots:=X1}:=de _ hol;have hsls:=CJ;have hslf:=Al;have hnd:(Value.type "tuple"==Value.type "dict")=false:=by decide
    have hl1:(s.heap.push {cls:=.type "set",dict:=none,data:=.set #[] 0 (.fresh 0 0 Xa)}).IsTuple l WI:=⟨_,ZE,rfl,nl,rfl⟩;unfold Builtin.«set.__init__» noKeywords Builtin.Frozenset.updateFrom;generalize hPI:pyIter=PI
    wp_walk
    subst hPI;refine iy hl1 ?_;refine cW (wpAny_runValue ?_);have lS:l<s.heap.objs.size:=dA hol;have hh3:A.in1.in1.in1.handled=none:=by simp[hh]
    have lI:l≠(s.heap.push {cls:=.type "set",dict:=none,data:=.set #[] 0 (.fresh 0 0 Xa)}).objs.size:=by rw[fv];exact dM (fY lS)
    have W:=(Walks.tuple (prog:=prog) (w:=w) hh3 _ l lI WI).toS;rw[hn]at W;refine F8 W s.heap.objs.size ?hf (λi v k e1 e2=>hi i v k e1 e2) hb all.length 0 _ (by omega) (eL _) ⟨⟨_,dI _ rfl,rfl,rfl⟩,(hl1.push _)⟩ ?h0 ?hR;case hf=>rw[fv];simp only[dg,dF,eY,fN];exact⟨dM (fJ _),gM lS⟩
    case h0=>exact iu ((jg (knd:=knd) Xa).setOf (de _ hS) (by unfold scanBound;omega)) (λ_=>rfl) rfl
    case hR=>intro s' hm Yv;obtain⟨h',g',d',tk',Zs⟩:=s';have eg:g'=s.gens:=hm.gens;have ed:d'=s.drawn:=hm.drawn;have eo:Zs=s.os:=hm.os;subst eg;subst ed;subst eo;refine dq ?_;show wpAny _ _ (ret Value.none) _ _ _;refine dq ⟨rfl,h',tk',rfl,Yv,λb o e=>?_⟩;have hb:=dA e;refine hm.heap b o ?_ (de _ (de _ e));rw[fv];simp only[dg,dF,eY,fN];exact⟨dM hb,dM (fY hb)⟩
   .cases r₂ with
    | error e=>exact ZD
    | ok fl₂=>
     cases fl₂ with
     | ret r=>
      obtain⟨rfl,h',tk,rfl,Yv,hk'⟩:=ZD
      repeat (any_goals(first|assumption|wp_step))
      exact h _ _ Yv hk'
     | _=>exact ZD.elim
  | _=>exact hr.elim
end
end L2
namespace HT
open PySem PyProof.Rows
variable {prog:Pg}{w:Wo}{A:Ar}{E:QQX}{s:Sd}
def yX{t sl:Addr}{WI:Array Vl}{vl vu:Vl}{lo hi:Option Int}{Q:QQX}(ht:IsTup s.heap t WI)(hs:s.heap.IsSliceOf sl vl vu .none)(pl:IsPart vl lo)(pu:IsPart vu hi) (hw:tw WI.size 0 lo=0/\tw WI.size WI.size hi=WI.size) (h:Q (.ref t) s):wpAny (model prog w) A (getItem (.ref t) (.ref sl)) Q E s:=by
 obtain⟨os,Zu,Zb,XY⟩:=id hs;have hTs:s.TypeIs (.ref sl) "slice":=⟨os,Zu,Zb⟩;unfold getItem
 try with_reducible refine eU ?_
 first|refine cW (dq ?_)|skip
 refine cW (jo ht.typeIs (by decide) ?_);refine cW (fO (name:=Str.ofString "__getitem__") ht.typeIs fD (fV fD ht.typeIs kE ?_ (kS _ _)));show wpAny _ _ (Builtin.Tuple.tupleItemsOf (.ref t)>>=_) _ _ s;refine cW (tupleItemsOf_ ht ?_);refine cW (jD hTs ?_);rw[df (by decide)];refine cW (ww hs pl pu ?_);have yes:(((tw WI.size 0 lo:Nat):Int)==0&&(1:Int)==1&&(tw WI.size WI.size hi - tw WI.size 0 lo)==WI.size)=true:=by rw[hw.1,hw.2];simp
 show wpAny _ _ (if (((tw WI.size 0 lo:Nat):Int)==0&&(1:Int)==1&&(tw WI.size WI.size hi - tw WI.size 0 lo)==WI.size)=true then _ else _) _ _ s;rw[df yes];have hT:=ht.typeIs;obtain⟨hp,g,d,tk,o⟩:=s
 repeat (any_goals(first|assumption|wp_step))
 exact⟨_,rfl,dq h⟩
end HT
namespace L2
variable {X:Cx}{p p2 pos Yx:Pos}{e:Expr}{te:TE}
section
def U0(K:qu):V->Option Int->Option Int->Hp->VK->Prop:=λx lo hi H Q=>∃a xs,x=.ref a/\ve K H a xs/\(HT.tw xs.length 0 lo=0/\HT.tw xs.length xs.length hi=xs.length)/\Q (.ref a) H
def Sl:TX X (U0 X.K):=by
 intro WH s σ H x v vl vu lo hi sl Q I rx hs pl pu h;obtain⟨a,xs,rfl,hx,hw,q⟩:=h;cases rx;obtain⟨its,r,ht,hz⟩:=I.tuple hx;have WN:its.toArray.size=xs.length:=by rw[dw];exact r.length.symm
 exact⟨"tuple",_,fD.lookup,ht.typeIs,HT.yX ht hs pl pu (by rw[WN];exact hw) ⟨.ref a,H,I,rfl,q⟩⟩
local instance (priority:=5000) keyBEq:BEq qW:=instBEqOfDecidableEq
local instance (priority:=5000) keyLaw:LawfulBEq qW:=inferInstanceAs (LawfulBEq (Sum Int Str))
def NQ(K:qu)(te:TE):TE:=λσ H Q=>te σ H λx H1=>∃a,∃ss:QQQ,x=.ref a/\(yT K H1 a (ss.map V.str)\/ve K H1 a (ss.map V.str))/\ss.length+1<scanBound/\Q (.int (sV ss).length) H1
def GG{P:Pg}{w:Wo}{ss:QQQ}{us:List Vl}(r:qE (ss.map V.str) us):us.length=ss.length/\∀(i:Nat) (v:Vl) (k:qW),us[i]?=some v->(ss.map λx=>(Sum.inr x:qW))[i]?=some k->(rq P w).is k v=true/\v.scannable=true:=by
 refine⟨by rw[<-r.length,cV],λi v k e1 e2=>?_⟩;rw[dD]at e2;cases q:ss[i]? with
 | none=>rw[q]at e2;cases e2
 | some x=>rw[q]at e2;cases e2;obtain⟨u,e3,t,rfl⟩:=r.get (i:=i) (x:=V.str x) (by rw[dD,q];rfl);rw[e3]at e1;cases e1;exact⟨Aw P w x t,rfl⟩
def K5{ss:QQQ}:(sV (ss.map λx=>(Sum.inr x:qW))).length=(sV ss).length:=by
 have go:∀(l acc:QQQ),(l.map λx=>(Sum.inr x:qW)).foldl (λacc k=>if k∈acc then acc else acc++[k]) (acc.map Sum.inr)=(l.foldl (λacc k=>if k∈acc then acc else acc++[k]) acc).map Sum.inr:=by
  intro l;induction l with
  | nil=>intro acc;rfl
  | cons k r ih=>
   intro acc;rw[dX,gb,gb];have hm:(Sum.inr k:qW)∈acc.map Sum.inr↔k∈acc:=by
    rw[dC];constructor
    .rintro ⟨y,h1,h2⟩;cases h2;exact h1
    .exact λh=>⟨k,h,rfl⟩
   by_cases h:k∈acc
   .rw[df h,df (hm.mpr h)];exact ih acc
   .rw[cZ h,cZ λz=>h (hm.mp z)];have:=ih (acc++[k]);rw[dS]at this;exact this
 have:=go ss [];unfold sV;rw[iP]at this;rw[this,cV]
def JO(hc:X.calm=true)(he:PE X e te)(hg1:Gl X "len")(WJ:X.mg "len"=none)(hg2:Gl X "set")(WZ:X.mg "set"=none)(b1:bootBuiltins "len"=some (.builtin "len"))(b2:bootBuiltins "set"=some (.type "set")) (hs:starEach [e] X.env=[(false,eval e X.env)]:=by rfl):PE X (.Call (.Name "len" p) [.Call (.Name "set" p2) [e] [] Yx] [] pos) (NQ X.K te):=by
 intro WH s σ H Q I h;refine fU (wF I hg1 WJ b1 ?_);refine gT ?_ rfl rfl;show wpAny _ _ (spliced ((false,eval (.Call (.Name "set" p2) [e] [] Yx) X.env)::backTo pos (starEach [] X.env))) _ _ s;refine io ?_;refine fU (wF I hg2 WZ b2 ?_);refine fZ ?_ hs rfl;rw[hs];show wpAny _ _ (spliced ((false,eval e X.env)::backTo Yx (starEach [] X.env))) _ _ s;refine io (sH (he WH s σ H _ I h) λu s1 ⟨x,H1,I1,r1,a,ss,ex,hq,hb,q⟩=>iF ?_);subst ex;obtain rfl:u=Value.ref a:=r1;have Xz:(ss.map λx=>(Sum.inr x:qW)).length+1<scanBound:=by rw[cV];exact hb
 have WM:∀(h':Heap) (tk:Nat),h'.SetOf (rq X.prog X.w) s1.heap.objs.size (λx=>decide (x∈sV (ss.map λx=>(Sum.inr x:qW)))) (sV (ss.map λx=>(Sum.inr x:qW))).length->(∀b o,s1.heap.get? b=some o->h'.get? b=some o)->
   wpAny (model X.prog X.w) X.A (spliced (backTo pos (starEach [] X.env))) (λvs s₁=>wpAny (model X.prog X.w) X.A (call (.builtin "len") (.ref s1.heap.objs.size::vs)) (EP X WH σ Q) X.xe s₁) X.xe {s1 with heap:=h',toks:=tk}:=λh' tk hS keep=>by
  refine iF ?_;obtain⟨o,es,ep,t,ho,hex,hd,_,_,hz,hf,hn⟩:=hS;have WV:(es.size:Int)<2 ^ 63:=by have:scanBound=4096:=rfl;omega
  refine call_len_set ho hex hd hf WV ?_;refine⟨.int es.size,H1,I1.kept keep,⟨_,rfl⟩,?_⟩;rw[hn,K5];exact q
 rcases hq with hq|hq
 .obtain⟨its,r,pl,hz⟩:=I1.list hq;obtain⟨k1,k2⟩:=GG (P:=X.prog) (w:=X.w) r;exact L2.C7 (knd:=rq X.prog X.w) (all:=ss.map λx=>(Sum.inr x:qW)) (I1.ok.hd hc) pl.isList (by rw[dw,k1,cV]) (λi v k e1 e2=>k2 i v k (by simpa using e1) e2) Xz WM
 .obtain⟨its,r,pl,hz⟩:=I1.tuple hq;obtain⟨k1,k2⟩:=GG (P:=X.prog) (w:=X.w) r;exact L2.CD (knd:=rq X.prog X.w) (all:=ss.map λx=>(Sum.inr x:qW)) (I1.ok.hd hc) pl (by rw[dw,k1,cV]) (λi v k e1 e2=>k2 i v k (by simpa using e1) e2) Xz WM
end
variable {WH:List (Addr × Obj)}{σ:St}{H:Hp}{s:Sd}
theorem DQ(I:Inv X WH σ H s):∀(ts:QXQ) (kvs:List (qW×V)),ts.length=kvs.length->(∀(j:Nat) (t:Addr) (p:qW×V),ts[j]?=some t->kvs[j]?=some p->ve X.K H t [kV p.1,p.2])->
  ∃(us:List Vl) (all:List (qW×Vl)),us.length=kvs.length/\KV kvs all/\∀(j:Nat) (t:Addr) (p:qW×Vl),ts[j]?=some t->all[j]?=some p->∃u,us[j]?=some u/\s.heap.IsTuple t #[u,p.2]/\(rq X.prog X.w).is p.1 u=true
 | [],[],_,_=>⟨[],[],rfl,.nil,λj t p e=>by simp at e⟩
 | [],_::_,h,_=>by simp at h
 | _::_,[],h,_=>by simp at h
 | t::ts,(k,v)::kvs,h,hq=>by
  obtain⟨us,all,h1,h2,h3⟩:=DQ I ts kvs (by simpa using h) (λj t p e1 e2=>hq (j+1) t p (by simpa using e1) (by simpa using e2));obtain⟨its,r,pl,_⟩:=I.tuple (hq 0 t (k,v) (by simp) (by simp));cases r with
  | cons r1 r2=>
   cases r2 with
   | cons r3 r4=>
    cases r4;rename_i u w;refine⟨u::us,(k,w)::all,by simpa using h1,.cons ⟨rfl,r3⟩ h2,λj t' p e1 e2=>?_⟩;cases j with
    | zero=>
     have e1':t=t':=by simpa using e1
     have YS:(k,w)=p:=by simpa using e2
     subst e1' YS;exact⟨u,by simp,pl,F4 r1⟩
    | succ j=>simpa using h3 j t' p (by simpa using e1) (by simpa using e2)
theorem Nj:∀{kvs:List (qW×V)} {all:List (qW×Vl)},KV kvs all->all.map (·.1)=kvs.map (·.1)
 | _,_,.nil=>rfl
 | _,_,.cons r rs=>by rw[dX,dX,Nj rs,r.1]
def HD(hc:X.calm=true):yu X (.type "dict") (λxs H Q=>∃l,∃ts:QXQ,∃kvs:List (qW×V),xs=[V.ref l]/\yT X.K H l (ts.map V.ref)/\ts.length=kvs.length/\
  (∀(j:Nat) (t:Addr) (p:qW×V),ts[j]?=some t->kvs[j]?=some p->ve X.K H t [kV p.1,p.2])/\(kvs.map (·.1)).Nodup/\∀d,H d=none->Q (.ref d) (upd H d (.dK kvs))):=by
 intro WH s σ H xs us Q I r h;obtain⟨l,ts,kvs,rfl,hl,WN,hq,hnd,q⟩:=h;obtain⟨u,rfl,ru⟩:=xl r;cases ru;obtain⟨its,rv,⟨⟨c1,d1,t1,sl1⟩,n,g1,e1,e2,e3⟩,hz⟩:=I.list hl;simp only at e1 e2 e3;subst e1 e2 e3;obtain⟨ks,all,h1,h2,h3⟩:=DQ I ts kvs WN hq;have la:all.length=kvs.length:=(jj h2).symm;have li:its.length=kvs.length:=by rw[<-rv.length,cV,WN]
 have zl:all.length<=sizeLine:=by rw[la,<-WN];simpa using hz
 have at_:∀(j:Nat) (p:qW×Vl),all[j]?=some p->∃t,ts[j]?=some t:=λj p e=>by have:=(c9.mp e).1;exact⟨ts[j],cX (by omega)⟩
 refine AU (knd:=rq X.prog X.w) (all:=all) (λj=>(ks[j]?).getD .none) (λj=>(ts[j]?).getD 0) (I.ok.hd hc) g1 (λj v e=>?_) (by rw[dw,li,la]) (λj p e=>?_) (λj p e=>?_) zl λh' tk hD keep=>?_
 .have e':its[j]?=some v:=by simpa using e
  have hj:=(c9.mp e').1;have hj2:j<ts.length:=by omega
  obtain⟨w,e4,e5⟩:=rv.get (i:=j) (x:=V.ref ts[j]) (by rw[dD,cX hj2];rfl);rw[e']at e4;cases e4;show v=Value.ref ((ts[j]?).getD 0);rw[cX hj2];exact e5
 .obtain⟨t,et⟩:=at_ j p e;obtain⟨u,e4,e5,_⟩:=h3 j t p et e;show s.heap.IsTuple ((ts[j]?).getD 0) #[(ks[j]?).getD .none,p.2];rw[et,e4];exact e5
 .obtain⟨t,et⟩:=at_ j p e;obtain⟨u,e4,_,e6⟩:=h3 j t p et e;show(rq X.prog X.w).is p.1 ((ks[j]?).getD .none)=true;rw[e4];exact e6
 .rw[merged_nil_of_nodup all (by rw[Nj h2];exact hnd)]at hD;have fr:=I.mV.fresh (dv s.heap.objs.size);exact⟨.ref s.heap.objs.size,_,I.laid (t':=tk) (o:=.dK kvs) keep (dv _) (LO (by rw[<-la];exact zl) (fR.mpr (dP (dM I.big))) h2 hD),rfl,q _ fr⟩
def VI:R2:=λx y H Q=>∃a v,x=.ref a/\E6 H a y (some v)/\Q v H
def Qj(hu:X.A.units+1<cLine):SW X VI:=by
 intro value WR WH s σ H x y o i Q I rx ry h hs;obtain⟨a,v,rfl,g,q⟩:=h;obtain rfl:o=Value.ref a:=rx;have hT:=FV I g;have h2:wpAny (model X.prog X.w) X.A (getItem (.ref a) i) (EP X WH σ Q) X.xe s:=KC hu I g ry λw' s3 I3 YR=>⟨v,H,I3,YR,q⟩;unfold subscriptTail;refine cW ?_;rw[kc hT.not_modules];refine cW (jV hT ju.lookup ?_);have WM:wpAny (model X.prog X.w) X.A (subscripted WR false (.ref a) i) (λr s₃=>wpAny (model X.prog X.w) X.A (letTemporaryGo value (.ref a) r>>=λ_=>pure r) (EP X WH σ Q) X.xe s₃) X.xe s:=by rw[hs];exact wpAny_operating (eA h2 (λr s₃ h₃=>cW (kt (dq h₃))) λ_ _ x=>x)
 first
  | exact dq (cW WM)
  | exact cW (dq (cW WM))
  | exact cW WM
def R7(hu:X.A.units+1<cLine):xp X (compareOp .In) (λx y H Q=>∃a o,y=.ref a/\E6 H a x o/\Q (.bl o.isSome) H):=by intro WH s σ H x y v u Q I rx ry h;obtain⟨a,o,rfl,g,q⟩:=h;obtain rfl:u=Value.ref a:=ry;exact Vs hu I g rx λs3 I3=>⟨.bl o.isSome,H,I3,rfl,q⟩
variable {prog:Pg}{w:Wo}{A:Ar}{E:QQX}{a:Addr}{δ:Type}{k:Str}{tk:Tok}
section
variable {R:δ→Vl→Prop}{D:List (Str × δ)}
def yH(T:KTD.TabOf R s.heap a D):s.TypeIs (.ref a) "dict":=let⟨_,o,_,_,ho,hc,_⟩:=T;⟨o,ho,hc.1⟩
def IW{Q:Option Vl->Sd->Prop}(T:KTD.TabOf R s.heap a D)(h1:∀d v,KTD.datumAt k D=some d->R d v->Q (some v) {s with toks:=s.toks+1})(h2:KTD.datumAt k D=none->Q none {s with toks:=s.toks+1}):
  wpAny (model prog w) A (dictGet a (.str k tk)) Q E s:=by
 obtain⟨_,o,es,ep,ho,hc,hd,hr⟩:=T;have hq:Q (findBy (λk v=>v.isStr k) es k) {s with toks:=s.toks+1}:=by
  have hf:findBy (λk v=>v.isStr k) es k=(es.toList.find? λe=>e.key.isStr k).map (·.val):=by obtain⟨l⟩:=es;simp[findBy]
  rw[hf];cases YW:KTD.datumAt k D with
  | none=>rw[hr.find_none YW];exact h2 YW
  | some d=>obtain⟨v,hv,hfl⟩:=hr.find_some YW;rw[hv];exact h1 d v YW hfl
 have Xh:(es.all λe=>isExactStrKey e.key)=true:=by
  obtain⟨l⟩:=es
  simpa using hr.exact
 unfold dictGet
 try with_reducible refine eU ?_
 refine cW (lH (cW (KTD.kt_dictFind_strs (s:={s with toks:=s.toks+1}) ho hd Xh ?_)));rw[findBy_of_findIdx?]at hq;cases hi:es.findIdx? λe=>e.key.isStr k with
 | none=>rw[hi]at hq;exact dq hq
 | some i=>rw[hi]at hq;exact cW (wpAny_dictEntries (s:={s with toks:=s.toks+1}) ho hd (dq hq))
def Q2{Q:QQX}(T:KTD.TabOf R s.heap a D)(h:Q (.bool (KTD.datumAt k D).isSome) {s with toks:=s.toks+1}):wpAny (model prog w) A (compareOp .In (.str k tk) (.ref a)) Q E s:=by
 have hT:=yH T;show wpAny _ _ (do return .bool (<-contains (.ref a) (.str k tk))) Q E s;refine cW ?_;unfold contains
 try with_reducible refine eU ?_
 refine cW (jV hT jh.lookup ?_);show wpAny _ _ (if (some (Value.builtin "dict.__contains__")==some Value.none)=true then _ else _) _ E s;rw[cZ (by rw[beq_builtin_none];exact dB)];refine cW (wpAny_callSpecialUnlessNone?_slot (name:=Str.ofString "__contains__") hT jh (fV jh hT entry_dict_contains ?_ (args_dict_contains _ _)));show wpAny _ _ (dictGet a (.str k tk)>>=_) _ _ s;refine cW (IW T (λd v ha _=>?_) λhn=>?_)
 .rw[ha]at h;show wpAny _ _ (ret (.bool true)) _ _ _;exact dq ⟨_,rfl,fm (dq h)⟩
 .rw[hn]at h;show wpAny _ _ (Builtin.Dict.pendingKey? a (.str k tk)>>=_) _ _ _;exact cW (wpAny_pendingKey_other T.1 (dq ⟨_,rfl,fm (dq h)⟩))
def Mo{Q:QQX}{d:δ}(T:KTD.TabOf R s.heap a D)(hd:KTD.datumAt k D=some d)(h:∀v,R d v->Q v {s with toks:=s.toks+1}):wpAny (model prog w) A (getItem (.ref a) (.str k tk)) Q E s:=by
 have hT:=yH T;unfold getItem
 try with_reducible refine eU ?_
 refine cW (jo hT (by decide) ?_);refine cW (fO (name:=Str.ofString "__getitem__") hT ly (fV ly hT entry_dict_getitem ?_ (args_dict_getitem _ _)));show wpAny _ _ (dictGet a (.str k tk)>>=_) _ _ s;refine cW (IW T (λd' v ha hv=>dq ⟨v,rfl,dq (h v ?_)⟩) λhn=>?_)
 .rw[hd]at ha;cases ha;exact hv
 .rw[hd]at hn;cases hn
end
def Mg(K:qu)(mg:QQZ)(x:Str)(F:List (Str×QQQ)):Prop:=∃a o es ep,mg x=some (.ref a)/\(a==sysModules)=false/\K.lookup a=some o/\o.ExactDict/\o.data=.dict es ep/\
 KTD.Rows (λ(ss:QQQ) v=>∃t,v=Value.ref t/\ve K (λ_=>none) t (ss.map V.str)) es.toList F
variable {x:Str}{F:List (Str × QQQ)}
def Il{K:qu}{t:Addr}{xs:List V}{H:Hp}(h:ve K (λ_=>none) t xs):ve K H t xs:=by
 rcases h with(h|⟨o,h⟩)|h
 .cases h
 .cases h
 .exact .inr h
def G5{K:qu}{mg:QQZ}(T:Mg K mg x F):∃a,mg x=some (.ref a)/\∀h:Heap,K.In h->KTD.TabOf (λ(ss:QQQ) v=>∃t,v=Value.ref t/\ve K (λ_=>none) t (ss.map V.str)) h a F:=by obtain⟨a,o,es,ep,h1,h2,h3,h4,h5,h6⟩:=T;exact⟨a,h1,λh hk=>⟨h2,o,es,ep,hk a o h3,h4,h5,h6⟩⟩
def Va(x:Str):It:=⟨λi _=>i<x.cps.size,λi H v H'=>H'=H/\∃c,x.cps[i]?=some c/\v=.str ⟨#[c]⟩,λi _=>i=x.cps.size⟩
def GR{P:Pg}{w:Wo}{K:qu}{tg:Expr}{ty:String}{x:Str}{t:Tok}(it:Addr)(W:∀A':Ar,A'.handled=none->Walks P w A' it [it] [it] x.cps.size (SignAt x) (λi h=>h.IsStrIter it ty x t i)) (hself:∀(A:Ar) (i:Nat) (s:Sd) (Q:QQX) (E:QQX),s.heap.IsStrIter it ty x t i->Q (.ref it) s->wpAny (model P w) A (pyIter (.ref it)) Q E s) (hn:["enumerate","zip","dict_itemiterator","dict_reverseitemiterator","odict_iterator","itertools.zip_longest","itertools.pairwise"].contains ty=false):Gw P w K tg (Va x) [it] it (λi h=>h.IsStrIter it ty x t i) where
 mem:=by simp
 obj:=λi h st b hb=>by
  obtain rfl:b=it:=by simpa using hb
  obtain⟨o,e,c,d⟩:=st;exact⟨o,e,λv z=>by rw[d]at z;cases z⟩
 keep:=λi h h' st k=>by obtain⟨o,e,r⟩:=st;exact⟨o,k it (by simp) o e,r⟩
 item:=by intro X hP hw hK hc i WH s σ H E I hf st hg;subst hP hw hK;obtain⟨f0,f1,f2,f3,f4,f5⟩:=hf it (by simp);refine(W X.A (I.ok.hd hc)).item i s _ _ hg st λv h' tk hv Xw kp=>?_;obtain⟨c,u,e1,e2⟩:=hv;have I1:Inv X WH σ H {s with heap:=h',toks:=tk}:=I.turned (t':=tk) (λb o hb e=>kp b o (by simpa using hb) e) f0 f1 f3 f4 f5;obtain⟨o,e,cl,d⟩:=id Xw;exact⟨v,rfl,Je (s:={s with heap:=h',toks:=tk}) e cl d hn ⟨.str ⟨#[c]⟩,H,I1,⟨u,e2⟩,⟨rfl,c,e1,rfl⟩,Xw,λb hb=>(hf b hb).1⟩⟩
 done:=by intro X hP hw hK hc i WH s σ H E I hf st hg;subst hP hw hK;obtain⟨f0,f1,f2,f3,f4,f5⟩:=hf it (by simp);obtain rfl:i=x.cps.size:=hg;exact(W X.A (I.ok.hd hc)).done s _ _ st λh' tk kp=>⟨rfl,I.turned (t':=tk) (λb o hb e=>kp b o (by simpa using hb) e) f0 f1 f3 f4 f5⟩
 self:=hself
variable {tg:Expr}
def OD{l:Expr}{tl:TE}(hc:X.calm=true)(hl:PE X l tl):PI X tg l (λσ H R=>tl σ H λx H1=>(∃a,x=.ref a/\(((∃xs,yT X.K H1 a xs)/\R (UQ X.K a) H1)\/((∃xs,ve X.K H1 a xs)/\R (VA X.K a) H1)))\/∃z,x=.str z/\R (Va z) H1):=by
 intro WH s σ H R I h;refine sH (hl WH s σ H _ I h) λv s1 zz=>x5 zz λx H1 I1 r1 q1=>?_;rcases q1 with⟨a,e,q1⟩|⟨z,e,q⟩
 .subst e;cases r1;rcases q1 with⟨⟨xs,hq⟩,q⟩|⟨⟨xs,hq⟩,q⟩
  .obtain⟨its,rv,p,hz⟩:=I1.list hq;refine gZ p.isList ?_;refine⟨s1.heap.objs.size,[s1.heap.objs.size],_,_,H1,rfl,I1.kept (t':=s1.toks) λb o e=>de _ e,Kz a _,⟨_,dI _ rfl,rfl,rfl⟩,λb hb=>?_,q⟩;obtain rfl:b=s1.heap.objs.size:=by simpa using hb
   exact I1.nY (dv _) (I1.mV.fresh (dv _))
  .obtain⟨its,rv,p,hz⟩:=I1.tuple hq;refine iy (show s1.heap.IsTuple a its.toArray from p) ?_;refine⟨s1.heap.objs.size,[s1.heap.objs.size],_,_,H1,rfl,I1.kept (t':=s1.toks) λb o e=>de _ e,Ih a _,⟨_,dI _ rfl,rfl,rfl⟩,λb hb=>?_,q⟩;obtain rfl:b=s1.heap.objs.size:=by simpa using hb
   exact I1.nY (dv _) (I1.mV.fresh (dv _))
 .subst e;obtain⟨t,rfl⟩:=r1;have fp:∀b∈[s1.heap.objs.size],A9 X WH H1 b:=λb hb=>by
   obtain rfl:b=s1.heap.objs.size:=by simpa using hb
   exact I1.nY (dv _) (I1.mV.fresh (dv _))
  cases ha:z.cps.all (·<128)
  .refine wpAny_pyIter_wide ha ?_;exact⟨s1.heap.objs.size,[s1.heap.objs.size],_,_,H1,rfl,I1.kept (t':=s1.toks) λb o e=>de _ e,GR _ (λA' hA=>Walks.strWide hA _ z t) (λA i s Q E st h=>wpAny_pyIter_striter_wide st h) (by decide),⟨_,dI _ rfl,rfl,rfl⟩,fp,q⟩
  .refine wpAny_pyIter_ascii ha ?_;exact⟨s1.heap.objs.size,[s1.heap.objs.size],_,_,H1,rfl,I1.kept (t':=s1.toks) λb o e=>de _ e,GR _ (λA' hA=>Walks.strAscii hA _ z t) (λA i s Q E st h=>wpAny_pyIter_striter_ascii st h) (by decide),⟨_,dI _ rfl,rfl,rfl⟩,fp,q⟩
end L2
namespace L2
inductive BO{α0:Sort u}{α1:Sort v}(p:α0->α1->Prop):Prop
 | mk (a0:α0) (a1:α1) (h:p a0 a1):BO p
inductive CQ{α0:Sort u}{α1:Sort v}{α2:Sort w}(p:α0->α1->α2->Prop):Prop
 | mk (a0:α0) (a1:α1) (a2:α2) (h:p a0 a1 a2):CQ p
def x7{α:Sort u}{β:Sort v}{γ:Sort w}{p q r s:α->β->γ->Prop}{C:Prop}(h:CQ λa b c=>p a b c/\q a b c/\r a b c/\s a b c)(f:∀a b c,p a b c->q a b c->r a b c->s a b c->C):C:=by obtain⟨a,b,c,h1,h2,h3,h4⟩:=h;exact f a b c h1 h2 h3 h4
def KH{α:Sort u}{β:Sort v}{γ:Sort w}{p q r s s1 s2 s3:α->β->γ->Prop}{C:Prop}(h:CQ λa b c=>p a b c/\q a b c/\r a b c/\s a b c/\s1 a b c/\s2 a b c/\s3 a b c)(f:∀a b c,p a b c->q a b c->r a b c->s a b c->s1 a b c->s2 a b c->s3 a b c->C):C:=by obtain⟨a,b,c,h1,h2,h3,h4,h5,h6,h7⟩:=h;exact f a b c h1 h2 h3 h4 h5 h6 h7
inductive Ba{α0:Sort u}{α1:Sort v}{α2:Sort w}{α3:Sort u1}(p:α0->α1->α2->α3->Prop):Prop
 | mk (a0:α0) (a1:α1) (a2:α2) (a3:α3) (h:p a0 a1 a2 a3):Ba p
inductive G7{α0:Sort u}{α1:Sort v}{α2:Sort w}{α3:Sort u1}{α4:Sort u2}(p:α0->α1->α2->α3->α4->Prop):Prop
 | mk (a0:α0) (a1:α1) (a2:α2) (a3:α3) (a4:α4) (h:p a0 a1 a2 a3 a4):G7 p
inductive Ky{α0:Sort u}{α1:Sort v}{α2:Sort w}{α3:Sort u1}{α4:Sort u2}{α5:Sort u3}(p:α0->α1->α2->α3->α4->α5->Prop):Prop
 | mk (a0:α0) (a1:α1) (a2:α2) (a3:α3) (a4:α4) (a5:α5) (h:p a0 a1 a2 a3 a4 a5):Ky p
inductive SV{α0:Sort u}{α1:Sort v}{α2:Sort w}{α3:Sort u1}{α4:Sort u2}{α5:Sort u3}{α6:Sort u4}(p:α0->α1->α2->α3->α4->α5->α6->Prop):Prop
 | mk (a0:α0) (a1:α1) (a2:α2) (a3:α3) (a4:α4) (a5:α5) (a6:α6) (h:p a0 a1 a2 a3 a4 a5 a6):SV p
inductive Ql{α0:Sort u}{α1:Sort v}{α2:Sort w}{α3:Sort u1}{α4:Sort u2}{α5:Sort u3}{α6:Sort u4}{α7:Sort u5}(p:α0->α1->α2->α3->α4->α5->α6->α7->Prop):Prop
 | mk (a0:α0) (a1:α1) (a2:α2) (a3:α3) (a4:α4) (a5:α5) (a6:α6) (a7:α7) (h:p a0 a1 a2 a3 a4 a5 a6 a7):Ql p
inductive TJ{α0:Sort u}{α1:Sort v}{α2:Sort w}{α3:Sort u1}{α4:Sort u2}{α5:Sort u3}{α6:Sort u4}{α7:Sort u5}{α8:Sort u6}(p:α0->α1->α2->α3->α4->α5->α6->α7->α8->Prop):Prop
 | mk (a0:α0) (a1:α1) (a2:α2) (a3:α3) (a4:α4) (a5:α5) (a6:α6) (a7:α7) (a8:α8) (h:p a0 a1 a2 a3 a4 a5 a6 a7 a8):TJ p
inductive Lu{α0:Sort u}{α1:Sort v}{α2:Sort w}{α3:Sort u1}{α4:Sort u2}{α5:Sort u3}{α6:Sort u4}{α7:Sort u5}{α8:Sort u6}{α9:Sort u7}(p:α0->α1->α2->α3->α4->α5->α6->α7->α8->α9->Prop):Prop
 | mk (a0:α0) (a1:α1) (a2:α2) (a3:α3) (a4:α4) (a5:α5) (a6:α6) (a7:α7) (a8:α8) (a9:α9) (h:p a0 a1 a2 a3 a4 a5 a6 a7 a8 a9):Lu p
inductive Vw{α0:Sort u}{α1:Sort v}{α2:Sort w}{α3:Sort u1}{α4:Sort u2}{α5:Sort u3}{α6:Sort u4}{α7:Sort u5}{α8:Sort u6}{α9:Sort u7}{α10:Sort u8}(p:α0->α1->α2->α3->α4->α5->α6->α7->α8->α9->α10->Prop):Prop
 | mk (a0:α0) (a1:α1) (a2:α2) (a3:α3) (a4:α4) (a5:α5) (a6:α6) (a7:α7) (a8:α8) (a9:α9) (pf:α10) (h:p a0 a1 a2 a3 a4 a5 a6 a7 a8 a9 pf):Vw p
inductive Vv{α0:Sort u}{α1:Sort v}{α2:Sort w}{α3:Sort u1}{α4:Sort u2}{α5:Sort u3}{α6:Sort u4}{α7:Sort u5}{α8:Sort u6}{α9:Sort u7}{α10:Sort u8}{α11:Sort u9}(p:α0->α1->α2->α3->α4->α5->α6->α7->α8->α9->α10->α11->Prop):Prop
 | mk (a0:α0) (a1:α1) (a2:α2) (a3:α3) (a4:α4) (a5:α5) (a6:α6) (a7:α7) (a8:α8) (a9:α9) (pf:α10) (a11:α11) (h:p a0 a1 a2 a3 a4 a5 a6 a7 a8 a9 pf a11):Vv p
end L2
namespace L2
open PySem
def SY(a C:Addr)(h:Heap):Prop:=BO λoe vs=>h.get? a=some oe/\oe.cls=.ref C/\oe.data=.fields vs/\oe.dict=none
end L2
namespace L3
open L2
inductive D where
 | mS|bl (b:Bool)|int (i:Int)|str (x:Str)|tup (ds:List D)|ref (a:Addr)|ty (n:String)
 | rl (ds:List D)
def OK(K:qu)(H:Hp)(a:Addr)(xs:List V):Prop:=(∃o,H a=some (.frz o (.lst xs)))\/
 ∃(o:Obj) (its:Array Vl) (n:Nat),K.lookup a=some o/\o.cls=.type "list"/\o.dict=none/\o.data=.seq its n/\its.size<=sizeLine/\qE xs its.toList
def OK.sq{K:qu}{H:Hp}{a:Addr}{xs:List V}(h:OK K H a xs):yT K H a xs:=by
 rcases h with⟨o,h⟩|h
 .exact .inl (.inr ⟨o,h⟩)
 .exact .inr h
mutual
def rN(K:qu)(H:Hp):D->V->Prop
 | .mS,v=>v=.mS
 | .bl b,v=>v=.bl b
 | .int i,v=>v=.int i
 | .str x,v=>v=.str x
 | .ref a,v=>v=.ref a
 | .ty n,v=>v=.ty n
 | .tup ds,v=>∃a xs,v=.ref a/\ve K H a xs/\qk K H ds xs
 | .rl ds,v=>∃a xs,v=.ref a/\OK K H a xs/\qk K H ds xs
def qk(K:qu)(H:Hp):List D->List V->Prop
 | [],xs=>xs=[]
 | d::ds,xs=>∃x r,xs=x::r/\rN K H d x/\qk K H ds r
end
structure qQ(K:qu)(H H':Hp):Prop where
 t:∀a xs,ve K H a xs->ve K H' a xs
 f:∀a o xs,H a=some (.frz o (.lst xs))->H' a=some (.frz o (.lst xs))
def qQ.refl{K:qu}{H:Hp}:qQ K H H:=⟨λ_ _ h=>h,λ_ _ _ h=>h⟩
def qQ.trans{K:qu}{H H1 H2:Hp}(a:qQ K H H1)(b:qQ K H1 H2):qQ K H H2:=⟨λc xs h=>b.t c xs (a.t c xs h),λc o xs h=>b.f c o xs (a.f c o xs h)⟩
def qQ.upd{K:qu}{H:Hp}{p:Addr}{o:HO}(h:∀xs,¬Rd H p (.tup xs))(h':∀u xs,H p≠some (.frz u (.lst xs))):qQ K H (upd H p o):=⟨λa xs q=>by
 rcases q with q|q
 .have ne:a≠p:=λz=>h xs (z ▸ q);rcases q with q|⟨u,q⟩
  .exact .inl (.inl (by rw[pW ne];exact q))
  .exact .inl (.inr ⟨u,by rw[pW ne];exact q⟩)
 .exact .inr q,λa u xs q=>by
 have ne:a≠p:=λz=>h' u xs (z ▸ q);rw[pW ne];exact q⟩
def qQ.new{K:qu}{H:Hp}{p:Addr}{o:HO}(h:H p=none):qQ K H (L2.upd H p o):=.upd (λxs q=>by
 rcases q with q|⟨u,q⟩<;>(rw[h]at q;cases q)) λu xs q=>by rw[h]at q;cases q
def OK.mono{K:qu}{H H':Hp}{a:Addr}{xs:List V}(e:qQ K H H')(h:OK K H a xs):OK K H' a xs:=by
 rcases h with⟨o,h⟩|h
 .exact .inl ⟨o,e.f a o xs h⟩
 .exact .inr h
mutual
theorem rN.mono{K:qu}{H H':Hp}(e:qQ K H H'):∀{d:D} {v:V},rN K H d v->rN K H' d v
 | .mS,_,h=>h
 | .bl _,_,h=>h
 | .int _,_,h=>h
 | .str _,_,h=>h
 | .ref _,_,h=>h
 | .ty _,_,h=>h
 | .tup ds,v,h=>by unfold rN at h ⊢;obtain⟨a,xs,e1,e2,e3⟩:=h;exact⟨a,xs,e1,e.t _ _ e2,qk.mono e e3⟩
 | .rl ds,v,h=>by unfold rN at h ⊢;obtain⟨a,xs,e1,e2,e3⟩:=h;exact⟨a,xs,e1,e2.mono e,qk.mono e e3⟩
theorem qk.mono{K:qu}{H H':Hp}(e:qQ K H H'):∀{ds:List D} {xs:List V},qk K H ds xs->qk K H' ds xs
 | [],_,h=>h
 | d::ds,xs,h=>by unfold qk at h ⊢;obtain⟨x,r,e1,e2,e3⟩:=h;exact⟨x,r,e1,rN.mono e e2,qk.mono e e3⟩
end
variable {K:qu}{H H':Hp}
def qk.nil:qk K H [] []:=by unfold qk;rfl
def qk.cons{d:D}{ds:List D}{x:V}{xs:List V}(a:rN K H d x)(b:qk K H ds xs):qk K H (d::ds) (x::xs):=by unfold qk;exact⟨x,xs,rfl,a,b⟩
def qk.inv{d:D}{ds:List D}{xs:List V}(h:qk K H (d::ds) xs):∃x r,xs=x::r/\rN K H d x/\qk K H ds r:=by unfold qk at h;exact h
def qk.nil_inv{xs:List V}(h:qk K H [] xs):xs=[]:=by unfold qk at h;exact h
theorem qk.length:∀{ds:List D} {xs:List V},qk K H ds xs->ds.length=xs.length
 | [],_,h=>by rw[h.nil_inv];rfl
 | d::ds,_,h=>by obtain⟨x,r,rfl,_,e⟩:=h.inv;simp[qk.length e]
theorem qk.get:∀{ds:List D} {xs:List V} {i:Nat} {d:D},qk K H ds xs->ds[i]?=some d->∃x,xs[i]?=some x/\rN K H d x
 | [],_,_,_,_,e=>by simp at e
 | d::ds,_,0,_,h,e=>by obtain⟨x,r,rfl,a,_⟩:=h.inv;simp at e;subst e;exact⟨x,by simp,a⟩
 | d::ds,_,i+1,_,h,e=>by obtain⟨x,r,rfl,_,b⟩:=h.inv;obtain⟨y,e1,e2⟩:=qk.get b (by simpa using e);exact⟨y,by simpa using e1,e2⟩
theorem qk.append:∀{ds es:List D} {xs ys:List V},qk K H ds xs->qk K H es ys->qk K H (ds++es) (xs++ys)
 | [],_,_,_,h,g=>by rw[h.nil_inv];exact g
 | d::ds,_,_,_,h,g=>by obtain⟨x,r,rfl,a,b⟩:=h.inv;exact .cons a (qk.append b g)
theorem qk.take:∀{ds:List D} {xs:List V} (n:Nat),qk K H ds xs->qk K H (ds.take n) (xs.take n)
 | _,_,0,_=>by simp only[List.take_zero];exact .nil
 | [],_,n+1,h=>by rw[h.nil_inv];exact .nil
 | d::ds,_,n+1,h=>by obtain⟨x,r,rfl,a,b⟩:=h.inv;exact .cons a (qk.take n b)
theorem qk.drop:∀{ds:List D} {xs:List V} (n:Nat),qk K H ds xs->qk K H (ds.drop n) (xs.drop n)
 | _,_,0,h=>h
 | [],_,n+1,h=>by rw[h.nil_inv];exact .nil
 | d::ds,_,n+1,h=>by obtain⟨x,r,rfl,a,b⟩:=h.inv;exact qk.drop n b
def qk.snoc{ds:List D}{xs:List V}{d:D}{x:V}(h:qk K H ds xs)(a:rN K H d x):qk K H (ds++[d]) (xs++[x]):=h.append (.cons a .nil)
theorem qk.ints:∀{ns:List Int},qk K H (ns.map D.int) (ns.map V.int)
 | []=>.nil
 | n::r=>.cons (by unfold rN;rfl) qk.ints
def rN.tup{ds:List D}{a:Addr}{xs:List V}(q:ve K H a xs)(h:qk K H ds xs):rN K H (.tup ds) (.ref a):=by unfold rN;exact⟨a,xs,rfl,q,h⟩
def rN.mT{ds:List D}{v:V}(h:rN K H (.tup ds) v):∃a xs,v=.ref a/\ve K H a xs/\qk K H ds xs:=by unfold rN at h;exact h
def rN.nj{ds:List D}{v:V}(h:rN K H (.rl ds) v):∃a xs,v=.ref a/\OK K H a xs/\qk K H ds xs:=by unfold rN at h;exact h
def rN.int{i:Int}:rN K H (.int i) (.int i):=by unfold rN;rfl
def rN.bl{i:Bool}:rN K H (.bl i) (.bl i):=by unfold rN;rfl
def rN.str{i:Str}:rN K H (.str i) (.str i):=by unfold rN;rfl
def rN.ref{i:Addr}:rN K H (.ref i) (.ref i):=by unfold rN;rfl
def rN.mS:rN K H .mS .mS:=by unfold rN;rfl
def rN.int_inv{i:Int}{v:V}(h:rN K H (.int i) v):v=.int i:=by unfold rN at h;exact h
def rN.mP{i:Bool}{v:V}(h:rN K H (.bl i) v):v=.bl i:=by unfold rN at h;exact h
def rN.str_inv{i:Str}{v:V}(h:rN K H (.str i) v):v=.str i:=by unfold rN at h;exact h
def rN.mM{i:Addr}{v:V}(h:rN K H (.ref i) v):v=.ref i:=by unfold rN at h;exact h
def rN.nU{i:String}{v:V}(h:rN K H (.ty i) v):v=.ty i:=by unfold rN at h;exact h
def rN.mQ{v:V}(h:rN K H .mS v):v=.mS:=by unfold rN at h;exact h
inductive uW where
 | lst (ds:List D)
 | ins (C:Addr) (fs:List (Str×D))
 | dk (kvs:List (qW×D))
 | exc (C:Addr)
abbrev Mp:=Addr->Option uW
def pF(M:Mp)(a:Addr)(c:uW):Mp:=λb=>if b=a then some c else M b
def pP{M:Mp}{a:Addr}{c:uW}:pF M a c a=some c:=by unfold pF;rw[df rfl]
def uc{M:Mp}{a b:Addr}{c:uW}(h:b≠a):pF M a c b=M b:=by unfold pF;rw[cZ h]
def rH{M:Mp}{a:Addr}{c d:uW}:pF (pF M a c) a d=pF M a d:=by funext b;unfold pF;split<;>rfl
def Qv{M:Mp}{a b:Addr}{c:uW}(h:M a=some c)(h':M b=none):a≠b:=by intro e;subst e;rw[h]at h';cases h'
def B7(K:qu)(H:Hp)(fs:List (Str×D))(vs:List (Str×V)):Prop:=vs.map (·.1)=fs.map (·.1)/\qk K H (fs.map (·.2)) (vs.map (·.2))
def xF(K:qu)(H:Hp)(a:Addr):uW->Prop
 | .lst ds=>∃xs,H a=some (.lst xs)/\qk K H ds xs
 | .ins C fs=>∃dx vs,H a=some (.ins C dx vs)/\Cls K C/\(∀f,f∈fs.map (·.1)->uh K C f)/\B7 K H fs vs
 | .dk kvs=>∃vs,H a=some (.dK vs)/\vs.map (·.1)=kvs.map (·.1)/\qk K H (kvs.map (·.2)) (vs.map (·.2))
 | .exc C=>H a=some (.ext (SY a C))
def HM(K:qu)(H:Hp)(M:Mp):Prop:=∀a c,M a=some c->xF K H a c
variable {M:Mp}
def B7.mono{fs:List (Str×D)}{vs:List (Str×V)}(e:qQ K H H')(h:B7 K H fs vs):B7 K H' fs vs:=⟨h.1,h.2.mono e⟩
def xF.keep{a:Addr}{c:uW}(e:qQ K H H')(k:H' a=H a)(h:xF K H a c):xF K H' a c:=by
 cases c with
 | lst ds=>obtain⟨xs,e1,e2⟩:=h;exact⟨xs,by rw[k];exact e1,e2.mono e⟩
 | ins C fs=>obtain⟨dx,vs,e1,c,n,e2⟩:=h;exact⟨dx,vs,by rw[k];exact e1,c,n,e2.mono e⟩
 | dk kvs=>obtain⟨vs,e1,e2,e3⟩:=h;exact⟨vs,by rw[k];exact e1,e2,e3.mono e⟩
 | exc C=>exact k.trans h
def xF.there{a:Addr}{c:uW}(h:xF K H a c):∃o,H a=some o/\(∀xs,¬Rd H a (.tup xs))/\∀u xs,H a≠some (.frz u (.lst xs)):=by
 have go:∀o,H a=some o->(∀xs,o≠.tup xs)->(∀u v,o≠.frz u v)->∃o,H a=some o/\(∀xs,¬Rd H a (.tup xs))/\∀u xs,H a≠some (.frz u (.lst xs)):=λo e n1 n2=>⟨o,e,λxs q=>by
  rcases q with q|⟨u,q⟩
  .rw[e]at q;exact n1 xs (dh q)
  .rw[e]at q;exact n2 u _ (dh q),λu xs q=>by rw[e]at q;exact n2 u _ (dh q)⟩
 cases c with
 | lst ds=>obtain⟨xs,e1,e2⟩:=h;exact go _ e1 (λ_ z=>by cases z) λ_ _ z=>by cases z
 | ins C fs=>obtain⟨dx,vs,e1,e2⟩:=h;exact go _ e1 (λ_ z=>by cases z) λ_ _ z=>by cases z
 | dk kvs=>obtain⟨vs,e1,e2,e3⟩:=h;exact go _ e1 (λ_ z=>by cases z) λ_ _ z=>by cases z
 | exc C=>exact go _ h (λ_ z=>by cases z) λ_ _ z=>by cases z
def HM.fresh(h:HM K H M){p:Addr}(n:H p=none):M p=none:=by
 cases e:M p with
 | none=>rfl
 | some c=>obtain⟨o,q,_⟩:=(h p c e).there;rw[n]at q;cases q
def HM.keep(h:HM K H M)(e:qQ K H H')(k:∀a c,M a=some c->H' a=H a):HM K H' M:=λa c q=>(h a c q).keep e (k a c q)
def HM.add(h:HM K H M){p:Addr}{o:HO}(n:H p=none):HM K (upd H p o) M:=h.keep (.new n) λa c q=>by obtain⟨u,e,_⟩:=(h a c q).there;rw[pW (qO e n)]
def HM.new(h:HM K H M){p:Addr}{o:HO}{c:uW}(n:H p=none)(ok:xF K (upd H p o) p c):HM K (upd H p o) (pF M p c):=λa d q=>by
 by_cases e:a=p
 .subst e;rw[pP]at q;cases q;exact ok
 .rw[uc e]at q;exact h.add n a d q
def HM.put(h:HM K H M){p:Addr}{o:HO}{c c0:uW}(e0:M p=some c0)(ok:qQ K H (upd H p o)->xF K (upd H p o) p c):HM K (upd H p o) (pF M p c)/\qQ K H (upd H p o):=by
 obtain⟨u,eu,nt,nf⟩:=(h p c0 e0).there;have x:qQ K H (upd H p o):=.upd nt nf;refine⟨λa d q=>?_,x⟩;by_cases e:a=p
 .subst e;rw[pP]at q;cases q;exact ok x
 .rw[uc e]at q;exact(h a d q).keep x (pW e)
abbrev St:=L2.St
abbrev vo:=List (Option D)
abbrev DK:=D->Mp->Prop
abbrev T3:=vo->Mp->DK->Prop
abbrev Az:=vo->Mp->(Bool->Mp->Prop)->Prop
abbrev xC:=vo->Mp->(List D->Mp->Prop)->Prop
structure Dx where
 nx:vo->Mp->Prop
 rt:DK
 bk:vo->Mp->Prop:=λ_ _=>False
 ct:vo->Mp->Prop:=λ_ _=>False
abbrev xA:=Dx->vo->Mp->Prop
def zL(K:qu)(H:Hp)(σ:St)(δ:vo):Prop:=∀(i:Nat) (d:D),δ[i]?=some (some d)->∃v,σ[i]?=some (some v)/\rN K H d v
def zL.mono{K:qu}{H H':Hp}{σ:St}{δ:vo}(e:qQ K H H')(h:zL K H σ δ):zL K H' σ δ:=λi d q=>by obtain⟨v,e1,e2⟩:=h i d q;exact⟨v,e1,e2.mono e⟩
def zL.set{K:qu}{H:Hp}{σ:St}{δ:vo}{i:Nat}{d:D}{v:V}(h:zL K H σ δ)(hv:rN K H d v)(hi:i<σ.length):zL K H (σ.set i (some v)) (δ.set i (some d)):=λj e q=>by
 by_cases hj:j=i
 .subst hj;rw[fH hi];by_cases hl:j<δ.length
  .rw[fH hl]at q;cases q;exact⟨v,rfl,hv⟩
  .rw[hW (by simpa using hl)]at q;cases q
 .rw[fG (dP hj)]at q ⊢;exact h j e q
def lo(K:qu)(t:T3):TE:=λσ H Q'=>CQ λδ M Q=>zL K H σ δ/\HM K H M/\t δ M Q/\∀v H' d M',rN K H' d v->HM K H' M'->qQ K H H'->Q d M'->Q' v H'
def SR(K:qu)(t:Az):TT:=λσ H Q'=>CQ λδ M Q=>zL K H σ δ/\HM K H M/\t δ M Q/\∀b H' M',HM K H' M'->qQ K H H'->Q b M'->Q' b H'
def Wh(K:qu)(t:xC):TA:=λσ H Q'=>CQ λδ M Q=>zL K H σ δ/\HM K H M/\t δ M Q/\∀vs H' ds M',qk K H' ds vs->HM K H' M'->qQ K H H'->Q ds M'->Q' vs H'
def US(K:qu)(t:xA):TS:=λD' σ H=>CQ λδ M D=>zL K H σ δ/\HM K H M/\t D δ M/\(∀σ' H' δ' M',zL K H' σ' δ'->HM K H' M'->qQ K H H'->σ'.length=σ.length->D.nx δ' M'->D'.nx σ' H')/\
 (∀v H' d M',rN K H' d v->HM K H' M'->qQ K H H'->D.rt d M'->D'.rt v H')/\(∀σ' H' δ' M',zL K H' σ' δ'->HM K H' M'->qQ K H H'->σ'.length=σ.length->D.bk δ' M'->D'.bk σ' H')/\
 (∀σ' H' δ' M',zL K H' σ' δ'->HM K H' M'->qQ K H H'->σ'.length=σ.length->D.ct δ' M'->D'.ct σ' H')
def E3(X:Cx)(e:Expr)(t:T3):Prop:=PE X e (lo X.K t)
def B3(X:Cx)(e:Expr)(t:Az):Prop:=PT X e (SR X.K t)
def A3(X:Cx)(es:List Expr)(t:xC):Prop:=PA X es (Wh X.K t)
def S3(X:Cx)(st:Stmt)(t:xA):Prop:=PS X st (US X.K t)
def G6(X:Cx)(st:List Stmt)(t:xA):Prop:=B6 X st (US X.K t)
def PE.mono{X:Cx}{e:Expr}{t t':TE}(h:PE X e t)(m:∀σ H Q,t' σ H Q->t σ H Q):PE X e t':=λWH s σ H Q I q=>h WH s σ H Q I (m σ H Q q)
def PT.mono{X:Cx}{e:Expr}{t t':TT}(h:PT X e t)(m:∀σ H Q,t' σ H Q->t σ H Q):PT X e t':=λWH s σ H Q I q=>h WH s σ H Q I (m σ H Q q)
def PA.mono{X:Cx}{e:List Expr}{t t':TA}(h:PA X e t)(m:∀σ H Q,t' σ H Q->t σ H Q):PA X e t':=λpos WH s σ H Q I q=>h pos WH s σ H Q I (m σ H Q q)
def PS.mono{X:Cx}{e:Stmt}{t t':TS}(h:PS X e t)(m:∀D σ H,t' D σ H->t D σ H):PS X e t':=λWH s σ H D I q=>h WH s σ H D I (m D σ H q)
def B6.mono{X:Cx}{e:List Stmt}{t t':TS}(h:B6 X e t)(m:∀D σ H,t' D σ H->t D σ H):B6 X e t':=λWH s σ H D I q=>h WH s σ H D I (m D σ H q)
def PS.nR{X:Cx}{e:Stmt}{t t':TS}(h:PS X e t)(m:∀D σ H,σ.length=X.N.length->t' D σ H->t D σ H):PS X e t':=λWH s σ H D I q=>h WH s σ H D I (m D σ H I.len q)
def vK{K:qu}{H H1:Hp}{Q':VK}{Q:DK}(x:qQ K H H1)(f:∀v H' d M',rN K H' d v->HM K H' M'->qQ K H H'->Q d M'->Q' v H'):∀v H' d M',rN K H' d v->HM K H' M'->qQ K H1 H'->Q d M'->Q' v H':=
 λv H' d M' a b c e=>f v H' d M' a b (x.trans c) e
variable {X:Cx}{pos:Pos}
def v3(i:Nat):T3:=λδ M Q=>(δ.getD i none).elim False λd=>Q d M
def J3{δ:vo}{i:Nat}{P:D->Prop}(h:(δ.getD i none).elim False P):∃d,δ[i]?=some (some d)/\P d:=by
 cases e:δ[i]? with
 | none=>rw[gh,e]at h;exact h.elim
 | some o=>
  rw[gh,e]at h;cases o with
  | none=>exact h.elim
  | some d=>exact⟨d,rfl,h⟩
def SK(i:Nat){x:Str}(h:PE X (.Name x pos) (Hi i)):E3 X (.Name x pos) (v3 i):=PE.mono h λσ H Q' zz=>x7 zz λδ M Q hs hm ht k=>by obtain⟨d,e,q⟩:=J3 ht;obtain⟨v,e1,e2⟩:=hs i d e;exact⟨v,e1,k v H d M e2 hm .refl q⟩
def c3(d:D):T3:=λ_ M Q=>Q d M
def pz{i j}:E3 X (.Constant (.int i) j pos) (c3 (.int i)):=PE.mono SO λσ H Q' zz=>x7 zz λδ M Q hs hm ht k=>k _ H _ M .int hm .refl ht
def ul{i j}:E3 X (.Constant (.bool i) j pos) (c3 (.bl i)):=PE.mono UI λσ H Q' zz=>x7 zz λδ M Q hs hm ht k=>k _ H _ M .bl hm .refl ht
def pA{i j}:E3 X (.Constant (.str i) j pos) (c3 (.str i)):=PE.mono Sr λσ H Q' zz=>x7 zz λδ M Q hs hm ht k=>k _ H _ M .str hm .refl ht
def sD{j}:E3 X (.Constant .none j pos) (c3 .mS):=PE.mono Rr λσ H Q' zz=>x7 zz λδ M Q hs hm ht k=>k _ H _ M .mS hm .refl ht
def TU{x:Str}{n:String}(hg:Gl X x)(hm:X.mg x=none)(hv:bootBuiltins x=some (.type n))(hn:x≠"__name__":=by decide)(hd:yU x:=by decide):E3 X (.Name x pos) (c3 (.ty n)):=
 PE.mono (Pn (v:=.ty n) hg hm hv rfl hn hd) λσ H Q' zz=>x7 zz λδ M Q hs hm ht k=>k _ H _ M (by unfold rN;rfl) hm .refl ht
def oM(M:Mp)(a:Addr):Option (List D):=match M a with
 | some (.lst ds)=>some ds
 | _=>none
def yy(x:Str)(n:Int):Str:=⟨(List.replicate n.toNat x.cps).foldl (·++·) #[]⟩
def UT(op:Operator)(x y:D)(M:Mp)(Q:DK):Prop:=match op,x,y with
 | .Add,.int i,.int j=>Q (.int (i+j)) M
 | .Add,.str i,.str j=>i.length+j.length<=sizeLine/\Q (.str (i++j)) M
 | .Add,.tup i,.tup j=>i≠[]/\i.length+j.length<=sizeLine/\Q (.tup (i++j)) M
 | .Add,.ref a,.ref b=>(oM M a).elim False λi=>(oM M b).elim False λj=>i.length+j.length<=sizeLine/\∀p,M p=none->Q (.ref p) (pF M p (.lst (i++j)))
 | .Add,.rl i,.ref b=>(oM M b).elim False λj=>i.length+j.length<=sizeLine/\∀p,M p=none->Q (.ref p) (pF M p (.lst (i++j)))
 | .Sub,.int i,.int j=>Q (.int (i - j)) M
 | .Mult,.int i,.int j=>CM i j/\Q (.int (i*j)) M
 | .Mult,.str i,.int j=>(j<4096/\-4096<j/\i.length<4096)/\Q (.str (yy i j)) M
 | .FloorDiv,.int i,.int j=>TQ i j/\Q (.int (i / j)) M
 | .Mod,.int i,.int j=>0<j/\Q (.int (i % j)) M
 | _,_,_=>False
def o3(op:Operator)(ta tb:T3):T3:=λδ M Q=>ta δ M λx M1=>tb δ M1 λy M2=>UT op x y M2 Q
def Up(K:qu)(H:Hp)(Q':VK)(Q:DK):Prop:=∀v H' d M',rN K H' d v->HM K H' M'->qQ K H H'->Q d M'->Q' v H'
variable {ta tb:T3}
section
def qy{K:qu}{H:Hp}{M:Mp}{a:Addr}{ds:List D}(hm:HM K H M)(h:oM M a=some ds):∃xs,yT K H a xs/\qk K H ds xs/\Rd H a (.lst xs):=by
 unfold oM at h;cases e:M a with
 | none=>rw[e]at h;cases h
 | some c=>
  rw[e]at h;have ok:=hm a c e;cases c with
  | lst es=>cases h;obtain⟨xs,e1,e2⟩:=ok;exact⟨xs,.inl (.inl e1),e2,.inl e1⟩
  | ins _ _=>cases h
  | dk _=>cases h
  | exc _=>cases h
def qX{α:Type}{o:Option α}{P:α->Prop}(h:o.elim False P):∃a,o=some a/\P a:=by
 cases o with
 | none=>exact h.elim
 | some a=>exact⟨a,rfl,h⟩
def IR:xp X (binaryOp .Add) (λx y H Q=>∃l b xs zs,x=.ref l/\y=.ref b/\yT X.K H l xs/\yT X.K H b zs/\xs.length+zs.length<=sizeLine/\∀p,H p=none->Q (.ref p) (upd H p (.lst (xs++zs)))):=by
 intro WH s σ H x y v u Q I rx ry h;obtain⟨l,b,xs,zs,rfl,rfl,hH,hB,hz,q⟩:=h;cases rx;cases ry;obtain⟨its,r,⟨⟨c1,d1,t1,sl1⟩,n,g1,e1,_,f1⟩,_⟩:=I.list hH;obtain⟨YH,r2,⟨⟨c2,d2,t2,sl2⟩,m,g2,e2,_,f2⟩,_⟩:=I.list hB;simp only at e1 f1 e2 f2;subst e1 f1 e2 f2;have hl:=r.length;have hl2:=r2.length;refine kQ ⟨_,g1,rfl⟩ ⟨_,g2,rfl⟩ noFill_list_add seq_list_add PySem.F.slot_list_add PySem.F.entry_list_add (PySem.F.args_list_add_2 _ _) (list_addW l b its.toArray YH.toArray n m d1 d2 sl1 sl2 (by rw[dw,dw];omega)) ⟨g1,g2,?_⟩;have ea:its.toArray++YH.toArray=(its++YH).toArray:=by simp
 rw[ea];exact⟨.ref _,_,I.oU (t':=s.toks) (r.append r2) (by rw[cY];omega),rfl,q _ I.fresh⟩
def Jd(x:Array Nat):∀k,((List.replicate k x).foldl (·++·) #[]:Array Nat).size=k*x.size:=by
 have go:∀(k:Nat) (acc:Array Nat),((List.replicate k x).foldl (·++·) acc).size=acc.size+k*x.size:=by
  intro k;induction k with
  | zero=>intro acc;simp
  | succ k ih=>intro acc;rw[eI,gb,ih,Array.size_append,mz];omega
 intro k;rw[go];simp
def Qd:xp X (binaryOp .Mult) (λx y H Q=>∃i j,x=.str i/\y=.int j/\(j<4096/\-4096<j/\i.length<4096)/\Q (.str (yy i j)) H):=by
 intro WH s σ H x y v u Q I rx ry h;obtain⟨i,j,rfl,rfl,⟨h1,h2,h3⟩,q⟩:=h;obtain⟨t,rfl⟩:=rx;obtain⟨t',rfl⟩:=ry;refine PySem.P.mul_str ?_ ?_ ?_ ?_
 .rw[eN (by omega),eN (by omega)];rfl
 .intro h0 _;have:(4096:Int)<=(2 ^ 63 - 1) / j:=by
   have:(4096:Int)*j<=2 ^ 63 - 1:=by omega
   exact(Int.le_ediv_iff_mul_le (by omega)).mpr this
  omega
 .intro h0 _;have hm:i.length*j.toNat<=4096*4096:=ke (by omega) (by omega);have hz:=dN;unfold Builtin.Str.tooLong;exact eN (by omega)
 .by_cases h0:j<1
  .rw[df h0];have e:yy i j=Str.empty:=by unfold yy;rw[show j.toNat=0 by omega];rfl
   rw[e]at q;exact⟨by decide,⟨.str Str.empty,H,I.tok _,⟨_,rfl⟩,q⟩⟩
  .rw[cZ h0];by_cases hj:(j==1||i.length==0)=true
   .rw[df hj];have e:yy i j=i:=by
     have hj':j=1\/i.length=0:=by simpa using hj
     unfold yy;rcases hj' with z|z
     .subst z;show(⟨#[]++i.cps⟩:Str)=i;simp
     .have ec:i.cps=#[]:=Array.size_eq_zero_iff.mp z;have er:∀k:Nat,((List.replicate k (#[]:Array Nat)).foldl (·++·) #[]:Array Nat)=#[]:=by
       intro k;induction k with
       | zero=>rfl
       | succ k ih=>rw[eI,gb];simpa using ih
      rw[ec,er,<-ec]
    rw[e]at q;exact⟨.str i,H,I,⟨t,rfl⟩,q⟩
   .rw[cZ hj];refine⟨?_,⟨.str _,H,I.tok _,⟨_,rfl⟩,q⟩⟩;have hz:=dN;have hm:j.toNat*i.length<=4096*4096:=ke (by omega) (by omega);show((List.replicate j.toNat i.cps).foldl (·++·) #[]:Array Nat).size<=_;rw[Jd];have Ye:j.toNat*i.cps.size<=4096*4096:=hm;omega
def R3(K:qu)(f:D->D->Mp->DK->Prop):R2:=λvx vy H Q'=>Ba λx y M Q=>rN K H x vx/\rN K H y vy/\HM K H M/\f x y M Q/\Up K H Q' Q
def Wr(op:Operator):xp X (binaryOp op) (R3 X.K (UT op)):=by
 intro WH s σ H vx vy v u Q' I rx ry h;obtain⟨x,y,M,Q,hx,hy,hm,q,k⟩:=h;unfold UT at q;split at q
 .cases hx.int_inv;cases hy.int_inv;exact Rv WH s σ H _ _ v u Q' I rx ry ⟨_,_,rfl,rfl,k _ _ _ _ .int hm .refl q⟩
 .cases hx.str_inv;cases hy.str_inv;exact Hu WH s σ H _ _ v u Q' I rx ry ⟨_,_,rfl,rfl,q.1,k _ _ _ _ .str hm .refl q.2⟩
 .rename_i i j;obtain⟨q1,q2,q3⟩:=q;obtain⟨a,xs,rfl,ha,Yi⟩:=hx.mT;obtain⟨b,ys,rfl,hb,Xz⟩:=hy.mT;have l1:=Yi.length;have l2:=Xz.length;refine OW WH s σ H _ _ v u Q' I rx ry ⟨a,b,xs,ys,rfl,rfl,ha,hb,λz=>q1 (by rw[z]at l1;exact gv.mp l1),by omega,λz=>?_,λz p hp=>?_⟩
  .refine k _ _ _ _ (.tup ha ?_) hm .refl q3;rw[z]at Xz;have e0:j=[]:=gv.mp (by simpa using Xz.length);rw[e0,eZ];exact Yi
  .have e:qQ X.K H (upd H p (.tup (xs++ys))):=.new hp;exact k _ _ _ _ (.tup (.of qh) ((Yi.append Xz).mono e)) (hm.add hp) e q3
 .obtain⟨i,ei,q⟩:=qX q;obtain⟨j,ej,q1,q2⟩:=qX q;cases hx.mM;cases hy.mM;obtain⟨xs,rx',ZF,_⟩:=qy hm ei;obtain⟨ys,ry',hys,_⟩:=qy hm ej;have l1:=ZF.length;have l2:=hys.length;refine IR WH s σ H _ _ v u Q' I rx ry ⟨_,_,xs,ys,rfl,rfl,rx',ry',by omega,λp hp=>?_⟩;have e:qQ X.K H (upd H p (.lst (xs++ys))):=.new hp;exact k _ _ _ _ .ref (hm.new (c:=.lst (i++j)) hp ⟨_,qh,(ZF.append hys).mono e⟩) e (q2 p (hm.fresh hp))
 .obtain⟨j,ej,q1,q2⟩:=qX q;obtain⟨l,xs,rfl,rx',ZF⟩:=hx.nj;cases hy.mM;obtain⟨ys,ry',hys,_⟩:=qy hm ej;have l1:=ZF.length;have l2:=hys.length;refine IR WH s σ H _ _ v u Q' I rx ry ⟨_,_,xs,ys,rfl,rfl,rx'.sq,ry',by omega,λp hp=>?_⟩;have e:qQ X.K H (upd H p (.lst (xs++ys))):=.new hp;exact k _ _ _ _ .ref (hm.new (c:=.lst (_++j)) hp ⟨_,qh,(ZF.append hys).mono e⟩) e (q2 p (hm.fresh hp))
 .cases hx.int_inv;cases hy.int_inv;exact QN WH s σ H _ _ v u Q' I rx ry ⟨_,_,rfl,rfl,k _ _ _ _ .int hm .refl q⟩
 .cases hx.int_inv;cases hy.int_inv;exact Rk WH s σ H _ _ v u Q' I rx ry ⟨_,_,rfl,rfl,q.1,k _ _ _ _ .int hm .refl q.2⟩
 .cases hx.str_inv;cases hy.int_inv;exact Qd WH s σ H _ _ v u Q' I rx ry ⟨_,_,rfl,rfl,q.1,k _ _ _ _ .str hm .refl q.2⟩
 .cases hx.int_inv;cases hy.int_inv;exact N0 WH s σ H _ _ v u Q' I rx ry ⟨_,_,rfl,rfl,q.1,k _ _ _ _ .int hm .refl q.2⟩
 .cases hx.int_inv;cases hy.int_inv;exact SC WH s σ H _ _ v u Q' I rx ry ⟨_,_,rfl,rfl,q.1,k _ _ _ _ .int hm .refl q.2⟩
 .exact q.elim
variable {a b:Expr}
def EA{f:D->D->Mp->DK->Prop}:∀σ H Q',lo X.K (λδ M Q=>ta δ M λx M1=>tb δ M1 λy M2=>f x y M2 Q) σ H Q'->Tb (R3 X.K f) (lo X.K ta) (lo X.K tb) σ H Q':=λσ H Q' zz=>x7 zz λδ M Q hs hm ht k=>⟨δ,M,_,hs,hm,ht,λv H1 x M1 hx WJ e1 q1=>⟨δ,M1,_,hs.mono e1,WJ,q1,λu H2 y M2 hy WZ e2 q2=>⟨x,y,M2,Q,hx.mono e2,hy,WZ,q2,vK (e1.trans e2) k⟩⟩⟩
def pU{op:Operator}(ha:E3 X a ta)(hb:E3 X b tb):E3 X (.BinOp a op b pos) (o3 op ta tb):=PE.mono (Qs (Wr op) ha hb) EA
end
def sE(f:D->D->Option Bool):List D->List D->Option Bool
 | x::a,y::b=>(f x y).bind λp=>(sE f a b).map λq=>p&&q
 | _,_=>some true
def xx(M:Mp):Nat->D->D->Option Bool
 | 0,_,_=>none
 | n+1,x,y=>match x,y with
  | .mS,.mS=>some true
  | .bl a,.bl b=>some (a==b)
  | .int a,.int b=>some (a==b)
  | .str a,.str b=>some (a==b)
  | .mS,.bl _=>some false
  | .mS,.int _=>some false
  | .mS,.str _=>some false
  | .bl _,.mS=>some false
  | .bl _,.str _=>some false
  | .int _,.mS=>some false
  | .int _,.str _=>some false
  | .str _,.mS=>some false
  | .str _,.bl _=>some false
  | .str _,.int _=>some false
  | .tup a,.tup b=>(sE (xx M n) a b).map λp=>p&&a.length==b.length
  | .ref a,.ref b=>(oM M a).bind λi=>(oM M b).bind λj=>if i.length=j.length then sE (xx M n) i j else some false
  | _,_=>none
variable {WH:List (Addr × Obj)}{σ:St}{s:Sd}
theorem yF{f:D->D->Option Bool}:∀{ds es:List D} {xs:List V} {b:Bool},qk X.K H ds xs->qk X.K H es xs->(∀x y v b,rN X.K H x v->rN X.K H y v->f x y=some b->b=true)->sE f ds es=some b->b=true
 | [],[],_,_,_,_,_,e=>(dh e).symm
 | [],_::_,_,_,h,g,_,_=>by have h1:=h.length;have h2:=g.length;rw[<-h1]at h2;simp at h2
 | _::_,[],_,_,h,g,_,_=>by have h1:=h.length;have h2:=g.length;rw[<-h1]at h2;simp at h2
 | d::ds,e::es,xs,b,h,g,k,q=>by
  obtain⟨x,r,rfl,h1,h2⟩:=h.inv;obtain⟨x',r',e',g1,g2⟩:=g.inv;cases e';unfold sE at q;cases p1:f d e with
  | none=>rw[p1]at q;cases q
  | some b1=>
   rw[p1]at q;cases p2:sE f ds es with
   | none=>rw[p2]at q;cases q
   | some b2=>rw[p2]at q;have q':(b1&&b2)=b:=dh q;rw[<-q',k _ _ _ _ h1 g1 p1,yF h2 g2 k p2];rfl
theorem zw(I:Inv X WH σ H s)(hm:HM X.K H M):∀(n:Nat) (x y:D) (v:V) (b:Bool),rN X.K H x v->rN X.K H y v->xx M n x y=some b->b=true
 | 0,_,_,_,_,_,_,e=>by cases e
 | n+1,x,y,v,b,hx,hy,e=>by
  unfold xx at e;split at e
  .exact(dh e).symm
  .rw[hx.mP]at hy;cases hy.mP;exact(dh e).symm.trans (by simp)
  .rw[hx.int_inv]at hy;cases hy.int_inv;exact(dh e).symm.trans (by simp)
  .rw[hx.str_inv]at hy;cases hy.str_inv;exact(dh e).symm.trans (by simp)
  .rw[hx.mQ]at hy;cases hy.mP
  .rw[hx.mQ]at hy;cases hy.int_inv
  .rw[hx.mQ]at hy;cases hy.str_inv
  .rw[hx.mP]at hy;cases hy.mQ
  .rw[hx.mP]at hy;cases hy.str_inv
  .rw[hx.int_inv]at hy;cases hy.mQ
  .rw[hx.int_inv]at hy;cases hy.str_inv
  .rw[hx.str_inv]at hy;cases hy.mQ
  .rw[hx.str_inv]at hy;cases hy.mP
  .rw[hx.str_inv]at hy;cases hy.int_inv
  .obtain⟨a,xs,rfl,h1,h2⟩:=hx.mT;obtain⟨a',ys,e',g1,g2⟩:=hy.mT;cases e';rw[I.nv g1 h1]at g2;cases p:sE (xx M n) _ _ with
   | none=>rw[p]at e;cases e
   | some b1=>rw[p]at e;have e':=dh e;rw[<-e',yF h2 g2 (zw I hm n) p,h2.length,g2.length];simp
  .rw[hx.mM]at hy;cases hy.mM;cases p:oM M _ with
   | none=>rw[p]at e;cases e
   | some i=>rw[p]at e;have e:(if i.length=i.length then sE (xx M n) i i else some false)=some b:=e;rw[df rfl]at e;obtain⟨xs,_,h2,_⟩:=qy hm p;exact yF h2 h2 (zw I hm n) e
  .cases e
theorem Bu{f:D->D->Option Bool}{A:Ar}:∀{ds es:List D} {xs ys:List V} {us ws:List Vl} {b:Bool},sE f ds es=some b->qk X.K H ds xs->qk X.K H es ys->qE xs us->qE ys ws->
  (∀x y b vx vy u w,f x y=some b->rN X.K H x vx->rN X.K H y vy->qJ vx u->qJ vy w->SeqAt.EqAt A s u w b)->
  ∃e:Nat->Bool,(∀j (h1:j<us.length) (h2:j<ws.length),SeqAt.EqAt A s us[j] ws[j] (e j))/\(List.range (min us.length ws.length)).all e=b
 | [],es,xs,ys,us,ws,b,q,hx,hy,rx,ry,k=>by
  have e1:=hx.nil_inv;subst e1;cases rx;refine⟨λ_=>true,λj h1=>absurd h1 (by simp),?_⟩;have q':some true=some b:=by cases es<;>exact q
  simpa using(dh q')
 | d::ds,[],xs,ys,us,ws,b,q,hx,hy,rx,ry,k=>by
  have e1:=hy.nil_inv;subst e1;cases ry;refine⟨λ_=>true,λj _ h2=>absurd h2 (by simp),?_⟩;have q':some true=some b:=q
  simpa using(dh q')
 | d::ds,e::es,xs,ys,us,ws,b,q,hx,hy,rx,ry,k=>by
  obtain⟨x,r,rfl,h1,h2⟩:=hx.inv;obtain⟨y,r',rfl,g1,g2⟩:=hy.inv;cases rx with
  | cons r1 r2=>
   cases ry with
   | cons t1 t2=>
    unfold sE at q;cases p1:f d e with
    | none=>rw[p1]at q;cases q
    | some b1=>
     rw[p1]at q;cases p2:sE f ds es with
     | none=>rw[p2]at q;cases q
     | some b2=>
      rw[p2]at q;have q':(b1&&b2)=b:=dh q;obtain⟨e',he,ha⟩:=Bu p2 h2 g2 r2 t2 k;refine⟨λj=>match j with|0=>b1|j+1=>e' j,λj l1 l2=>?_,?_⟩
      .cases j with
       | zero=>exact k _ _ _ _ _ _ _ p1 h1 g1 r1 t1
       | succ j=>exact he j (by simpa using l1) (by simpa using l2)
      .rw[<-q',<-ha];simp only[d9];rw[Nat.succ_min_succ,List.range_succ_eq_map,eW,jG];rfl
theorem Fs(I:Inv X WH σ H s)(hm:HM X.K H M):∀(n:Nat) (A:Ar) (x y:D) (b:Bool) (vx vy:V) (u w:Vl),A.units+n<cLine->xx M n x y=some b->rN X.K H x vx->rN X.K H y vy->qJ vx u->qJ vy w->
  SeqAt.RcAt A s u w b/\SeqAt.EqAt A s u w b/\SeqAt.RcNeAt A s u w (!b)
 | 0,_,_,_,_,_,_,_,_,_,e,_,_,_,_=>by cases e
 | n+1,A,x,y,b,vx,vy,u,w,hu,e,hx,hy,rx,ry=>by
  have hu1:A.units<cLine:=by omega
  have hui:A.in1.units+n<cLine:=by show A.units+1+n<cLine;omega
  unfold xx at e;split at e
  .cases hx.mQ;cases hy.mQ;cases rx;cases ry;cases e;exact⟨.none_none,.same _,.none_none⟩
  .cases hx.mP;cases hy.mP;cases rx;cases ry;cases e;exact⟨.bool_bool _ _,.bool_bool _ _,.bool_bool _ _⟩
  .cases hx.int_inv;cases hy.int_inv;obtain⟨t,rfl⟩:=rx;obtain⟨t',rfl⟩:=ry;cases e;exact⟨.int_int _ _ _ _,.int_int _ _ _ _,.int_int _ _ _ _⟩
  .cases hx.str_inv;cases hy.str_inv;obtain⟨t,rfl⟩:=rx;obtain⟨t',rfl⟩:=ry;cases e;exact⟨.str_str _ _ _ _,.str_str _ _ _ _,.str_str _ _ _ _⟩
  .cases hx.mQ;cases hy.mP;cases rx;cases ry;cases e;exact⟨.none_bool _,.none_bool _,.none_bool _⟩
  .cases hx.mQ;cases hy.int_inv;cases rx;obtain⟨t',rfl⟩:=ry;cases e;exact⟨.none_int _ _,.none_int _ _,.none_int _ _⟩
  .cases hx.mQ;cases hy.str_inv;cases rx;obtain⟨t',rfl⟩:=ry;cases e;exact⟨.none_str _ _,.none_str _ _,.none_str _ _⟩
  .cases hx.mP;cases hy.mQ;cases rx;cases ry;cases e;exact⟨.bool_none _,.bool_none _,.bool_none _⟩
  .cases hx.mP;cases hy.str_inv;cases rx;obtain⟨t',rfl⟩:=ry;cases e;exact⟨.bool_str _ _ _,.bool_str _ _ _,.bool_str _ _ _⟩
  .cases hx.int_inv;cases hy.mQ;obtain⟨t,rfl⟩:=rx;cases ry;cases e;exact⟨.int_none _ _,.int_none _ _,.int_none _ _⟩
  .cases hx.int_inv;cases hy.str_inv;obtain⟨t,rfl⟩:=rx;obtain⟨t',rfl⟩:=ry;cases e;exact⟨.int_str _ _ _ _,.int_str _ _ _ _,.int_str _ _ _ _⟩
  .cases hx.str_inv;cases hy.mQ;obtain⟨t,rfl⟩:=rx;cases ry;cases e;exact⟨.str_none _ _,.str_none _ _,.str_none _ _⟩
  .cases hx.str_inv;cases hy.mP;obtain⟨t,rfl⟩:=rx;cases ry;cases e;exact⟨.str_bool _ _ _,.str_bool _ _ _,.str_bool _ _ _⟩
  .cases hx.str_inv;cases hy.int_inv;obtain⟨t,rfl⟩:=rx;obtain⟨t',rfl⟩:=ry;cases e;exact⟨.str_int _ _ _ _,.str_int _ _ _ _,.str_int _ _ _ _⟩
  .rename_i da db;obtain⟨a1,xs,rfl,h1,h2⟩:=hx.mT;obtain⟨a2,ys,rfl,g1,g2⟩:=hy.mT;cases rx;cases ry;obtain⟨us,r1,p1,_⟩:=I.tuple h1;obtain⟨ws,r2,p2,_⟩:=I.tuple g1;cases p:sE (xx M n) da db with
   | none=>rw[p]at e;cases e
   | some b1=>
    have e0:=e;rw[p]at e;have e':(b1&&da.length==db.length)=b:=dh e;obtain⟨f,hf,ha⟩:=Bu (A:=A.in1) (s:=s) p h2 g2 r1 r2 λx y b vx vy u w q1 q2 q3 q4 q5=>(Fs I hm n A.in1 x y b vx vy u w hui q1 q2 q3 q4 q5).2.1;have hb:((List.range (min us.toArray.size ws.toArray.size)).all f&&us.toArray.size==ws.toArray.size)=b:=by rw[dw,dw,ha,<-e',<-r1.length,<-r2.length,h2.length,g2.length]
    have hf':∀j (l1:j<us.toArray.size) (l2:j<ws.toArray.size),SeqAt.EqAt A.in1 s us.toArray[j] ws.toArray[j] (f j):=λj l1 l2=>by simpa using hf j (by simpa using l1) (by simpa using l2)
    have c1:SeqAt.RcAt A s (.ref a1) (.ref a2) b:=by rw[<-hb];exact .tuples p1 p2 hu1 hf'
    have c3:SeqAt.RcNeAt A s (.ref a1) (.ref a2) (!b):=by have:=SeqAt.RcNeAt.tuples p1 p2 hu1 hf';rw[hb]at this;exact this
    refine⟨c1,?_,c3⟩;by_cases ea:a1=a2
    .subst ea;have:b=true:=zw I hm (n+1) (.tup da) (.tup db) (.ref a1) b hx hy (by unfold xx;exact e0);rw[this];exact .same _
    .exact .of_refs ea c1
  .cases hx.mM;cases hy.mM;cases rx;cases ry;rename_i a1 a2;have e0:=e;cases p:oM M a1 with
   | none=>rw[p]at e;cases e
   | some i=>
    cases p':oM M a2 with
    | none=>rw[p,p']at e;cases e
    | some j=>
     rw[p,p']at e;have e:(if i.length=j.length then sE (xx M n) i j else some false)=some b:=e;obtain⟨xs,q1,h2,_⟩:=qy hm p;obtain⟨ys,q2,g2,_⟩:=qy hm p';obtain⟨us,r1,p1,_⟩:=I.list q1;obtain⟨ws,r2,p2,_⟩:=I.list q2;have WM:SeqAt.RcAt A s (.ref a1) (.ref a2) b/\SeqAt.RcNeAt A s (.ref a1) (.ref a2) (!b):=by
      by_cases hl:i.length=j.length
      .rw[df hl]at e;obtain⟨f,hf,ha⟩:=Bu (A:=A.in1) (s:=s) e h2 g2 r1 r2 λx y b vx vy u w q1 q2 q3 q4 q5=>(Fs I hm n A.in1 x y b vx vy u w hui q1 q2 q3 q4 q5).2.1;have hsz:us.toArray.size=ws.toArray.size:=by rw[dw,dw,<-r1.length,<-r2.length,<-h2.length,<-g2.length];exact hl
       have hf':∀j (l1:j<us.toArray.size) (l2:j<ws.toArray.size),SeqAt.EqAt A.in1 s us.toArray[j] ws.toArray[j] (f j):=λj l1 l2=>by simpa using hf j (by simpa using l1) (by simpa using l2)
       have hb:(List.range us.toArray.size).all f=b:=by rw[<-ha];rw[dw,dw]at hsz;rw[dw,<-hsz,Nat.min_self]
       rw[<-hb];exact⟨.lists p1.isList p2.isList hsz hu1 hf',.lists p1.isList p2.isList hsz hu1 hf'⟩
      .rw[cZ hl]at e;cases e;have hsz:(us.toArray.size != ws.toArray.size)=true:=by
        rw[dw,dw,<-r1.length,<-r2.length,<-h2.length,<-g2.length]
        simpa using hl
       exact⟨.lists_lengths p1.isList p2.isList hsz hu1,.lists_lengths p1.isList p2.isList hsz hu1⟩
     refine⟨WM.1,?_,WM.2⟩;by_cases ea:a1=a2
     .subst ea;have:b=true:=zw I hm (n+1) (.ref a1) (.ref a1) (.ref a1) b .ref .ref (by unfold xx;exact e0);rw[this];exact .same _
     .exact .of_refs ea WM.1
  .cases e
def va:D->Bool
 | .mS=>true
 | .bl _=>true
 | .int _=>true
 | .str _=>true
 | _=>false
def Ow:D->D->Bool
 | .mS,.mS=>true
 | .bl a,.bl b=>a==b
 | .bl a,.int b=>(if a then 1 else 0)==b
 | .int a,.bl b=>a==(if b then 1 else 0)
 | .int a,.int b=>a==b
 | .str a,.str b=>a==b
 | _,_=>false
def inD(x:D)(ds:List D):Bool:=ds.any λy=>Ow y x
def MF(M:Mp):D->Option (List D)
 | .tup ds=>some ds
 | .ref a=>oM M a
 | .rl ds=>some ds
 | _=>none
def CK(i j:Str):Bool:=!(Builtin.Str.occurrences j i 0 j.length 1).isEmpty
def SE(Yh:Bool)(x y:D)(M:Mp)(Q:DK):Prop:=match x,y with
 | .str i,.str j=>Q (.bl (if Yh then !CK i j else CK i j)) M
 | _,_=>(MF M y).elim False λds=>va x=true/\ds.all va=true/\Q (.bl (if Yh then !inD x ds else inD x ds)) M
def PQ(op:CmpOp)(x y:D)(M:Mp)(Q:DK):Prop:=match op with
 | .Eq=>(xx M 9 x y).elim False λb=>Q (.bl b) M
 | .NotEq=>(xx M 9 x y).elim False λb=>Q (.bl (!b)) M
 | .Lt=>match x,y with|.int i,.int j=>Q (.bl (decide (i<j))) M|_,_=>False
 | .LtE=>match x,y with|.int i,.int j=>Q (.bl (decide (i<=j))) M|_,_=>False
 | .Gt=>match x,y with|.int i,.int j=>Q (.bl (decide (j<i))) M|_,_=>False
 | .GtE=>match x,y with|.int i,.int j=>Q (.bl (decide (j<=i))) M|_,_=>False
 | .Is=>match y with|.mS=>Q (.bl (match x with|.mS=>true|_=>false)) M|_=>False
 | .IsNot=>match y with|.mS=>Q (.bl (match x with|.mS=>false|_=>true)) M|_=>False
 | .In=>SE false x y M Q
 | .NotIn=>SE true x y M Q
def k3(op:CmpOp)(ta tb:T3):T3:=λδ M Q=>ta δ M λx M1=>tb δ M1 λy M2=>PQ op x y M2 Q
def zg{d:D}{v:V}(h:rN K H d v)(f:va d=true):yp v=true:=by
 cases d with
 | mS=>rw[h.mQ];rfl
 | bl _=>rw[h.mP];rfl
 | int _=>rw[h.int_inv];rfl
 | str _=>rw[h.str_inv];rfl
 | _=>cases f
def Jb{d e:D}{v w:V}(h:rN K H d v)(g:rN K H e w)(f:va d=true)(f':va e=true):NE v w=Ow d e:=by
 cases d with
 | mS=>
  rw[h.mQ];cases e with
  | mS=>rw[g.mQ];rfl
  | bl _=>rw[g.mP];rfl
  | int _=>rw[g.int_inv];rfl
  | str _=>rw[g.str_inv];rfl
  | _=>cases f'
 | bl _=>
  rw[h.mP];cases e with
  | mS=>rw[g.mQ];rfl
  | bl _=>rw[g.mP];rfl
  | int _=>rw[g.int_inv];rfl
  | str _=>rw[g.str_inv];rfl
  | _=>cases f'
 | int _=>
  rw[h.int_inv];cases e with
  | mS=>rw[g.mQ];rfl
  | bl _=>rw[g.mP];rfl
  | int _=>rw[g.int_inv];rfl
  | str _=>rw[g.str_inv];rfl
  | _=>cases f'
 | str _=>
  rw[h.str_inv];cases e with
  | mS=>rw[g.mQ];rfl
  | bl _=>rw[g.mP];rfl
  | int _=>rw[g.int_inv];rfl
  | str _=>rw[g.str_inv];rfl
  | _=>cases f'
 | _=>cases f
theorem ED:∀{ds:List D} {xs:List V},qk K H ds xs->ds.all va=true->xs.all yp=true
 | [],_,h,_=>by rw[h.nil_inv];rfl
 | d::ds,_,h,f=>by obtain⟨x,r,rfl,h1,h2⟩:=h.inv;rw[eW,dU]at f ⊢;exact⟨zg h1 f.1,ED h2 f.2⟩
theorem KO{e:D}{w:V}(g:rN K H e w)(f':va e=true):∀{ds:List D} {xs:List V},qk K H ds xs->ds.all va=true->inV w xs=inD e ds
 | [],_,h,_=>by rw[h.nil_inv];rfl
 | d::ds,_,h,f=>by obtain⟨x,r,rfl,h1,h2⟩:=h.inv;rw[eW,dU]at f;show(NE x w||inV w r)=(Ow d e||inD e ds);rw[Jb h1 g f.1 f',KO g f' h2 f.2]
def ES(hm:HM K H M){y:D}{v:V}{ds:List D}(h:rN K H y v)(q:MF M y=some ds):∃p xs,v=.ref p/\(yT K H p xs\/ve K H p xs)/\qk K H ds xs:=by
 cases y with
 | tup es=>cases q;obtain⟨a,xs,rfl,h1,h2⟩:=h.mT;exact⟨a,xs,rfl,.inr h1,h2⟩
 | ref a=>cases h.mM;obtain⟨xs,h1,h2,_⟩:=qy hm q;exact⟨a,xs,rfl,.inl h1,h2⟩
 | rl es=>cases q;obtain⟨a,xs,rfl,h1,h2⟩:=h.nj;exact⟨a,xs,rfl,.inl h1.sq,h2⟩
 | _=>cases q
variable {c:Expr}{tc:T3}
section
def Kk(op:CmpOp)(hu:X.A.units+9<cLine):xp X (compareOp op) (R3 X.K (PQ op)):=by
 intro WH s σ H vx vy v u Q' I rx ry h;obtain⟨x,y,M,Q,hx,hy,hm,q,k⟩:=h;have bk:∀b,Q (.bl b) M->EP X WH σ Q' (.bool b) s:=λb q=>⟨.bl b,H,I,rfl,k _ _ _ _ .bl hm .refl q⟩;have inn:∀Yh:Bool,((MF M y).elim False λds=>va x=true/\ds.all va=true/\Q (.bl (if Yh then !inD x ds else inD x ds)) M)->VL X.K Yh vx vy H Q':=λYh q=>by obtain⟨ds,e,f1,f2,q⟩:=qX q;obtain⟨p,xs,rfl,h1,h2⟩:=ES hm hy e;refine⟨p,xs,rfl,h1,zg hx f1,ED h2 f2,?_⟩;rw[KO hx f1 h2 f2];exact k _ _ _ _ .bl hm .refl q
 cases op with
 | Eq=>obtain⟨b,e,q⟩:=qX q;exact(Fs I hm 9 X.A x y b vx vy v u hu e hx hy rx ry).1 _ _ _ _ (bk b q)
 | NotEq=>obtain⟨b,e,q⟩:=qX q;exact(Fs I hm 9 X.A x y b vx vy v u hu e hx hy rx ry).2.2 _ _ _ _ (bk _ q)
 | Lt=>
  cases x<;>first|exact q.elim|skip
  cases y<;>first|exact q.elim|skip
  cases hx.int_inv;cases hy.int_inv;exact Ub WH s σ H _ _ v u Q' I rx ry ⟨_,_,rfl,rfl,k _ _ _ _ .bl hm .refl q⟩
 | LtE=>
  cases x<;>first|exact q.elim|skip
  cases y<;>first|exact q.elim|skip
  cases hx.int_inv;cases hy.int_inv;exact S8 WH s σ H _ _ v u Q' I rx ry ⟨_,_,rfl,rfl,k _ _ _ _ .bl hm .refl q⟩
 | Gt=>
  cases x<;>first|exact q.elim|skip
  cases y<;>first|exact q.elim|skip
  cases hx.int_inv;cases hy.int_inv;exact Tr WH s σ H _ _ v u Q' I rx ry ⟨_,_,rfl,rfl,k _ _ _ _ .bl hm .refl q⟩
 | GtE=>
  cases x<;>first|exact q.elim|skip
  cases y<;>first|exact q.elim|skip
  cases hx.int_inv;cases hy.int_inv;exact T1 WH s σ H _ _ v u Q' I rx ry ⟨_,_,rfl,rfl,k _ _ _ _ .bl hm .refl q⟩
 | Is=>
  cases y<;>first|exact q.elim|skip
  cases hy.mQ;refine Sm WH s σ H _ _ v u Q' I rx ry ⟨rfl,k _ _ _ _ ?_ hm .refl q⟩;cases x with
  | mS=>rw[hx.mQ];exact .bl
  | bl _=>rw[hx.mP];exact .bl
  | int _=>rw[hx.int_inv];exact .bl
  | str _=>rw[hx.str_inv];exact .bl
  | tup _=>obtain⟨a,xs,rfl,_⟩:=hx.mT;exact .bl
  | ref _=>rw[hx.mM];exact .bl
  | ty _=>rw[hx.nU];exact .bl
  | rl _=>obtain⟨a,xs,rfl,_⟩:=hx.nj;exact .bl
 | IsNot=>
  cases y<;>first|exact q.elim|skip
  cases hy.mQ;refine Pv WH s σ H _ _ v u Q' I rx ry ⟨rfl,k _ _ _ _ ?_ hm .refl q⟩;cases x with
  | mS=>rw[hx.mQ];exact .bl
  | bl _=>rw[hx.mP];exact .bl
  | int _=>rw[hx.int_inv];exact .bl
  | str _=>rw[hx.str_inv];exact .bl
  | tup _=>obtain⟨a,xs,rfl,_⟩:=hx.mT;exact .bl
  | ref _=>rw[hx.mM];exact .bl
  | ty _=>rw[hx.nU];exact .bl
  | rl _=>obtain⟨a,xs,rfl,_⟩:=hx.nj;exact .bl
 | In=>
  have q:SE false x y M Q:=q;unfold SE at q;split at q
  .cases hx.str_inv;cases hy.str_inv;exact JJ WH s σ H _ _ v u Q' I rx ry ⟨_,_,rfl,rfl,k _ _ _ _ .bl hm .refl q⟩
  .exact Ks WH s σ H _ _ v u Q' I rx ry (inn false q)
 | NotIn=>
  have q:SE true x y M Q:=q;unfold SE at q;split at q
  .cases hx.str_inv;cases hy.str_inv;exact Fp WH s σ H _ _ v u Q' I rx ry ⟨_,_,rfl,rfl,k _ _ _ _ .bl hm .refl q⟩
  .exact Eg WH s σ H _ _ v u Q' I rx ry (inn true q)
variable {a b:Expr}
def pZ{op:CmpOp}(hu:X.A.units+9<cLine)(ha:E3 X a ta)(hb:E3 X b tb)(hm:behindInMarks op b=false:=by first|exact BZ _|with_unfolding_all rfl):E3 X (.Compare a [op] [b] pos) (k3 op ta tb):=PE.mono (Fk (Kk op hu) ha hb hm) EA
def b3(t:T3):Az:=λδ M Q=>t δ M λd M1=>match d with|.bl c=>Q c M1|_=>False
def uI{e:Expr}{t:T3}(h:E3 X e t)(he:∀Xf,isTrue e X.env Xf=(do let v<-Xf;standAt e.pos;holding [v] (truthy v)):=by intro _;rfl):B3 X e (b3 t):=PT.mono (RL h he) λσ H Q' zz=>x7 zz λδ M Q hs hm ht k=>
 ⟨δ,M,_,hs,hm,ht,λv H1 d M1 hd WJ e1 q1=>by
  cases d with
  | bl c=>exact⟨c,hd.mP,k c H1 M1 WJ e1 q1⟩
  | _=>exact q1.elim⟩
def pG{op:CmpOp}(hu:X.A.units+9<cLine)(ha:E3 X a ta)(hb:E3 X b tb)(hm:behindInMarks op b=false:=by first|exact BZ _|with_unfolding_all rfl):B3 X (.Compare a [op] [b] pos) (b3 (k3 op ta tb)):=PT.mono (D4 (Kk op hu) ha hb hm) λσ H Q' zz=>x7 zz λδ M Q hs hm ht k=>
 EA σ H _ ⟨δ,M,_,hs,hm,ht,λv H1 d M1 hd WJ e1 q1=>by
  cases d with
  | bl c=>exact⟨c,hd.mP,k c H1 M1 WJ e1 q1⟩
  | _=>exact q1.elim⟩
end
variable {tA tB:Az}{rest:List Expr}
section
variable {a b:Expr}
def Pc(t u:Az):Az:=λδ M Q=>t δ M λc M1=>if c=true then u δ M1 Q else Q false M1
def Wj(t u:Az):Az:=λδ M Q=>t δ M λc M1=>if c=true then Q true M1 else u δ M1 Q
def Se(t:Az):Az:=λδ M Q=>t δ M λc M1=>Q (!c) M1
def W3(X:Cx)(e:Expr)(t:Az):Prop:=PW X e (SR X.K t)
def PW.mono{X:Cx}{e:Expr}{t t':TT}(h:PW X e t)(m:∀σ H Q,t' σ H Q->t σ H Q):PW X e t':=λwh WH s σ H Q I q=>h wh WH s σ H Q I (m σ H Q q)
def W3.b3{e:Expr}{t:Az}(h:W3 X e t):B3 X e t:=PW.pt h
def vI(h:B3 X a tA):W3 X (.BoolOp .And [a] pos) tA:=OV h
def wR(h:B3 X a tA):W3 X (.BoolOp .Or [a] pos) tA:=Q1 h
def wI(ha:B3 X a tA)(hb:W3 X (.BoolOp .And (b::rest) pos) tB):W3 X (.BoolOp .And (a::b::rest) pos) (Pc tA tB):=PW.mono (Su ha hb) λσ H Q' zz=>x7 zz λδ M Q hs hm ht k=>
 ⟨δ,M,_,hs,hm,ht,λc H1 M1 WJ e1 q1=>by
  cases c with
  | true=>exact(df rfl).mpr ⟨δ,M1,Q,hs.mono e1,WJ,(df rfl).mp q1,λb H' M' x1 x2 x3=>k b H' M' x1 (e1.trans x2) x3⟩
  | false=>exact(cZ dB).mpr (k false H1 M1 WJ e1 ((cZ dB).mp q1))⟩
def xQ(ha:B3 X a tA)(hb:W3 X (.BoolOp .Or (b::rest) pos) tB):W3 X (.BoolOp .Or (a::b::rest) pos) (Wj tA tB):=PW.mono (Ta ha hb) λσ H Q' zz=>x7 zz λδ M Q hs hm ht k=>
 ⟨δ,M,_,hs,hm,ht,λc H1 M1 WJ e1 q1=>by
  cases c with
  | true=>exact(df rfl).mpr (k true H1 M1 WJ e1 ((df rfl).mp q1))
  | false=>exact(cZ dB).mpr ⟨δ,M1,Q,hs.mono e1,WJ,(cZ dB).mp q1,λb H' M' x1 x2 x3=>k b H' M' x1 (e1.trans x2) x3⟩⟩
def vT(ha:B3 X a tA):B3 X (.UnaryOp .Not a pos) (Se tA):=PT.mono (RD ha) λσ H Q' zz=>x7 zz λδ M Q hs hm ht k=>⟨δ,M,_,hs,hm,ht,λc H1 M1 WJ e1 q1=>k _ H1 M1 WJ e1 q1⟩
def Ul(ta tb:T3):T3:=λδ M Q=>ta δ M λd M1=>match d with|.bl c=>if c=true then tb δ M1 Q else Q (.bl false) M1|_=>False
def VS(ta tb:T3):T3:=λδ M Q=>ta δ M λd M1=>match d with|.bl c=>if c=true then Q (.bl true) M1 else tb δ M1 Q|_=>False
def TN(ta:T3):T3:=λδ M Q=>ta δ M λd M1=>match d with|.bl c=>Q (.bl (!c)) M1|_=>False
def rY{op}(h:E3 X a ta):E3 X (.BoolOp op [a] pos) ta:=SL h
def sF(ha:E3 X a ta)(hb:E3 X (.BoolOp .And (b::rest) pos) tb):E3 X (.BoolOp .And (a::b::rest) pos) (Ul ta tb):=PE.mono (R9 ha hb) λσ H Q' zz=>x7 zz λδ M Q hs hm ht k=>
 ⟨δ,M,_,hs,hm,ht,λv H1 d M1 hd WJ e1 q1=>by
  cases d with
  | bl c=>
   refine⟨c,hd.mP,?_⟩;cases c with
   | true=>exact(df rfl).mpr ⟨δ,M1,Q,hs.mono e1,WJ,(df rfl).mp q1,vK e1 k⟩
   | false=>exact(cZ dB).mpr (k _ H1 _ M1 .bl WJ e1 ((cZ dB).mp q1))
  | _=>exact q1.elim⟩
def GJ(ha:E3 X a ta)(hb:E3 X (.BoolOp .Or (b::rest) pos) tb):E3 X (.BoolOp .Or (a::b::rest) pos) (VS ta tb):=PE.mono (Uj ha hb) λσ H Q' zz=>x7 zz λδ M Q hs hm ht k=>
 ⟨δ,M,_,hs,hm,ht,λv H1 d M1 hd WJ e1 q1=>by
  cases d with
  | bl c=>
   refine⟨c,hd.mP,?_⟩;cases c with
   | true=>exact(df rfl).mpr (k _ H1 _ M1 .bl WJ e1 ((df rfl).mp q1))
   | false=>exact(cZ dB).mpr ⟨δ,M1,Q,hs.mono e1,WJ,(cZ dB).mp q1,vK e1 k⟩
  | _=>exact q1.elim⟩
def LJ(ha:E3 X a ta):E3 X (.UnaryOp .Not a pos) (TN ta):=PE.mono (SA ha) λσ H Q' zz=>x7 zz λδ M Q hs hm ht k=>
 ⟨δ,M,_,hs,hm,ht,λv H1 d M1 hd WJ e1 q1=>by
  cases d with
  | bl c=>exact⟨c,hd.mP,k _ H1 _ M1 .bl WJ e1 q1⟩
  | _=>exact q1.elim⟩
def WA(t:Az)(ta tb:T3):T3:=λδ M Q=>t δ M λc M1=>if c=true then ta δ M1 Q else tb δ M1 Q
def Qy(hc:B3 X c tA)(ha:E3 X a ta)(hb:E3 X b tb):E3 X (.IfExp c a b pos) (WA tA ta tb):=PE.mono (K0 hc ha hb) λσ H Q' zz=>x7 zz λδ M Q hs hm ht k=>
 ⟨δ,M,_,hs,hm,ht,λc H1 M1 WJ e1 q1=>by
  cases c with
  | true=>exact(df rfl).mpr ⟨δ,M1,Q,hs.mono e1,WJ,(df rfl).mp q1,vK e1 k⟩
  | false=>exact(cZ dB).mpr ⟨δ,M1,Q,hs.mono e1,WJ,(cZ dB).mp q1,vK e1 k⟩⟩
def Vd(x y:D)(M:Mp)(Q:DK):Prop:=match x,y with
 | .tup ds,.int i=>(vC ds i).elim False λd=>Q d M
 | .ref a,.int i=>(oM M a).elim False λds=>(vC ds i).elim False λd=>Q d M
 | .rl ds,.int i=>(vC ds i).elim False λd=>Q d M
 | .str z,.int i=>z.length<=sizeLine/\(vC z.cps.toList i).elim False λc=>Q (.str ⟨#[c]⟩) M
 | _,_=>False
def i3(ta tb:T3):T3:=λδ M Q=>ta δ M λx M1=>tb δ M1 λy M2=>Vd x y M2 Q
def Fi{K:qu}{H:Hp}{ds:List D}{xs:List V}{i:Int}{d:D}(h:qk K H ds xs)(e:vC ds i=some d):∃v,vC xs i=some v/\rN K H d v:=by
 unfold vC at e ⊢;rw[<-h.length];cases q:GH ds.length i with
 | none=>rw[q]at e;cases e
 | some j=>rw[q]at e;exact h.get e
def Ww:SW X (R3 X.K Vd):=by
 intro value WR WH s σ H vx vy v u Q' I rx ry h hs;obtain⟨x,y,M,Q,hx,hy,hm,q,k⟩:=h;unfold Vd at q;split at q
 .obtain⟨d,e,q⟩:=qX q;obtain⟨p,xs,rfl,h1,h2⟩:=hx.mT;cases hy.int_inv;obtain⟨w,e1,e2⟩:=Fi h2 e;exact Sb value WR WH s σ H _ _ v u Q' I rx ry ⟨p,xs,_,w,rfl,rfl,h1,e1,k _ _ _ _ e2 hm .refl q⟩ hs
 .obtain⟨ds,e0,q⟩:=qX q;obtain⟨d,e,q⟩:=qX q;cases hx.mM;cases hy.int_inv;obtain⟨xs,h1,h2,_⟩:=qy hm e0;obtain⟨w,e1,e2⟩:=Fi h2 e;exact Iq value WR WH s σ H _ _ v u Q' I rx ry ⟨_,xs,_,w,rfl,rfl,h1,e1,k _ _ _ _ e2 hm .refl q⟩ hs
 .obtain⟨d,e,q⟩:=qX q;obtain⟨p,xs,rfl,h1,h2⟩:=hx.nj;cases hy.int_inv;obtain⟨w,e1,e2⟩:=Fi h2 e;exact Iq value WR WH s σ H _ _ v u Q' I rx ry ⟨p,xs,_,w,rfl,rfl,h1.sq,e1,k _ _ _ _ e2 hm .refl q⟩ hs
 .obtain⟨q1,q⟩:=q;obtain⟨c,e,q⟩:=qX q;cases hx.str_inv;cases hy.int_inv;exact SM value WR WH s σ H _ _ v u Q' I rx ry ⟨_,_,c,rfl,rfl,q1,e,k _ _ _ _ .str hm .refl q⟩ hs
 .exact q.elim
def pK(ha:E3 X a ta)(hb:E3 X b tb)(hs:Bf b:=by exact λ_ _=>rfl):E3 X (.Subscript a b pos) (i3 ta tb):=PE.mono (Lg Ww ha hb hs) EA
def uR(ds:List D)(lo hi:Option Int):List D:=(ds.drop (HT.tw ds.length 0 lo)).take (HT.tw ds.length ds.length hi - HT.tw ds.length 0 lo)
def Ed{K:qu}{H:Hp}{ds:List D}{xs:List V}{l h:Option Int}(q:qk K H ds xs):qk K H (uR ds l h) (BK xs l h):=by unfold uR BK;rw[q.length];exact(q.drop _).take _
abbrev SU:=vo->Mp->(Option Int->Mp->Prop)->Prop
def Wz(K:qu)(t:SU):TO:=λσ H Q'=>CQ λδ M Q=>zL K H σ δ/\HM K H M/\t δ M Q/\∀o H' M',HM K H' M'->qQ K H H'->Q o M'->Q' o H'
def O3(X:Cx)(e:Option Expr)(t:SU):Prop:=PO X e (Wz X.K t)
def OP:SU:=λ_ M Q=>Q none M
def UE(t:T3):SU:=λδ M Q=>t δ M λd M1=>match d with|.int i=>Q (some i) M1|_=>False
def PO.mono{X:Cx}{e:Option Expr}{t t':TO}(h:PO X e t)(m:∀σ H Q,t' σ H Q->t σ H Q):PO X e t':=λWH s σ H Q I q=>h WH s σ H Q I (m σ H Q q)
def sT:O3 X none OP:=PO.mono O7 λσ H Q' zz=>x7 zz λδ M Q hs hm ht k=>k none H M hm .refl ht
def sS{e:Expr}{t:T3}(h:E3 X e t):O3 X (some e) (UE t):=PO.mono (O1 h) λσ H Q' zz=>x7 zz λδ M Q hs hm ht k=>
 ⟨δ,M,_,hs,hm,ht,λv H1 d M1 hd WJ e1 q1=>by
  cases d with
  | int i=>exact⟨i,hd.int_inv,k (some i) H1 M1 WJ e1 q1⟩
  | _=>exact q1.elim⟩
def Wg(x:D)(lo hi:Option Int)(M:Mp)(Q:DK):Prop:=match x with
 | .tup ds=>Q (.tup (uR ds lo hi)) M
 | .ref a=>(oM M a).elim False λds=>∀p,M p=none->Q (.ref p) (pF M p (.lst (uR ds lo hi)))
 | .rl ds=>∀p,M p=none->Q (.ref p) (pF M p (.lst (uR ds lo hi)))
 | _=>False
def s3(te:T3)(tl th:SU):T3:=λδ M Q=>te δ M λx M1=>tl δ M1 λl M2=>th δ M2 λu M3=>Wg x l u M3 Q
def VP(K:qu):V->Option Int->Option Int->Hp->VK->Prop:=λvx l u H Q'=>CQ λx M Q=>rN K H x vx/\HM K H M/\Wg x l u M Q/\Up K H Q' Q
def PC{ds:List D}{lo hi:Option Int}(h:HT.tw ds.length 0 lo=0/\HT.tw ds.length ds.length hi=ds.length):uR ds lo hi=ds:=by unfold uR;rw[h.1,h.2,kg,kW,fg]
def Vo:TX X (VP X.K):=by
 intro WH s σ H vx v vl vu l u sl Q' I rx YX pl pu h;obtain⟨x,M,Q,hx,hm,q,k⟩:=h;cases x with
 | tup ds=>
  have q2:Q (.tup (uR ds l u)) M:=q;obtain⟨a,xs,rfl,h1,h2⟩:=hx.mT;by_cases q1:HT.tw ds.length 0 l=0/\HT.tw ds.length ds.length u=ds.length
  .rw[PC q1]at q2;exact Sl WH s σ H _ v vl vu l u sl Q' I rx YX pl pu ⟨a,xs,rfl,h1,by rw[<-h2.length];exact q1,k _ _ _ _ hx hm .refl q2⟩
  refine Rx WH s σ H _ v vl vu l u sl Q' I rx YX pl pu ⟨a,xs,rfl,h1,by rw[<-h2.length];exact q1,λp hp=>?_⟩;have e:qQ X.K H (upd H p (.tup (BK xs l u))):=.new hp;exact k _ _ _ _ (.tup (.of qh) ((Ed h2).mono e)) (hm.add hp) e q2
 | ref a=>obtain⟨ds,e0,q⟩:=qX q;cases hx.mM;obtain⟨xs,h1,h2,_⟩:=qy hm e0;refine Ju WH s σ H _ v vl vu l u sl Q' I rx YX pl pu ⟨a,xs,rfl,h1,λp hp=>?_⟩;have e:qQ X.K H (upd H p (.lst (BK xs l u))):=.new hp;exact k _ _ _ _ .ref (hm.new (c:=.lst (uR ds l u)) hp ⟨_,qh,(Ed h2).mono e⟩) e (q p (hm.fresh hp))
 | rl ds=>obtain⟨a,xs,rfl,h1,h2⟩:=hx.nj;refine Ju WH s σ H _ v vl vu l u sl Q' I rx YX pl pu ⟨a,xs,rfl,h1.sq,λp hp=>?_⟩;have e:qQ X.K H (upd H p (.lst (BK xs l u))):=.new hp;exact k _ _ _ _ .ref (hm.new (c:=.lst (uR ds l u)) hp ⟨_,qh,(Ed h2).mono e⟩) e (q p (hm.fresh hp))
 | _=>exact q.elim
def rW{e:Expr}{te:T3}{lo hi:Option Expr}{tl th:SU}{p2:Pos}(he:E3 X e te)(hl:O3 X lo tl)(hu:O3 X hi th):E3 X (.Subscript e (.Slice lo hi none p2) pos) (s3 te tl th):=PE.mono (Ln Vo he hl hu) λσ H Q' zz=>x7 zz λδ M Q hs hm ht k=>⟨δ,M,_,hs,hm,ht,λv H1 x M1 hx WJ e1 q1=>⟨δ,M1,_,hs.mono e1,WJ,q1,λl H2 M2 WZ e2 q2=>⟨δ,M2,_,hs.mono (e1.trans e2),WZ,q2,λu H3 M3 XC e3 q3=>⟨x,M3,Q,hx.mono (e2.trans e3),XC,q3,vK (e1.trans (e2.trans e3)) k⟩⟩⟩⟩
def uT:xC:=λ_ M Q=>Q [] M
def sf(ta:T3)(tr:xC):xC:=λδ M Q=>ta δ M λx M1=>tr δ M1 λxs M2=>Q (x::xs) M2
def sX:A3 X [] uT:=PA.mono QP λσ H Q' zz=>x7 zz λδ M Q hs hm ht k=>k [] H [] M .nil hm .refl ht
def pV{e:Expr}{es:List Expr}{te:T3}{t:xC}(ha:E3 X e te)(hr:A3 X es t)(hs:Bb X e es:=by rfl):A3 X (e::es) (sf te t):=PA.mono (OC ha hr hs) λσ H Q' zz=>x7 zz λδ M Q hs hm ht k=>⟨δ,M,_,hs,hm,ht,λv H1 x M1 hx WJ e1 q1=>⟨δ,M1,_,hs.mono e1,WJ,q1,λvs H2 xs M2 ZF WZ e2 q2=>k _ H2 _ M2 (.cons (hx.mono e2) ZF) WZ (e1.trans e2) q2⟩⟩
def RX(t:xC):T3:=λδ M Q=>t δ M λds M1=>ds.length<=sizeLine/\Q (.tup ds) M1
def UH(t:xC):T3:=λδ M Q=>t δ M λds M1=>ds.length<=sizeLine/\∀p,M1 p=none->Q (.ref p) (pF M1 p (.lst ds))
def pM{x1}{es:List Expr}{t:xC}(h:A3 X es t):E3 X (.Tuple es x1 pos) (RX t):=PE.mono (RA h) λσ H Q' zz=>x7 zz λδ M Q hs hm ht k=>
 ⟨δ,M,_,hs,hm,ht,λvs H1 ds M1 XY WJ e1 q1=>⟨by rw[<-XY.length];exact q1.1,λp hp=>by
  have e:qQ X.K H1 (upd H1 p (.tup vs)):=.new hp;exact k _ _ _ M1 (.tup (.of qh) (XY.mono e)) (WJ.add hp) (e1.trans e) q1.2⟩⟩
def qP{es:List Expr}{t:xC}(h:A3 X es t):E3 X (.List es pos) (UH t):=PE.mono (QR h) λσ H Q' zz=>x7 zz λδ M Q hs hm ht k=>
 ⟨δ,M,_,hs,hm,ht,λvs H1 ds M1 XY WJ e1 q1=>⟨by rw[<-XY.length];exact q1.1,λp hp=>by
  have e:qQ X.K H1 (upd H1 p (.lst vs)):=.new hp;exact k _ _ _ _ .ref (WJ.new (c:=.lst ds) hp ⟨_,qh,XY.mono e⟩) (e1.trans e) (q1.2 p (WJ.fresh hp))⟩⟩
def uD(t u:xA):xA:=λD δ M=>t {D with nx:=u D} δ M
def UN:xA:=λD δ M=>D.nx δ M
def pJ:G6 X [] UN:=B6.mono Ou λD' σ H zz=>KH zz λδ M D hs hm ht k1 k2 k3 k4=>k1 σ H δ M hs hm .refl rfl ht
def pj{st:Stmt}{rest:List Stmt}{t u:xA}(h1:S3 X st t)(h2:G6 X rest u):G6 X (st::rest) (uD t u):=B6.mono (Nd h1 h2) λD' σ H zz=>KH zz λδ M D hs hm ht k1 k2 k3 k4=>
 ⟨δ,M,{D with nx:=u D},hs,hm,ht,λσ1 H1 δ1 M1 ZG WJ e1 l1 q1=>⟨δ1,M1,D,ZG,WJ,q1,λσ' H' δ' M' x1 x2 x3 x4 x5=>k1 σ' H' δ' M' x1 x2 (e1.trans x3) (x4.trans l1) x5,λv H' d M' x1 x2 x3 x4=>k2 v H' d M' x1 x2 (e1.trans x3) x4,λσ' H' δ' M' x1 x2 x3 x4 x5=>k3 σ' H' δ' M' x1 x2 (e1.trans x3) (x4.trans l1) x5,λσ' H' δ' M' x1 x2 x3 x4 x5=>k4 σ' H' δ' M' x1 x2 (e1.trans x3) (x4.trans l1) x5⟩,k2,k3,k4⟩
def pk{st:Stmt}{t:xA}(h1:S3 X st t):G6 X [st] t:=B6.mono (I9 h1) λD' σ H h=>h
def QD(te:T3):xA:=λD δ M=>te δ M λ_ M1=>D.nx δ M1
def pO{e:Expr}{te:T3}(he:E3 X e te)(Yd:swapsWith e none pos.line X.env=pure false:=by rfl):S3 X (.Expr e pos) (QD te):=PS.mono (PH he Yd) λD' σ H zz=>KH zz λδ M D hs hm ht k1 k2 k3 k4=>⟨δ,M,_,hs,hm,ht,λv H1 d M1 hd WJ e1 q1=>k1 σ H1 δ M1 (hs.mono e1) WJ e1 rfl q1⟩
def O8(te:T3):xA:=λD δ M=>te δ M D.rt
def pD{e:Expr}{te:T3}(he:E3 X e te):S3 X (.Return (some e) pos) (O8 te):=PS.mono (RH he) λD' σ H zz=>KH zz λδ M D hs hm ht k1 k2 k3 k4=>⟨δ,M,_,hs,hm,ht,λv H1 d M1 hd WJ e1 q1=>k2 v H1 d M1 hd WJ e1 q1⟩
def Nc(c:Az)(t u:xA):xA:=λD δ M=>c δ M λb M1=>if b=true then t D δ M1 else u D δ M1
def pQ{c:Expr}{as bs:List Stmt}{tc:Az}{t u:xA}(hc:B3 X c tc)(ha:G6 X as t)(hb:G6 X bs u):S3 X (.If c as bs pos) (Nc tc t u):=PS.mono (Tn hc ha hb) λD' σ H zz=>KH zz λδ M D hs hm ht k1 k2 k3 k4=>
 ⟨δ,M,_,hs,hm,ht,λb H1 M1 WJ e1 q1=>by
  have up:∀t:xA,t D δ M1->US X.K t D' σ H1:=λt q=>⟨δ,M1,D,hs.mono e1,WJ,q,λσ' H' δ' M' x1 x2 x3 x4 x5=>k1 σ' H' δ' M' x1 x2 (e1.trans x3) x4 x5,λv H' d M' x1 x2 x3 x4=>k2 v H' d M' x1 x2 (e1.trans x3) x4,λσ' H' δ' M' x1 x2 x3 x4 x5=>k3 σ' H' δ' M' x1 x2 (e1.trans x3) x4 x5,λσ' H' δ' M' x1 x2 x3 x4 x5=>k4 σ' H' δ' M' x1 x2 (e1.trans x3) x4 x5⟩
  cases b with
  | true=>exact(df rfl).mpr (up t ((df rfl).mp q1))
  | false=>exact(cZ dB).mpr (up u ((cZ dB).mp q1))⟩
def Ss:xA:=λ_ _ _=>False
def FX{st:Stmt}:S3 X st Ss:=PS.mono LN λD' σ H ⟨δ,M,D,hs,hm,ht,_⟩=>ht
abbrev Dp:=D->vo->Mp->(vo->Mp->Prop)->Prop
def UX(K:qu)(g:Dp):TG:=λv σ H Q'=>Ba λd δ M Q=>rN K H d v/\zL K H σ δ/\HM K H M/\g d δ M Q/\∀σ' H' δ' M',zL K H' σ' δ'->HM K H' M'->qQ K H H'->σ'.length=σ.length->Q δ' M'->Q' σ' H'
def G3(X:Cx)(e:Expr)(g:Dp):Prop:=PG X e (UX X.K g)
def PG.nR{X:Cx}{e:Expr}{t t':TG}(h:PG X e t)(m:∀v σ H Q,σ.length=X.N.length->t' v σ H Q->t v σ H Q):PG X e t':=λWH s σ H v u Q I r q=>h WH s σ H v u Q I r (m v σ H Q I.len q)
def sP(i:Nat):Dp:=λd δ M Q=>Q (δ.set i (some d)) M
def Jf{i:Nat}{x:Str}(hN:X.N.Nodup)(hi:X.N[i]?=some x)(hx:Lc X.env.scope x)(hf:Nq X x:=by first|exact .inl rfl|exact .inr rfl|assumption):G3 X (.Name x pos) (sP i):=
 PG.nR (ON hN hi hx hf) λv σ H Q' hl ⟨d,δ,M,Q,hd,hs,hm,ht,k⟩=>k _ H _ M (hs.set hd (by rw[hl];exact(c9.mp hi).1)) hm .refl (by simp) ht
abbrev GB:=List D->vo->Mp->(vo->Mp->Prop)->Prop
def VO(K:qu)(g:GB):Pz:=λvs σ H Q'=>Ba λds δ M Q=>qk K H ds vs/\zL K H σ δ/\HM K H M/\g ds δ M Q/\∀σ' H' δ' M',zL K H' σ' δ'->HM K H' M'->qQ K H H'->σ'.length=σ.length->Q δ' M'->Q' σ' H'
def UU(X:Cx)(es:List Expr)(g:GB):Prop:=NG X es (VO X.K g)
def NG.mono{X:Cx}{e:List Expr}{t t':Pz}(h:NG X e t)(m:∀v σ H Q,t' v σ H Q->t v σ H Q):NG X e t':=λWH s σ H v u Q I r q=>h WH s σ H v u Q I r (m v σ H Q q)
def PG.mono{X:Cx}{e:Expr}{t t':TG}(h:PG X e t)(m:∀v σ H Q,t' v σ H Q->t v σ H Q):PG X e t':=λWH s σ H v u Q I r q=>h WH s σ H v u Q I r (m v σ H Q q)
def Jo:GB:=λds δ M Q=>match ds with|[]=>Q δ M|_=>False
def BL(t:Dp)(u:GB):GB:=λds δ M Q=>match ds with|d::r=>t d δ M λδ' M'=>u r δ' M' Q|[]=>False
def tN:UU X [] Jo:=NG.mono Pd λvs σ H Q' ⟨ds,δ,M,Q,hd,hs,hm,ht,k⟩=>by
 cases ds with
 | nil=>exact⟨hd.nil_inv,k σ H δ M hs hm .refl rfl ht⟩
 | cons _ _=>exact ht.elim
def qp{e:Expr}{es:List Expr}{t:Dp}{u:GB}(h1:G3 X e t)(h2:UU X es u)(hs:(assignEach (e::es) X.env).map (·.2)=assign e X.env::(assignEach es X.env).map (·.2):=by rfl):UU X (e::es) (BL t u):=
 NG.mono (Mv h1 h2 hs) λvs σ H Q' ⟨ds,δ,M,Q,hd,hs,hm,ht,k⟩=>by
 cases ds with
 | nil=>exact ht.elim
 | cons d r=>obtain⟨x,xr,rfl,hx,hr⟩:=hd.inv;exact⟨x,xr,rfl,d,δ,M,_,hx,hs,hm,ht,λσ1 H1 δ1 M1 ZG WJ e1 l1 q1=>⟨r,δ1,M1,Q,hr.mono e1,ZG,WJ,q1,λσ' H' δ' M' x1 x2 x3 x4 x5=>k σ' H' δ' M' x1 x2 (e1.trans x3) (x4.trans l1) x5⟩⟩
def QA(n:Nat)(t:GB):Dp:=λd δ M Q=>match d with|.tup ds=>ds.length=n/\t ds δ M Q|_=>False
def uL{es:List Expr}{k:Nat}{t:GB}{n:Nat}(hc:X.calm=true)(h:UU X es t)(hn:(assignEach es X.env).length=n:=by rfl)(W6:(assignEach es X.env).findIdx? (·.1)=none:=by rfl):G3 X (.Tuple es k pos) (QA n t):=
 PG.mono (R0 hc h hn W6) λv σ H Q' ⟨d,δ,M,Q,hd,hs,hm,ht,k⟩=>by
 cases d with
 | tup ds=>obtain⟨a,xs,rfl,h1,h2⟩:=hd.mT;exact⟨a,xs,rfl,h1,by rw[<-h2.length];exact ht.1,ds,δ,M,Q,h2,hs,hm,ht.2,k⟩
 | _=>exact ht.elim
def Ab(te:T3)(g:Dp):xA:=λD δ M=>te δ M λx M1=>g x δ M1 D.nx
def Rq{tg e:Expr}{te:T3}{g:Dp}(he:E3 X e te)(hg:G3 X tg g)(hs:swapsWithSole [tg] e pos.line X.env=pure false:=by rfl)(hw:swappedStores [tg] e X.env=pure none:=by rfl)
  (h1:(assignEach [tg] X.env).map (·.2)=[assign tg X.env]:=by rfl):S3 X (.Assign [tg] e pos) (Ab te g):=PS.mono (Sw he hg hs hw h1) λD' σ H zz=>KH zz λδ M D hs hm ht k1 k2 k3 k4=>
 ⟨δ,M,_,hs,hm,ht,λv H1 d M1 hd WJ e1 q1=>⟨d,δ,M1,_,hd,hs.mono e1,WJ,q1,λσ' H' δ' M' x1 x2 x3 x4 x5=>k1 σ' H' δ' M' x1 x2 (e1.trans x3) x4 x5⟩⟩
def Si{i:Nat}{x:Str}{e:Expr}{te:T3}{WT:Pos}(hN:X.N.Nodup)(hi:X.N[i]?=some x)(hx:Lc X.env.scope x)(he:E3 X e te)(Yd:swapsWith e (some (.Name x WT)) pos.line X.env=pure false:=by rfl)
  (hf:Nq X x:=by first|exact .inl rfl|exact .inr rfl|assumption):S3 X (.Assign [.Name x WT] e pos) (Ab te (sP i)):=PS.nR (Ry hN hi hx he Yd hf) λD' σ H hl zz=>KH zz λδ M D hs hm ht k1 k2 k3 k4=>
 ⟨δ,M,_,hs,hm,ht,λv H1 d M1 hd WJ e1 q1=>k1 _ H1 _ M1 ((hs.mono e1).set hd (by rw[hl];exact(c9.mp hi).1)) WJ e1 (by simp) q1⟩
end
abbrev rf:=List D->Mp->DK->Prop
def NI(K:qu)(sp:rf):Sp:=λvs H Q' _=>CQ λds M Q=>qk K H ds vs/\HM K H M/\sp ds M Q/\Up K H Q' Q
def xc(N:QQQ)(ds:List D):vo:=ds.map some++List.replicate (N.length - ds.length) none
def DL{K:qu}{H:Hp}{N:QQQ}{ds:List D}{vs:List V}(h:qk K H ds vs):zL K H (L2.start N vs) (xc N ds):=λi d q=>by
 unfold xc at q;unfold L2.start;by_cases hi:i<ds.length
 .rw[e9 (by simpa using hi),dD]at q;cases e:ds[i]? with
  | none=>rw[e]at q;cases q
  | some d'=>rw[e]at q;cases q;obtain⟨v,e1,e2⟩:=h.get e;refine⟨v,?_,e2⟩;rw[e9 (by rw[cV,<-h.length];exact hi),dD,e1];rfl
 .rw[eV (by simpa using hi),jO]at q;split at q<;>cases q
variable {P:Pg}{w:Wo}{mg:QQZ}{base:Heap}
abbrev SS(P:Pg)(w:Wo)(K:qu)(mg:QQZ)(base:Heap)(k:Nat)(f:Addr)(fd:FuncData)(ps:QQQ)(sp:rf):Prop:=xw P w K mg base NF k f fd ps (NI K sp)
variable {k:Nat}{f C:Addr}{fd:FuncData}{ps:QQQ}{sp:rf}{x m fn:Str}{p WK:Pos}{e o:Expr}{es:List Expr}{t:xC}
def yt(sp:rf)(t:xC):T3:=λδ M Q=>t δ M λds M1=>sp ds M1 Q
def Qa(F:SS X.prog X.w X.K X.mg X.base k f fd ps sp)(hr:r6 k X.A)(hg:Gl X x)(hm:X.mg x=some (.ref f))(hk:W.keepIn X.K (.ref f)=true)(hb:uS X.K fd ps [])(ha:A3 X (e::es) t) (W0:yU x:=by decide) (he:Bb X e es:=by rfl) (WX:CH X pos es:=by rfl):
  E3 X (.Call (.Name x p) (e::es) [] pos) (yt sp t):=PE.mono (PM F hr hg hm hk hb .nil (FW (X:=X)) ha W0 he WX) λσ H Q' zz=>x7 zz λδ M Q hs hm ht k=>
 ⟨δ,M,_,hs,hm,ht,λvs H1 ds M1 hd WJ e1 q1=>⟨ds,M1,Q,by rw[eZ];exact hd,WJ,q1,vK e1 k⟩⟩
def C3(X:Cx)(f:Vl)(r:rf):Prop:=yu X f λvs H Q'=>∃ds M Q,qk X.K H ds vs/\HM X.K H M/\r ds M Q/\Up X.K H Q' Q
def pS{id:String}{r:rf}(hc:C3 X (.builtin id) r)(hg:Gl X x)(hm:X.mg x=none)(hv:bootBuiltins x=some (.builtin id))(ha:A3 X (e::es) t)(hn:x≠"__name__":=by decide)(W0:yU x:=by decide)
  (he:Bb X e es:=by rfl) (WX:CH X pos es:=by rfl):E3 X (.Call (.Name x p) (e::es) [] pos) (yt r t):=
 PE.mono (Md hc hg hm hv ha hn W0 he WX) λσ H Q' zz=>x7 zz λδ M Q hs hm ht k=>⟨δ,M,_,hs,hm,ht,λvs H1 ds M1 hd WJ e1 q1=>⟨ds,M1,Q,hd,WJ,q1,vK e1 k⟩⟩
def pY{T:String}{r:rf}(hc:C3 X (.type T) r)(hg:Gl X x)(hm:X.mg x=none)(hv:bootBuiltins x=some (.type T))(ha:A3 X (e::es) t)(hn:x≠"__name__":=by decide)(W0:yU x:=by decide)
  (he:Bb X e es:=by rfl) (WX:CH X pos es:=by rfl):E3 X (.Call (.Name x p) (e::es) [] pos) (yt r t):=
 PE.mono (JE hc hg hm hv ha hn W0 he WX) λσ H Q' zz=>x7 zz λδ M Q hs hm ht k=>⟨δ,M,_,hs,hm,ht,λvs H1 ds M1 hd WJ e1 q1=>⟨ds,M1,Q,hd,WJ,q1,vK e1 k⟩⟩
def TR(ds:List D)(M:Mp)(Q:DK):Prop:=match ds with
 | [.str z]=>z.length<=sizeLine/\Q (.int z.length) M
 | [.tup es]=>Q (.int es.length) M
 | [.ref a]=>(oM M a).elim False λes=>Q (.int es.length) M
 | [.rl es]=>Q (.int es.length) M
 | _=>False
def rO{K:qu}{H:Hp}{d:D}{vs:List V}(h:qk K H [d] vs):∃v,vs=[v]/\rN K H d v:=by obtain⟨x,r,rfl,a,b⟩:=h.inv;rw[b.nil_inv];exact⟨x,rfl,a⟩
def D7{K:qu}{H:Hp}{d e:D}{vs:List V}(h:qk K H [d,e] vs):∃v u,vs=[v,u]/\rN K H d v/\rN K H e u:=by obtain⟨x,r,rfl,a,b⟩:=h.inv;obtain⟨y,rfl,c⟩:=rO b;exact⟨x,y,rfl,a,c⟩
def qx:C3 X (.builtin "len") TR:=by
 intro WH s σ H vs us Q' I rv h;obtain⟨ds,M,Q,hd,hm,q,k⟩:=h;unfold TR at q;split at q
 .obtain⟨v,rfl,hv⟩:=rO hd;cases hv.str_inv;exact Ei WH s σ H _ us Q' I rv ⟨_,rfl,q.1,k _ _ _ _ .int hm .refl q.2⟩
 .obtain⟨v,rfl,hv⟩:=rO hd;obtain⟨a,xs,rfl,h1,h2⟩:=hv.mT;exact wO WH s σ H _ us Q' I rv ⟨a,xs,rfl,.inr h1,k _ _ _ _ (by rw[<-h2.length];exact .int) hm .refl q⟩
 .obtain⟨v,rfl,hv⟩:=rO hd;obtain⟨es,e0,q⟩:=qX q;cases hv.mM;obtain⟨xs,h1,h2,_⟩:=qy hm e0;exact wO WH s σ H _ us Q' I rv ⟨_,xs,rfl,.inl h1,k _ _ _ _ (by rw[<-h2.length];exact .int) hm .refl q⟩
 .obtain⟨v,rfl,hv⟩:=rO hd;obtain⟨a,xs,rfl,h1,h2⟩:=hv.nj;exact wO WH s σ H _ us Q' I rv ⟨a,xs,rfl,.inl h1.sq,k _ _ _ _ (by rw[<-h2.length];exact .int) hm .refl q⟩
 .exact q.elim
def Ug(ds:List D)(M:Mp)(Q:DK):Prop:=match ds with
 | [.int i,.int j]=>Q (.int (if j<i then j else i)) M
 | _=>False
def Q3(hc:X.calm=true):C3 X (.builtin "min") Ug:=by
 intro WH s σ H vs us Q' I rv h;obtain⟨ds,M,Q,hd,hm,q,k⟩:=h;unfold Ug at q;split at q
 .obtain⟨v,u,rfl,hv,hw⟩:=D7 hd;cases hv.int_inv;cases hw.int_inv;exact JK hc WH s σ H _ us Q' I rv ⟨_,_,rfl,k _ _ _ _ .int hm .refl q⟩
 .exact q.elim
def Ms(ds:List D)(M:Mp)(Q:DK):Prop:=match ds with
 | [.tup es]=>Q (.tup es) M
 | [.ref a]=>(oM M a).elim False λes=>Q (.tup es) M
 | [.rl es]=>Q (.tup es) M
 | _=>False
def sy:C3 X (.type "tuple") Ms:=by
 intro WH s σ H vs us Q' I rv h;obtain⟨ds,M,Q,hd,hm,q,k⟩:=h;unfold Ms at q;split at q
 .obtain⟨v,rfl,hv⟩:=rO hd;obtain⟨a,xs,rfl,h1,h2⟩:=id hv.mT;exact vY WH s σ H _ us Q' I rv ⟨a,xs,rfl,.inr ⟨h1,k _ _ _ _ hv hm .refl q⟩⟩
 .obtain⟨v,rfl,hv⟩:=rO hd;obtain⟨es,e0,q⟩:=qX q;cases hv.mM;obtain⟨xs,h1,h2,_⟩:=qy hm e0;refine vY WH s σ H _ us Q' I rv ⟨_,xs,rfl,.inl ⟨h1,λl hl=>?_⟩⟩;have e:qQ X.K H (upd H l (.tup xs)):=.new hl;exact k _ _ _ _ (.tup (.of qh) (h2.mono e)) (hm.add hl) e q
 .obtain⟨v,rfl,hv⟩:=rO hd;obtain⟨a,xs,rfl,h1,h2⟩:=hv.nj;refine vY WH s σ H _ us Q' I rv ⟨_,xs,rfl,.inl ⟨h1.sq,λl hl=>?_⟩⟩;have e:qQ X.K H (upd H l (.tup xs)):=.new hl;exact k _ _ _ _ (.tup (.of qh) (h2.mono e)) (hm.add hl) e q
 .exact q.elim
def Nm(ds:List D)(M:Mp)(Q:DK):Prop:=match ds with
 | [d]=>(MF M d).elim False λes=>∀p,M p=none->Q (.ref p) (pF M p (.lst es))
 | _=>False
def tq:C3 X (.type "list") Nm:=by
 intro WH s σ H vs us Q' I rv h;obtain⟨ds,M,Q,hd,hm,q,k⟩:=h;unfold Nm at q;split at q
 .obtain⟨v,rfl,hv⟩:=rO hd;obtain⟨es,e0,q⟩:=qX q;obtain⟨p,xs,rfl,h1,h2⟩:=ES hm hv e0;refine EN WH s σ H _ us Q' I rv ⟨p,xs,rfl,h1,λl hl=>?_⟩;have e:qQ X.K H (upd H l (.lst xs)):=.new hl;exact k _ _ _ _ .ref (hm.new (c:=.lst es) hl ⟨_,qh,h2.mono e⟩) e (q l (hm.fresh hl))
 .exact q.elim
theorem wD{K:qu}{H:Hp}{f:Str}:∀{fs:List (Str×D)} {vs:List (Str×V)},B7 K H fs vs->(∀d,fs.lookup f=some d->∃v,vs.lookup f=some v/\rN K H d v)/\(fs.lookup f=none->vs.lookup f=none)
 | [],[],_=>⟨λd e=>by simp at e,λ_=>rfl⟩
 | [],_::_,h=>by have:=h.1;simp at this
 | _::_,[],h=>by have:=h.1;simp at this
 | (g,d)::fs,(g',v)::vs,h=>by
  have h1:g'=g/\vs.map (·.1)=fs.map (·.1):=by
   have:=h.1
   simpa using this
  obtain⟨x,r,e,a,b⟩:=h.2.inv;have e':v::vs.map (·.2)=x::r:=e;cases e';obtain⟨i1,i2⟩:=wD (f:=f) (fs:=fs) (vs:=vs) ⟨h1.2,b⟩;rw[h1.1];refine⟨λd' e=>?_,λe=>?_⟩
  .rw[eG]at e ⊢;cases q:f==g with
   | true=>rw[q]at e;cases e;exact⟨v,rfl,a⟩
   | false=>rw[q]at e;exact i1 d' e
  .rw[eG]at e ⊢;cases q:f==g with
   | true=>rw[q]at e;cases e
   | false=>rw[q]at e;exact i2 e
theorem Jn{f:Str}{d:D}:∀{fs:List (Str×D)},fs.lookup f=some d->f∈fs.map (·.1)
 | [],h=>by simp at h
 | (g,e)::r,h=>by
  rw[eG]at h;cases q:f==g with
  | true=>
   have z:f=g:=by simpa using q
   rw[z,dX];exact dG
  | false=>rw[q]at h;simp[Jn h]
def AN(o:Option uW)(F:Addr->List (Str×D)->Prop):Prop:=match o with
 | some (.ins C fs)=>F C fs
 | _=>False
def pq{o:Option uW}{F:Addr->List (Str×D)->Prop}{C:Addr}{fs:List (Str×D)}(e:o=some (.ins C fs))(h:F C fs):AN o F:=by rw[e];exact h
def xW{o:Option uW}{F:Addr->List (Str×D)->Prop}(h:AN o F):∃C fs,o=some (.ins C fs)/\F C fs:=by
 unfold AN at h;split at h
 .exact⟨_,_,rfl,h⟩
 .exact h.elim
def RF(f:Str)(ta:T3):T3:=λδ M Q=>ta δ M λx M1=>match x with
 | .ref a=>AN (M1 a) λ_ fs=>(fs.lookup f).elim False λd=>Q d M1
 | _=>False
def pC{f:Str}(he:E3 X o ta)(hb:attributeBase o f X.env (eval o X.env)=eval o X.env:=by rfl):E3 X (.Attribute o f pos) (RF f ta):=PE.mono (Ro he hb) λσ H Q' zz=>x7 zz λδ M Q hs hm ht k=>
 ⟨δ,M,_,hs,hm,ht,λv H1 d M1 hd WJ e1 q1=>by
  cases d with
  | ref a=>cases hd.mM;obtain⟨C,fs,e,q1⟩:=xW q1;obtain⟨d,e2,q⟩:=qX q1;obtain⟨dx,vs,h1,cl,na,fo⟩:=WJ a _ e;obtain⟨v,e3,hv⟩:=(wD fo).1 d e2;exact⟨a,C,dx,vs,v,rfl,h1,cl,na f (Jn e2),e3,k v H1 d M1 hv WJ e1 q⟩
  | _=>exact q1.elim⟩
def vU(f:Str)(v:D):List (Str×D)->List (Str×D)
 | []=>[(f,v)]
 | (g,u)::r=>if g=f then(g,v)::r else(g,u)::vU f v r
theorem ER{K:qu}{H:Hp}{f:Str}{d:D}{v:V}(hv:rN K H d v):∀{fs:List (Str×D)} {vs:List (Str×V)},B7 K H fs vs->B7 K H (vU f d fs) (vD f v vs)
 | [],[],_=>⟨rfl,.cons hv .nil⟩
 | [],_::_,h=>by have:=h.1;simp at this
 | _::_,[],h=>by have:=h.1;simp at this
 | (g,e)::fs,(g',u)::vs,h=>by
  have h1:g'=g/\vs.map (·.1)=fs.map (·.1):=by
   have:=h.1
   simpa using this
  obtain⟨x,r,e1,a,b⟩:=h.2.inv;have e':u::vs.map (·.2)=x::r:=e1;cases e';obtain⟨hg,ht⟩:=h1;subst hg;rw[show vU f d ((g',e)::fs)=(if g'=f then(g',d)::fs else(g',e)::vU f d fs)from rfl,show vD f v ((g',u)::vs)=(if g'=f then(g',v)::vs else(g',u)::vD f v vs)from rfl];by_cases q:g'=f
  .rw[df q,df q];exact⟨by simpa using ht,.cons hv b⟩
  .rw[cZ q,cZ q];obtain⟨i1,i2⟩:=ER hv (fs:=fs) (vs:=vs) ⟨ht,b⟩;exact⟨by simpa using i1,.cons a i2⟩
theorem BP{f:Str}{d:D}:∀{fs:List (Str×D)} {g:Str},g∈(vU f d fs).map (·.1)->g=f\/g∈fs.map (·.1)
 | [],g,h=>.inl (by simpa [vU]using h)
 | (k,e)::r,g,h=>by
  rw[show vU f d ((k,e)::r)=(if k=f then(k,d)::r else(k,e)::vU f d r)from rfl]at h;by_cases q:k=f
  .rw[df q]at h;exact .inr (by simpa using h)
  .rw[cZ q]at h;rw[dX,dg]at h;rcases h with h|h
   .exact .inr (by simp[h])
   .rcases BP h with z|z
    .exact .inl z
    .exact .inr (by simp;right;simpa using z)
def Uy(K:qu)(f:Str)(ta tv:T3):xA:=λD δ M=>tv δ M λy M1=>ta δ M1 λx M2=>match x with
 | .ref a=>AN (M2 a) λC fs=>uh K C f/\fs.length<1000/\D.nx δ (pF M2 a (.ins C (vU f y fs)))
 | _=>False
def qc{f:Str}{value:Expr}{tv:T3}{WT:Pos}(ha:E3 X o ta)(hv:E3 X value tv)(Yd:swapsWith value (some (.Attribute o f WT)) pos.line X.env=pure false:=by rfl):S3 X (.Assign [.Attribute o f WT] value pos) (Uy X.K f ta tv):=
 PS.mono (Q0 ha hv Yd) λD' σ H zz=>KH zz λδ M D hs hm ht k1 k2 k3 k4=>
 ⟨δ,M,_,hs,hm,ht,λy H1 dy M1 hy WJ e1 q1=>⟨δ,M1,_,hs.mono e1,WJ,q1,λv H2 d M2 hd WZ e2 q2=>by
  cases d with
  | ref a=>
   cases hd.mM;obtain⟨C,fs,e,q2⟩:=xW q2;obtain⟨na,hl,q⟩:=q2;obtain⟨dx,vs,h1,cl,nn,fo⟩:=WZ a _ e;have WN:vs.length=fs.length:=by have:=eX List.length fo.1;simpa using this
   refine⟨a,C,dx,vs,rfl,h1,cl,na,by omega,?_⟩;obtain⟨XC,e3⟩:=WZ.put (p:=a) (o:=.ins C dx (vD f y vs)) (c:=.ins C (vU f dy fs)) e λx=>⟨dx,_,qh,cl,λg hg=>by
    rcases BP hg with z|z
    .rw[z];exact na
    .exact nn g z,ER ((hy.mono e2).mono x) (fo.mono x)⟩
   exact k1 σ _ δ _ (hs.mono (e1.trans (e2.trans e3))) XC (e1.trans (e2.trans e3)) rfl q
  | _=>exact q2.elim⟩⟩
def QF(C:Addr)(sp:rf)(t:xC):T3:=λδ M Q=>t δ M λds M1=>∀x,M1 x=none->sp (.ref x::ds) (pF M1 x (.ins C [])) λd M2=>d=.mS/\Q (.ref x) M2
def Nw{K:qu}{H:Hp}{M:Mp}{xa dx:Addr}(hm:HM K H M)(cl:Cls K C)(h1:H xa=none)(h2:H dx=none)(ne:dx≠xa):HM K (upd (upd H dx (.own xa)) xa (.ins C dx [])) (pF M xa (.ins C []))/\qQ K H (upd (upd H dx (.own xa)) xa (.ins C dx [])):=by
 have Xp:upd H dx (.own xa) xa=none:=by rw[pW (dP ne)];exact h1
 exact⟨(hm.add (p:=dx) (o:=.own xa) h2).new Xp ⟨dx,[],qh,cl,λg hg=>by simp at hg,rfl,.nil⟩,qQ.trans (.new h2) (.new Xp)⟩
def Qg(cl:Cls X.K C)(Mk':Mk X.K C f)(F:SS X.prog X.w X.K X.mg X.base k f fd ps sp)(hr:r6 (k+1) X.A)(hg:Gl X x)(hm:X.mg x=some (.ref C))(hb:uS X.K fd ps [])(ha:A3 X (e::es) t) (W0:yU x:=by decide) (he:Bb X e es:=by rfl) (WX:CH X pos es:=by rfl):
  E3 X (.Call (.Name x p) (e::es) [] pos) (QF C sp t):=PE.mono (Oc Mk' F hr hg hm hb .nil (FW (X:=X)) ha W0 he WX) λσ H Q' zz=>x7 zz λδ M Q hs hm ht k=>
 ⟨δ,M,_,hs,hm,ht,λvs H1 ds M1 hd WJ e1 q1=>λxa dx n1 n2 ne=>by
  obtain⟨WZ,e2⟩:=Nw WJ cl n1 n2 ne;refine⟨.ref xa::ds,_,_,?_,WZ,q1 xa (WJ.fresh n1),λv H3 d M3 hd3 XC e3 q3=>?_⟩
  .rw[eZ];exact .cons .ref (hd.mono e2)
  .obtain⟨z,q3⟩:=q3;subst z;exact⟨hd3.mQ,k _ H3 _ M3 .ref XC (e1.trans (e2.trans e3)) q3⟩⟩
def Hn(m:Str)(R:Addr->Sp->Prop)(ta:TE)(t:TA):TE:=λσ H Q=>ta σ H λx H1=>∃a C dx fs sp,x=.ref a/\H1 a=some (.ins C dx fs)/\fs.lookup m=none/\R C sp/\t σ H1 λvs H2=>sp (x::vs) H2 Q E0
def xM(P:Pg)(w:Wo)(K:qu)(mg:QQZ)(base:Heap)(k:Nat)(m:Str)(C:Addr)(sp:Sp):Prop:=Cls K C/\∃f fd ps,vF K C m f/\xw P w K mg base NF k f fd ps sp/\uS K fd ps []
def Ly{R:Addr->Sp->Prop}{ta:TE}{t:TA}{pl:Sem Bool}(he:PE X o ta)(hR:∀C sp,R C sp->xM X.prog X.w X.K X.mg X.base k m C sp)(hr:r6 k X.A)(ha:PA X (e::es) t) (W6:Bb X e es:=by rfl) (WX:CH X pos es:=by rfl)
  (ht:eval (.Call (.Attribute o m WK) (e::es) [] pos) X.env=(do
   let ov<-eval o X.env
   standAt WK.atName
   let(f,first)<-holding [ov] (getMethod ov m pl)
   callWith pos f first (backTo pos (starEach (e::es) X.env)) (backToKw pos (keywordEach [] X.env))):=by rfl):
  PE X (.Call (.Attribute o m WK) (e::es) [] pos) (Hn m R ta t):=by
 intro WH s σ H Q I h;refine jW (pl:=pl) (sH (he WH s σ H _ I h) λu s1 zz=>?_) ht;obtain⟨x,H1,I1,rx,a,C,dx,fs,sp,ex,ea,l,hRC,q⟩:=zz;obtain⟨c,f,fd,ps,hm,F,hb⟩:=hR C sp hRC;subst ex;obtain rfl:u=Value.ref a:=rx;refine Bt I1 ea c hm l ?_;refine iO (first:=[.ref a]) (h₀:=X.base) I.ok.mod.oC hm.kp (sH (ha pos WH s1 σ H1 _ I1 q) λus s2 zz=>x5 zz λvs H2 I2 r q2=>⟨I2.nk,?_⟩) W6 WX;exact Fb (us:=.ref a::us) (vs:=.ref a::vs) F hr hb .nil (FW (X:=X)) I2 (.cons rfl r) (by rw[eZ];exact q2)
def JC{R:Addr->Sp->Prop}{ta:TE}{pl:Sem Bool}(he:PE X o ta)(hR:∀C sp,R C sp->xM X.prog X.w X.K X.mg X.base k m C sp)(hr:r6 k X.A) (ht:eval (.Call (.Attribute o m WK) [] [] pos) X.env=(do
   let ov<-eval o X.env
   standAt WK.atName
   let(f,first)<-holding [ov] (getMethod ov m pl)
   callWith pos f first (backTo pos (starEach [] X.env)) (backToKw pos (keywordEach [] X.env))):=by rfl):
  PE X (.Call (.Attribute o m WK) [] [] pos) (Hn m R ta Tj):=by
 intro WH s σ H Q I h;refine jW (pl:=pl) (sH (he WH s σ H _ I h) λu s1 zz=>?_) ht;obtain⟨x,H1,I1,rx,a,C,dx,fs,sp,ex,ea,l,hRC,q⟩:=zz;obtain⟨c,f,fd,ps,hm,F,hb⟩:=hR C sp hRC;subst ex;obtain rfl:u=Value.ref a:=rx;refine Bt I1 ea c hm l ?_;exact W.callWith_K0 (first:=[.ref a]) I1.nk hm.kp (Fb (us:=[.ref a]) (vs:=[.ref a]) F hr hb .nil (FW (X:=X)) I1 (.cons rfl .nil) (by rw[eZ];exact q))
def AB(m:Str)(R:Addr->rf->Prop)(ta:T3)(t:xC):T3:=λδ M Q=>ta δ M λx M1=>match x with
 | .ref a=>AN (M1 a) λC fs=>fs.lookup m=none/\∃sp,R C sp/\t δ M1 λds M2=>sp (x::ds) M2 Q
 | _=>False
def VV(K:qu)(R:Addr->rf->Prop):Addr->Sp->Prop:=λC sp'=>∃sp,R C sp/\sp'=NI K sp
def IB{R:Addr->rf->Prop}:∀σ H Q',lo X.K (AB m R ta t) σ H Q'->Hn m (VV X.K R) (lo X.K ta) (Wh X.K t) σ H Q':=λσ H Q' zz=>x7 zz λδ M Q hs hm ht k=>
 ⟨δ,M,_,hs,hm,ht,λv H1 d M1 hd WJ e1 q1=>by
  cases d with
  | ref a=>cases hd.mM;obtain⟨C,fs,e,q1⟩:=xW q1;obtain⟨hn,sp,hR,q⟩:=q1;obtain⟨dx,vs,h1,cl,na,fo⟩:=WJ a _ e;exact⟨a,C,dx,vs,_,rfl,h1,(wD fo).2 hn,⟨sp,hR,rfl⟩,δ,M1,_,hs.mono e1,WJ,q,λus H2 ds M2 XY WZ e2 q2=>⟨.ref a::ds,M2,Q,.cons .ref XY,WZ,q2,vK (e1.trans e2) k⟩⟩
  | _=>exact q1.elim⟩
def vL{R:Addr->rf->Prop}{pl:Sem Bool}(he:E3 X o ta)(hR:∀C sp,R C sp->xM X.prog X.w X.K X.mg X.base k m C (NI X.K sp))(hr:r6 k X.A)(ha:A3 X (e::es) t) (W6:Bb X e es:=by rfl) (WX:CH X pos es:=by rfl)
  (ht:eval (.Call (.Attribute o m WK) (e::es) [] pos) X.env=(do
   let ov<-eval o X.env
   standAt WK.atName
   let(f,first)<-holding [ov] (getMethod ov m pl)
   callWith pos f first (backTo pos (starEach (e::es) X.env)) (backToKw pos (keywordEach [] X.env))):=by rfl):
  E3 X (.Call (.Attribute o m WK) (e::es) [] pos) (AB m R ta t):=PE.mono (Ly (R:=VV X.K R) he (λC sp' ⟨sp,h,z⟩=>by rw[z];exact hR C sp h) hr ha W6 WX ht) IB
def Cu{R:Addr->rf->Prop}{pl:Sem Bool}(he:E3 X o ta)(hR:∀C sp,R C sp->xM X.prog X.w X.K X.mg X.base k m C (NI X.K sp))(hr:r6 k X.A) (ht:eval (.Call (.Attribute o m WK) [] [] pos) X.env=(do
   let ov<-eval o X.env
   standAt WK.atName
   let(f,first)<-holding [ov] (getMethod ov m pl)
   callWith pos f first (backTo pos (starEach [] X.env)) (backToKw pos (keywordEach [] X.env))):=by rfl):
  E3 X (.Call (.Attribute o m WK) [] [] pos) (AB m R ta uT):=PE.mono (JC (R:=VV X.K R) he (λC sp' ⟨sp,h,z⟩=>by rw[z];exact hR C sp h) hr ht) λσ H Q' h=>by
 obtain⟨δ,M,Q,hs,hm,ht,k⟩:=IB (t:=uT) σ H Q' h;refine⟨δ,M,Q,hs,hm,ht,λv H' d M' x1 x2 x3 x4=>?_⟩;obtain⟨a,C,dx,fs,sp,e1,e2,e3,e4,δ',WL,Q'',y1,y2,y3,y4⟩:=k v H' d M' x1 x2 x3 x4;exact⟨a,C,dx,fs,sp,e1,e2,e3,e4,y4 [] H' [] WL .nil y2 .refl y3⟩
structure FQ(K:qu)(H1:Hp)(J:It)(ds:List D)(ok:Mp->Prop):Prop where
 go:∀i H M,i<ds.length->HM K H M->ok M->qQ K H1 H->J.go i H
 oO:∀i d H M x H',ds[i]?=some d->HM K H M->ok M->qQ K H1 H->J.oO i H x H'->rN K H' d x/\HM K H' M/\qQ K H H'
 stop:∀H M,HM K H M->ok M->qQ K H1 H->J.stop ds.length H
abbrev NH:=vo->Mp->(List D->(Mp->Prop)->Mp->Prop)->Prop
def Wa(K:qu)(wi:NH):TI:=λσ H R'=>CQ λδ M R=>zL K H σ δ/\HM K H M/\wi δ M R/\∀J H1 ds ok M1,FQ K H1 J ds ok->HM K H1 M1->qQ K H H1->ok M1->R ds ok M1->R' J H1
def I3(X:Cx)(tg iter:Expr)(wi:NH):Prop:=PI X tg iter (Wa X.K wi)
def PI.mono{X:Cx}{tg e:Expr}{t t':TI}(h:PI X tg e t)(m:∀σ H Q,t' σ H Q->t σ H Q):PI X tg e t':=λWH s σ H Q I q=>h WH s σ H Q I (m σ H Q q)
variable {H1:Hp}
def NC{a:Addr}{ds:List D}:FQ K H1 (UQ K a) ds (λM=>oM M a=some ds) where
 go:=λi H M hi hm ok _=>by obtain⟨xs,h1,h2,_⟩:=qy hm ok;obtain⟨x,e,_⟩:=h2.get (cX hi);exact⟨xs,x,h1,e⟩
 oO:=λi d H M x H' hd hm ok _ y=>by obtain⟨xs,h1,h2,_⟩:=qy hm ok;obtain⟨e,y⟩:=y;subst e;obtain⟨x',e,hx⟩:=h2.get hd;have:=y xs h1;rw[e]at this;cases this;exact⟨hx,hm,.refl⟩
 stop:=λH M hm ok _=>by obtain⟨xs,h1,h2,_⟩:=qy hm ok;exact⟨xs,h1,by rw[h2.length];exact dv _⟩
def NV{a:Addr}{ds:List D}{xs:List V}(h1:ve K H1 a xs)(h2:qk K H1 ds xs):FQ K H1 (VA K a) ds (λ_=>True) where
 go:=λi H M hi hm ok e1=>by obtain⟨x,e,_⟩:=h2.get (cX hi);exact⟨xs,x,e1.t _ _ h1,e⟩
 oO:=λi d H M x H' hd hm ok e1 y=>by obtain⟨e,y⟩:=y;subst e;obtain⟨x',e,hx⟩:=h2.get hd;have:=y xs (e1.t _ _ h1);rw[e]at this;cases this;exact⟨hx.mono e1,hm,.refl⟩
 stop:=λH M hm ok e1=>⟨xs,e1.t _ _ h1,by rw[h2.length];exact dv _⟩
def SG{a:Addr}{ds:List D}{xs:List V}(h1:OK K H1 a xs)(h2:qk K H1 ds xs):FQ K H1 (UQ K a) ds (λ_=>True) where
 go:=λi H M hi hm ok e1=>by obtain⟨x,e,_⟩:=h2.get (cX hi);exact⟨xs,x,(h1.mono e1).sq,e⟩
 oO:=λi d H M x H' hd hm ok e1 y=>by obtain⟨e,y⟩:=y;subst e;obtain⟨x',e,hx⟩:=h2.get hd;have:=y xs (h1.mono e1).sq;rw[e]at this;cases this;exact⟨hx.mono e1,hm,.refl⟩
 stop:=λH M hm ok e1=>⟨xs,(h1.mono e1).sq,by rw[h2.length];exact dv _⟩
def Kc{n:Nat}{lo:Int}:FQ K H1 (UL lo n) ((List.range n).map λi=>D.int (lo+(i:Nat))) (λ_=>True) where
 go:=λi H M hi hm ok e1=>by
  have z:i<n:=by simpa using hi
  exact z
 oO:=λi d H M x H' hd hm ok e1 y=>by
  obtain⟨e,y⟩:=y;subst e;subst y;have hi:i<n:=by
   have:=(c9.mp hd).1
   simpa using this
  have hd':d=D.int (lo+(i:Nat)):=by rw[dD,kF hi]at hd;exact(dh hd).symm
  subst hd';exact⟨.int,hm,.refl⟩
 stop:=λH M hm ok e1=>by show n<=_;simp
variable {scope:Scope}{ix:List (Option Nat)}{N':QQQ}{iter Xy:Expr}{Xi:List Expr}{wi:NH}{g:Dp}{tt:Az}{te:T3}{tg:Expr}
def Us(t:T3):NH:=λδ M R=>t δ M λx M1=>match x with
 | .tup ds=>R ds (λ_=>True) M1
 | .ref a=>(oM M1 a).elim False λds=>R ds (λM=>oM M a=some ds) M1
 | .rl ds=>R ds (λ_=>True) M1
 | .str z=>R (z.cps.toList.map λc=>D.str ⟨#[c]⟩) (λ_=>True) M1
 | _=>False
def P4{K:qu}{H1:Hp}{z:Str}:FQ K H1 (Va z) (z.cps.toList.map λc=>D.str ⟨#[c]⟩) (λ_=>True) where
 go:=λi H M hi hm ok _=>by
  show i<z.cps.size
  simpa using hi
 oO:=λi d H M x H' hd hm ok _ y=>by obtain⟨e,c,e1,e2⟩:=y;subst e e2;rw[dD,Array.getElem?_toList,e1]at hd;cases hd;exact⟨.str,hm,.refl⟩
 stop:=λH M hm ok _=>by show _=z.cps.size;simp
def qF{l:Expr}{t:T3}(h:E3 X l t)(hc:X.calm=true:=by rfl):I3 X tg l (Us t):=PI.mono (OD hc h) λσ H R' zz=>x7 zz λδ M R hs hm ht k=>
 ⟨δ,M,_,hs,hm,ht,λv H1 d M1 hd WJ e1 q1=>by
  cases d with
  | tup ds=>obtain⟨a,xs,rfl,h1,h2⟩:=hd.mT;exact .inl ⟨a,rfl,.inr ⟨⟨xs,h1⟩,k _ H1 ds _ M1 (NV h1 h2) WJ e1 trivial q1⟩⟩
  | ref a=>cases hd.mM;obtain⟨ds,e0,q⟩:=qX q1;obtain⟨xs,h1,h2,_⟩:=qy WJ e0;exact .inl ⟨a,rfl,.inl ⟨⟨xs,h1⟩,k _ H1 ds _ M1 NC WJ e1 e0 q⟩⟩
  | str z=>exact .inr ⟨z,hd.str_inv,k _ H1 _ _ M1 P4 WJ e1 trivial q1⟩
  | rl ds=>obtain⟨a,xs,rfl,h1,h2⟩:=hd.nj;exact .inl ⟨a,rfl,.inl ⟨⟨xs,h1.sq⟩,k _ H1 ds _ M1 (SG h1 h2) WJ e1 trivial q1⟩⟩
  | _=>exact q1.elim⟩
def TM(t:xC):NH:=λδ M R=>t δ M λds M1=>match ds with
 | [.int j]=>(-(2 ^ 62)<=j/\j<2 ^ 62)/\R ((List.range j.toNat).map λi=>D.int (0+(i:Nat))) (λ_=>True) M1
 | [.int i,.int j]=>(-(2 ^ 62)<=i/\i<2 ^ 62/\-(2 ^ 62)<=j/\j<2 ^ 62)/\R ((List.range (j - i).toNat).map λn=>D.int (i+(n:Nat))) (λ_=>True) M1
 | _=>False
def wu{a:Expr}{ta:xC}(hg:Gl X "range")(hm:X.mg "range"=none)(ha:A3 X [a] ta)(hs:starEach [a] X.env=[(false,eval a X.env)]:=by rfl):I3 X tg (.Call (.Name "range" p) [a] [] pos) (TM λδ M Q=>ta δ M λds M1=>ds.length=1/\Q ds M1):=
 PI.mono (Kb hg hm ha hs) λσ H R' zz=>x7 zz λδ M R hs hm ht k=>⟨δ,M,_,hs,hm,ht,λvs H1 ds M1 hd WJ e1 q1=>by
  obtain⟨hl,q1⟩:=q1;split at q1
  .obtain⟨v,rfl,hv⟩:=rO hd;cases hv.int_inv;exact⟨_,rfl,q1.1.1,q1.1.2,k _ H1 _ _ M1 Kc WJ e1 trivial q1.2⟩
  .simp at hl
  .exact q1.elim⟩
def Fh(g:Dp)(tb:xA)(ok:Mp->Prop)(E:Dx):List D->vo->Mp->Prop
 | [],δ,M=>E.nx δ M
 | d::r,δ,M=>g d δ M λδ2 M2=>tb {E with nx:=λδ' M'=>ok M'/\Fh g tb ok E r δ' M',ct:=λδ' M'=>ok M'/\Fh g tb ok E r δ' M',bk:=E.nx} δ2 M2
def Sv(wi:NH)(g:Dp)(tb:xA):xA:=λE δ M=>wi δ M λds ok M1=>Fh g tb ok E ds δ M1
def uk{iter:Expr}{body:List Stmt}{wi:NH}{g:Dp}{tb:xA}(hp:PassesOwn (model X.prog X.w) X.A X.env X.xe)(hc:X.calm=true)(hi:I3 X tg iter wi)(hg:G3 X tg g)(hb:G6 X body tb) (hs:∀x,foldedSetIterable iter X.env x=pure x:=by intro _;rfl):S3 X (.For tg iter body [] pos) (Sv wi g tb):=PS.mono (Sf hp hc hi hg hb hs) λD' σ H zz=>KH zz λδ M E hs hm ht k1 k2 k3 k4=>
 ⟨δ,M,_,hs,hm,ht,λJ H1 ds ok M1 S WJ e1 ok1 q1=>by
  refine⟨λi m σ' H'=>m=ds.length - i/\i<=ds.length/\∃δ' M',zL X.K H' σ' δ'/\HM X.K H' M'/\ok M'/\qQ X.K H1 H'/\σ'.length=σ.length/\Fh g tb ok E (ds.drop i) δ' M',⟨ds.length,by simp,eL _,δ,M1,hs.mono e1,WJ,ok1,.refl,rfl,by simpa using q1⟩,?_⟩
  rintro i m σ' H' ⟨rfl,hi,δ',M',Zf,Ye,ZH,e',l',q'⟩
  by_cases WV:i<ds.length
  .rw[ik WV]at q';refine .inr ⟨S.go i H' M' WV Ye ZH e',λσ2 H2=>∃δ2 M2,zL X.K H2 σ2 δ2/\HM X.K H2 M2/\ok M2/\qQ X.K H1 H2/\σ2.length=σ.length/\Fh g tb ok E (ds.drop (i+1)) δ2 M2,λσ2 H2 z=>⟨ds.length - (i+1),by omega,rfl,WV,z⟩,λx H2 y=>?_⟩;obtain⟨hx,WZ,e2⟩:=S.oO i ds[i] H' M' x H2 (cX WV) Ye ZH e' y;refine⟨ds[i],δ',M',_,hx,Zf.mono e2,WZ,q',λσ3 H3 δ3 M3 x1 x2 x3 x4 x5=>?_⟩;refine⟨δ3,M3,_,x1,x2,x5,λσ4 H4 δ4 M4 y1 y2 y3 y4 y5=>?_,λv H4 d M4 y1 y2 y3 y4=>?_,λσ4 H4 δ4 M4 y1 y2 y3 y4 y5=>?_,λσ4 H4 δ4 M4 y1 y2 y3 y4 y5=>?_⟩
   .exact⟨δ4,M4,y1,y2,y5.1,e'.trans (e2.trans (x3.trans y3)),by rw[y4,x4,l'],y5.2⟩
   .exact k2 v H4 d M4 y1 y2 (e1.trans (e'.trans (e2.trans (x3.trans y3)))) y4
   .exact k1 σ4 H4 δ4 M4 y1 y2 (e1.trans (e'.trans (e2.trans (x3.trans y3)))) (by rw[y4,x4,l']) y5
   .exact⟨δ4,M4,y1,y2,y5.1,e'.trans (e2.trans (x3.trans y3)),by rw[y4,x4,l'],y5.2⟩
  .have e:i=ds.length:=by omega
   subst e;rw[jI]at q';exact .inl ⟨S.stop H' M' Ye ZH e',k1 σ' H' δ' M' Zf Ye (e1.trans e') l' q'⟩⟩
def OL(ix:List (Option Nat))(δ:vo):vo:=ix.map λo=>o.bind λi=>(δ[i]?).join
def OQ{K:qu}{H:Hp}{σ:St}{δ:vo}{ix:List (Option Nat)}(h:zL K H σ δ):zL K H (NW ix σ) (OL ix δ):=λi d q=>by
 unfold OL at q;unfold NW;rw[dD]at q ⊢;cases e:ix[i]? with
 | none=>rw[e]at q;cases q
 | some o=>
  rw[e]at q;cases o with
  | none=>cases q
  | some j=>
   have q':(δ[j]?).join=some d:=dh q;have e4:δ[j]?=some (some d):=by
    cases r:δ[j]? with
    | none=>rw[r]at q';cases q'
    | some w=>rw[r]at q';exact eX some q'
   obtain⟨v,e5,hv⟩:=h j d e4;refine⟨v,?_,hv⟩;show some ((σ[j]?).join)=some (some v);rw[e5];rfl
def vd(g:Dp)(tt:Az)(te:T3)(ok:Mp->Prop)(Q:DK):List D->List D->vo->Mp->Prop
 | [],acc,_,M=>acc.length<=sizeLine/\∀p,M p=none->Q (.ref p) (pF M p (.lst acc))
 | d::r,acc,δ,M=>acc.length<sizeLine/\g d δ M λδ2 M2=>tt δ2 M2 λb M3=>if b=true then te δ2 M3 λy M4=>ok M4/\vd g tt te ok Q r (acc++[y]) δ2 M4 else ok M3/\vd g tt te ok Q r acc δ2 M3
def LZ(ix:List (Option Nat))(wi:NH)(g:Dp)(tt:Az)(te:T3):T3:=λδ M Q=>wi δ M λds ok M1=>vd g tt te ok Q ds [] (OL ix δ) M1
def F3(X:Cx)(Xi:List Expr)(t:Az):Prop:=PF X Xi (SR X.K t)
def PF.mono{X:Cx}{e:List Expr}{t t':TT}(h:PF X e t)(m:∀σ H Q,t' σ H Q->t σ H Q):PF X e t':=λWH s σ H Q I q=>h WH s σ H Q I (m σ H Q q)
def B4:Az:=λ_ M Q=>Q true M
def rS:F3 X [] B4:=PF.mono Sj λσ H Q' zz=>x7 zz λδ M Q hs hm ht k=>k true H M hm .refl ht
def uY{c:Expr}{t:Az}(h:B3 X c t):F3 X [c] t:=Sq h
def Jv:∀σ H Q',lo X.K (LZ ix wi g tt te) σ H Q'->Nk ix (Wa X.K wi) (UX X.K g) (SR X.K tt) (lo X.K te) σ H Q':=λσ H Q' zz=>x7 zz λδ M Q hs hm ht k=>
 ⟨δ,M,_,hs,hm,ht,λJ H1 ds ok M1 S WJ e1 ok1 q1=>by
  refine⟨λi m ys σ' H'=>m=ds.length - i/\i<=ds.length/\∃δ' M' acc,zL X.K H' σ' δ'/\HM X.K H' M'/\qk X.K H' acc ys/\ok M'/\qQ X.K H1 H'/\vd g tt te ok Q (ds.drop i) acc δ' M',⟨ds.length,by simp,eL _,OL ix δ,M1,[],OQ (hs.mono e1),WJ,.nil,ok1,.refl,by simpa using q1⟩,?_⟩
  rintro i m ys σ' H' ⟨rfl,hi,δ',M',acc,Zf,Ye,Yi,ZH,e',q'⟩
  by_cases WV:i<ds.length
  .rw[ik WV]at q';obtain⟨hz,q'⟩:=q';refine .inr ⟨S.go i H' M' WV Ye ZH e',by rw[<-Yi.length];exact hz,λx H2 y=>?_⟩;obtain⟨hx,WZ,e2⟩:=S.oO i ds[i] H' M' x H2 (cX WV) Ye ZH e' y;refine⟨ds[i],δ',M',_,hx,Zf.mono e2,WZ,q',λσ3 H3 δ3 M3 x1 x2 x3 x4 x5=>?_⟩;refine⟨δ3,M3,_,x1,x2,x5,λb H4 M4 y2 y3 y5=>?_⟩;cases b with
   | true=>rw[df rfl]at y5 ⊢;refine⟨δ3,M4,_,x1.mono y3,y2,y5,λv H5 d M5 z1 z2 z3 z4=>⟨ds.length - (i+1),by omega,rfl,WV,δ3,M5,acc++[d],x1.mono (y3.trans z3),z2,(Yi.mono (e2.trans (x3.trans (y3.trans z3)))).snoc z1,z4.1,e'.trans (e2.trans (x3.trans (y3.trans z3))),z4.2⟩⟩
   | false=>rw[cZ dB]at y5 ⊢;exact⟨ds.length - (i+1),by omega,rfl,WV,δ3,M4,acc,x1.mono y3,y2,Yi.mono (e2.trans (x3.trans y3)),y5.1,e'.trans (e2.trans (x3.trans y3)),y5.2⟩
  .have e:i=ds.length:=by omega
   subst e;rw[jI]at q';refine .inl ⟨S.stop H' M' Ye ZH e',by rw[<-Yi.length];exact q'.1,λp hp=>?_⟩;have e5:qQ X.K H' (upd H' p (.lst ys)):=.new hp;exact k _ _ _ _ .ref (Ye.new (c:=.lst acc) hp ⟨_,qh,Yi.mono e5⟩) (e1.trans (e'.trans e5)) (q'.2 p (Ye.fresh hp))⟩
def qH(hc:X.calm=true)(S:sr X scope ix N')(hi:I3 X tg iter wi)(hg:∀{C s0 H0 ex},G3 (X.comp scope N' C s0 H0 ex) tg g)(ht:∀{C s0 H0 ex},F3 (X.comp scope N' C s0 H0 ex) Xi tt)(he:∀{C s0 H0 ex},E3 (X.comp scope N' C s0 H0 ex) Xy te) (hs:∀x,foldedSetIterable iter X.env x=pure x:=by intro _;rfl):E3 X (.ListComp Xy [⟨tg,iter,Xi,0⟩] scope pos) (LZ ix wi g tt te):=PE.mono (NT (g:=UX X.K g) (tt:=SR X.K tt) (te:=lo X.K te) hc S hi (λ_ _ _ _=>hg) (λ_ _ _ _=>ht) (λ_ _ _ _=>he) hs) Jv
def vA{i:Nat}{x:Str}{px Yt:Pos}(hN:X.N.Nodup)(hix:X.N[i]?=some x)(hx:Lc X.env.scope x)(hc:X.calm=true)(S:sr X scope ix N')(hi:I3 X tg iter wi)(hg:∀{C s0 H0 ex},G3 (X.comp scope N' C s0 H0 ex) tg g)(ht:∀{C s0 H0 ex},F3 (X.comp scope N' C s0 H0 ex) Xi tt) (he:∀{C s0 H0 ex},E3 (X.comp scope N' C s0 H0 ex) Xy te) (Yd:swapsWith (.ListComp Xy [⟨tg,iter,Xi,0⟩] scope pos) (some (.Name x px)) Yt.line X.env=pure true:=by rfl)
  (hf:Nq X x:=by first|exact .inl rfl|exact .inr rfl|assumption) (hs:∀x,foldedSetIterable iter X.env x=pure x:=by intro _;rfl):
  S3 X (.Assign [.Name x px] (.ListComp Xy [⟨tg,iter,Xi,0⟩] scope pos) Yt) (Ab (LZ ix wi g tt te) (sP i)):=PS.nR (HF (g:=UX X.K g) (tt:=SR X.K tt) (te:=lo X.K te) hN hix hx hc S hi (λ_ _ _ _=>hg) (λ_ _ _ _=>ht) (λ_ _ _ _=>he) Yd hf hs) λD' σ H hl zz=>KH zz λδ M D hs hm ht k1 k2 k3 k4=>
 Jv σ H _ ⟨δ,M,_,hs,hm,ht,λv H1 d M1 hd WJ e1 q1=>k1 _ H1 _ M1 ((hs.mono e1).set hd (by rw[hl];exact(c9.mp hix).1)) WJ e1 (by simp) q1⟩
def V4{A:Ar}{k:Nat}(hr:r6 k A):A.units+9<cLine:=by have:=hr.units;omega
def G9(sc:Scope)(N:QQQ)(scope:Scope)(ix:List (Option Nat))(N':QQQ):Bool:=
 (scope.kind==.function)&&(scope.names.all λy=>!(y.2==.cell))&&(scope.names.all λy=>!(y.2==.local)||(scope.names.lookup y.1==some .local))&&
 (scope.names.all λy=>!(y.2==.free)||(sc.names.lookup y.1==some .cell)||(sc.names.lookup y.1==some .free))&&(ix.length==N'.length)&&
 ((ix.zip N').all λp=>match p.1 with|none=>true|some i=>(N[i]?==some p.2)&&(scope.names.lookup p.2==some .free))
def Ua{X:Cx}{scope:Scope}{ix:List (Option Nat)}{N':QQQ}(h:G9 X.env.scope X.N scope ix N'=true):sr X scope ix N':=by
 unfold G9 at h;simp only[dU]at h;obtain⟨⟨⟨⟨⟨h1,h2⟩,h3⟩,h4⟩,h5⟩,h6⟩:=h;refine⟨by simpa using h1,λy hy e=>?_,λy hy e=>?_,λy hy e=>?_,by simpa using h5,λj i x e1 e2=>?_⟩
 .have:=eK.mp h2 y hy;rw[e]at this;simp at this
 .have:=eK.mp h3 y hy;rw[e]at this
  simpa using this
 .have:=eK.mp h4 y hy;rw[e]at this
  simpa using this
 .have hm:(some i,x)∈ix.zip N':=by
   have:(ix.zip N')[j]?=some (some i,x):=by rw[il];exact⟨e1,e2⟩
   exact fu this
  have:=eK.mp h6 _ hm
  simpa using this
section
variable {a b:Expr}
def IP(op Xx:CmpOp)(ta tb tc:T3):T3:=λδ M Q=>ta δ M λx M1=>tb δ M1 λy M2=>PQ op x y M2 λz M3=>match z with
 | .bl k=>if k=true then tc δ M3 λw M4=>PQ Xx y w M4 Q else Q (.bl false) M3
 | _=>False
def uz{op Xx:CmpOp}(hu:X.A.units+9<cLine)(ha:E3 X a ta)(hb:E3 X b tb)(hc:E3 X c tc)(hmk:lastMarks [op,Xx] [b,c]=false:=by rfl):
  E3 X (.Compare a [op,Xx] [b,c] pos) (IP op Xx ta tb tc):=PE.mono (L' (Kk op hu) (Kk Xx hu) ha hb hc hmk) λσ H Q' zz=>x7 zz λδ M Q hs hm ht k=>
 ⟨δ,M,_,hs,hm,ht,λv H1 x M1 hx WJ e1 q1=>⟨δ,M1,_,hs.mono e1,WJ,q1,λu H2 y M2 hy WZ e2 q2=>⟨x,y,M2,_,hx.mono e2,hy,WZ,q2,λw H3 z M3 hz XC e3 q3=>by
  cases z with
  | bl c=>
   refine⟨c,hz.mP,?_⟩;cases c with
   | true=>refine(df rfl).mpr ⟨δ,M3,_,hs.mono (e1.trans (e2.trans e3)),XC,(df rfl).mp q3,λw' H4 d M4 hd hm4 e4 q4=>⟨y,d,M4,Q,hy.mono (e3.trans e4),hd,hm4,q4,vK (e1.trans (e2.trans (e3.trans e4))) k⟩⟩
   | false=>exact(cZ dB).mpr (k _ H3 _ M3 .bl XC (e1.trans (e2.trans e3)) ((cZ dB).mp q3))
  | _=>exact q3.elim⟩⟩⟩
def Gv{op Xx:CmpOp}(hu:X.A.units+9<cLine)(ha:E3 X a ta)(hb:E3 X b tb)(hc:E3 X c tc)(hmk:lastMarks [op,Xx] [b,c]=false:=by rfl):
  B3 X (.Compare a [op,Xx] [b,c] pos) (b3 (IP op Xx ta tb tc)):=PT.mono (Na (Kk op hu) (Kk Xx hu) ha hb hc hmk) λσ H Q' zz=>x7 zz λδ M Q hs hm ht k=>
 ⟨δ,M,_,hs,hm,ht,λv H1 x M1 hx WJ e1 q1=>⟨δ,M1,_,hs.mono e1,WJ,q1,λu H2 y M2 hy WZ e2 q2=>⟨x,y,M2,_,hx.mono e2,hy,WZ,q2,λw H3 z M3 hz XC e3 q3=>by
  cases z with
  | bl c=>
   refine⟨c,hz.mP,?_⟩;cases c with
   | true=>
    refine(df rfl).mpr ⟨δ,M3,_,hs.mono (e1.trans (e2.trans e3)),XC,(df rfl).mp q3,λw' H4 d M4 hd hm4 e4 q4=>⟨y,d,M4,_,hy.mono (e3.trans e4),hd,hm4,q4,λw5 H5 d5 M5 hd5 hm5 e5 q5=>?_⟩⟩;cases d5 with
    | bl c5=>exact⟨c5,hd5.mP,k c5 H5 M5 hm5 (e1.trans (e2.trans (e3.trans (e4.trans e5)))) q5⟩
    | _=>exact q5.elim
   | false=>exact(cZ dB).mpr ⟨false,rfl,k false H3 M3 XC (e1.trans (e2.trans e3)) ((cZ dB).mp q3)⟩
  | _=>exact q3.elim⟩⟩⟩
structure VU(K:qu)(C:Addr):Prop where
 ha:W.findIn K (.ref C) "__class__"=some (some (.builtin "object.__class__"))
 hn:W.specialIn K (.builtin "object.__class__") "__get__"=some (some (.builtin "getset_descriptor.__get__"))
 htk:W.takesIn K (.builtin "object.__class__")=some true
 hm:W.mroIn K C (.type "object")=some true
def Nt:Option uW->Option Vl
 | some (.lst _)=>some (.type "list")
 | some (.ins C _)=>some (.ref C)
 | some (.dk _)=>some (.type "dict")
 | some (.exc _)=>none
 | none=>none
def Wt(M:Mp):D->Option Vl
 | .mS=>some (.type "NoneType")
 | .bl _=>some (.type "bool")
 | .int _=>some (.type "int")
 | .str _=>some (.type "str")
 | .tup _=>some (.type "tuple")
 | .ref a=>Nt (M a)
 | .ty _=>none
 | .rl _=>some (.type "list")
def Vr:D->Option Vl
 | .ref C=>some (.ref C)
 | .ty n=>some (.type n)
 | _=>none
def QK(K:qu)(ds:List D)(M:Mp)(Q:DK):Prop:=match ds with
 | [x,c]=>(Wt M x).elim False λt=>(Vr c).elim False λcv=>(∀C,t=.ref C->VU K C)/\(W.kitOne K t cv).elim False λb=>Q (.bl b) M
 | _=>False
def JS:C3 X (.builtin "isinstance") (QK X.K):=by
 intro WH s σ H vs us Q' I rv h;obtain⟨ds,M,Q,hd,hm,q,k⟩:=h;unfold QK at q;split at q
 .rename_i x c;obtain⟨v,u,rfl,hv,hw⟩:=D7 hd;obtain⟨t,et,q⟩:=qX q;obtain⟨cv,ec,hC,q⟩:=qX q;obtain⟨b,eb,qb⟩:=qX q;obtain⟨uv,uw,rfl,YY,rv2⟩:=L8 rv;have ecv:uw=cv:=by
   cases c with
   | ref C=>cases hw.mM;cases ec;exact rv2
   | ty n=>cases hw.nU;cases ec;exact rv2
   | _=>cases ec
  subst ecv;have WM:∀tk,EP X WH σ Q' (.bool b) {s with toks:=tk}:=λtk=>⟨.bl b,H,I.tok tk,rfl,k _ _ _ _ .bl hm .refl qb⟩;cases x with
  | mS=>cases hv.mQ;cases et;exact uM I YY .mS eb WM
  | bl y=>cases hv.mP;cases et;exact uM I YY (.bl y) eb WM
  | int y=>cases hv.int_inv;cases et;exact uM I YY (.int y) eb WM
  | str y=>cases hv.str_inv;cases et;exact uM I YY (.str y) eb WM
  | tup ds=>obtain⟨a,xs,rfl,h1,h2⟩:=hv.mT;cases et;cases YY;obtain⟨its,r,p,_⟩:=I.tuple h1;obtain⟨o,g1,g2,_⟩:=p;exact gq W.kitx_tuple I.nk ⟨o,g1,g2⟩ eb (λz=>nomatch z) WM
  | ref a=>
   cases hv.mM;have et:Nt (M a)=some t:=et;cases e:M a with
   | none=>rw[e]at et;cases et
   | some cell=>
    rw[e]at et;have ok:=hm a cell e;cases cell with
    | lst ds=>cases et;obtain⟨xs,e1,_⟩:=ok;exact uM I YY (.lst e1) eb WM
    | ins C fs=>cases et;obtain⟨dx,vs,e1,cl,_⟩:=ok;obtain⟨i1,i2,i3,i4⟩:=hC C rfl;exact uM I YY (.ins e1 cl i1 i2 i3 i4) eb WM
    | dk kvs=>cases et;obtain⟨vs,e1,_⟩:=ok;exact uM I YY (.dK e1) eb WM
    | exc C=>cases et
  | ty n=>cases et
  | rl ds=>obtain⟨p,xs,rfl,h1,h2⟩:=hv.nj;cases et;cases YY;obtain⟨its,r,⟨o,n,g1,g2,_⟩,_⟩:=I.list h1.sq;exact gq lD I.nk ⟨o,g1,g2⟩ eb (λz=>nomatch z) WM
 .exact q.elim
def F2:List D->Option (List Bool)
 | []=>some []
 | .bl b::r=>(F2 r).map (b::·)
 | _::_=>none
theorem FI{K:qu}{H:Hp}:∀{ds:List D} {bs:List Bool} {xs:List V} {us:List Vl},F2 ds=some bs->qk K H ds xs->qE xs us->us=bs.map Value.bool
 | [],bs,xs,us,e,h,r=>by cases e;have:=h.nil_inv;subst this;cases r;rfl
 | d::ds,bs,xs,us,e,h,r=>by
  cases d with
  | bl b=>
   obtain⟨y,ys,rfl,h1,h2⟩:=h.inv;cases h1.mP;unfold F2 at e;cases q:F2 ds with
   | none=>rw[q]at e;cases e
   | some cs=>
    rw[q]at e;cases e;cases r with
    | cons r1 r2=>cases r1;rw[FI q h2 r2];rfl
  | _=>cases e
def Tf(ds:List D)(M:Mp)(Q:DK):Prop:=match ds with
 | [.ref a]=>(oM M a).elim False λes=>(F2 es).elim False λbs=>Q (.bl (bs.all id)) M
 | _=>False
def EC(hc:X.calm=true):C3 X (.builtin "all") Tf:=by
 intro WH s σ H vs us Q' I rv h;obtain⟨ds,M,Q,hd,hm,q,k⟩:=h;unfold Tf at q;split at q
 .rename_i a;obtain⟨v,rfl,hv⟩:=rO hd;obtain⟨es,e0,q⟩:=qX q;obtain⟨bs,e1,q⟩:=qX q;cases hv.mM;obtain⟨u,rfl,ru⟩:=xl rv;cases ru;obtain⟨xs,h1,h2,_⟩:=qy hm e0;obtain⟨its,r,pl,hz⟩:=I.list h1;have ZI:=FI e1 h2 r;subst ZI;have W8:a≠s.heap.objs.size:=by obtain⟨o,_,e,_⟩:=pl;exact dM (dA e)
  refine call_all_walk (gZ pl.isList ?_);refine⟨s.heap.objs.size,_,_,_,_,_,λi=>(bs[i]?).getD true,rfl,kr (A:=X.A.in1) (I.ok.hd hc) _ a W8 (bs.map Value.bool).toArray,⟨⟨_,dI _ rfl,rfl,rfl⟩,?_⟩,λi v s' Q E hP hQ=>?_,λh' tk hk=>?_⟩
  .obtain⟨o,n,e,c,d,q⟩:=pl;exact⟨o,de _ e,c,n,q⟩
  .simp only[iM,dD]at hP;cases e2:bs[i]? with
   | none=>rw[e2]at hP;cases hP
   | some b=>rw[e2]at hP;cases hP;have hQ:Q ((bs[i]?).getD true) s':=hQ;rw[e2]at hQ;exact fm hQ
  .have ea:(List.range (bs.map Value.bool).toArray.size).all (λi=>(bs[i]?).getD true)=bs.all id:=by
    rw[dw,cV];rw[gp,eK,eK];constructor
    .intro z b hb;obtain⟨i,hi,e⟩:=fS hb;have:=z i (gj.mpr hi);rw[cX hi,e]at this;exact this
    .intro z i hi;have X7:=gj.mp hi;rw[cX X7];exact z _ (ib X7)
   rw[ea];refine⟨.bl (bs.all id),H,?_,rfl,k _ _ _ _ .bl hm .refl q⟩;exact I.kept (h':=h') (t':=tk) λb o e=>hk b o (by simpa using dM (dA e)) (de _ e)
 .exact q.elim
def AQ(x:D):List D->Option Nat
 | []=>none
 | d::r=>if Ow d x=true then some 0 else(AQ x r).map (·+1)
theorem IF{K:qu}{H:Hp}{e:D}{w:V}(g:rN K H e w)(fe:va e=true):∀{ds:List D} {xs:List V} {us:List Vl} {j:Nat},qk K H ds xs->qE xs us->ds.all va=true->AQ e ds=some j->
  ∃h:j<us.length,Fm w us[j]=true/\∀m (hm:m<us.length),m<j->Fm w us[m]=false
 | [],_,_,_,_,_,_,q=>by cases q
 | d::ds,_,us,j,h,r,fl,q=>by
  obtain⟨y,ys,rfl,h1,h2⟩:=h.inv;rw[eW,dU]at fl;cases r with
  | @cons _ u _ us' r1 r2=>
   have eu:Fm w u=Ow d e:=by rw[HB r1 (zg h1 fl.1),Jb h1 g fl.1 fe]
   unfold AQ at q;by_cases hq:Ow d e=true
   .rw[df hq]at q;cases q;exact⟨by simp,by simpa [eu]using hq,λm _ hm=>absurd hm (Nat.not_lt_zero m)⟩
   .rw[cZ hq]at q;cases q2:AQ e ds with
    | none=>rw[q2]at q;cases q
    | some j'=>
     rw[q2]at q;cases q;obtain⟨hl,e1,e2⟩:=IF g fe h2 r2 fl.2 q2;refine⟨by simpa using hl,by simpa using e1,λm hm WV=>?_⟩;cases m with
     | zero=>simpa [eu]using hq
     | succ m=>simpa using e2 m (by simpa using hm) (by have z:m+1<j'+1:=WV;omega)
def RQ(x:D)(ds:List D)(M:Mp)(Q:DK):Prop:=match x,ds with
 | .ref a,[y]=>(oM M a).elim False λes=>va y=true/\es.all va=true/\(AQ y es).elim False λj=>Q (.int (j:Nat)) M
 | _,_=>False
def M3(X:Cx)(id:String)(r:D->List D->Mp->DK->Prop):Prop:=V6 X id λvx vs H Q'=>∃x ds M Q,rN X.K H x vx/\qk X.K H ds vs/\HM X.K H M/\r x ds M Q/\Up X.K H Q' Q
def MZ:M3 X "list.index" RQ:=by
 intro WH s σ H vx vs v us Q' I rx rv h;obtain⟨x,ds,M,Q,hx,hd,hm,q,k⟩:=h;unfold RQ at q;split at q
 .rename_i a y;obtain⟨es,e0,f1,f2,q⟩:=qX q;obtain⟨j,e1,q⟩:=qX q;cases hx.mM;cases rx;obtain⟨w,rfl,hw⟩:=rO hd;obtain⟨u,rfl,ru⟩:=xl rv;obtain⟨xs,h1,h2,rd⟩:=qy hm e0;obtain⟨hz,its,n,r,g⟩:=rd.ok I.mV;obtain⟨hl,p1,p2⟩:=IF hw f1 h2 r f2 e1;have hlz:its.length<=sizeLine:=by rw[<-r.length];exact hz
  have h63:=yK;refine jt F.slot_list_index ⟨_,g,rfl⟩ F.entry_list_index (F.args_list_index_2 _ _) (SeqAt.list_indexAt a its.toArray n none #[] u (Fm w) j (by simpa using hl) (by omega) (by simpa using p1) λm hm WV=>by simpa using p2 m (by simpa using hm) WV) ⟨g,?_,?_⟩
  .intro z hz';exact wx ru (zg hw f1) r (ED h2 f2) z (by simpa using hz')
  .exact⟨.int (j:Nat),H,I.tok _,⟨_,rfl⟩,k _ _ _ _ .int hm .refl q⟩
 .exact q.elim
def QE(M:Mp):D->Prop
 | .ref a=>(oM M a).isSome=true
 | _=>False
def Vy(r:D->List D->Mp->DK->Prop)(to:T3)(t:xC):T3:=λδ M Q=>to δ M λx M1=>QE M1 x/\t δ M1 λds M2=>r x ds M2 Q
def R6{K:qu}{H:Hp}{M:Mp}{x:D}{v:V}(hm:HM K H M)(h:rN K H x v)(l:QE M x):Vu K "list" v H:=by
 cases x with
 | ref a=>cases h.mM;obtain⟨ds,e⟩:=jB.mp (show(oM M a).isSome=true from l);obtain⟨xs,h1,_⟩:=qy hm e;exact .inl ⟨rfl,xs,h1⟩
 | _=>exact l.elim
def Qp{id:String}{name:Str}{r:D->List D->Mp->DK->Prop}(slot:Slot "list" name id)(hty:typeOf (.builtin id)=pure (.type "method_descriptor"))(hm:M3 X id r)(ho:E3 X o ta)(ha:A3 X (e::es) t) (WU:attributeBase o name X.env (eval o X.env)=eval o X.env:=by rfl)
  (XZ:((backTo pos (starEach (e::es) X.env)).all (λx=>!x.1)&&(backToKw pos (keywordEach [] X.env)).all (λx=>x.1.isSome)
   &&decide ((e::es).length+([]:List Keyword).length+(if ([]:List Keyword).isEmpty then 0 else 1)<30))=true:=by rfl)
  (W4:(WK.endLine==pos.line)=true:=by rfl) (hs:Bb X e es:=by rfl) (WY:CH X pos es:=by rfl):
  E3 X (.Call (.Attribute o name WK) (e::es) [] pos) (Vy r ta t):=PE.mono (Tw PySem.F.plainAttrs_list slot hty hm ho ha WU XZ W4 hs WY) λσ H Q' zz=>x7 zz λδ M Q hs hm ht k=>
 ⟨δ,M,_,hs,hm,ht,λv H1 x M1 hx WJ e1 q1=>⟨R6 WJ hx q1.1,δ,M1,_,hs.mono e1,WJ,q1.2,λvs H2 ds M2 XY WZ e2 q2=>⟨x,ds,M2,Q,hx.mono e2,XY,WZ,q2,vK (e1.trans e2) k⟩⟩⟩
def xD(ho:E3 X o ta)(ha:A3 X (e::es) t) (WU:attributeBase o "index" X.env (eval o X.env)=eval o X.env:=by rfl)
  (XZ:((backTo pos (starEach (e::es) X.env)).all (λx=>!x.1)&&(backToKw pos (keywordEach [] X.env)).all (λx=>x.1.isSome)
   &&decide ((e::es).length+([]:List Keyword).length+(if ([]:List Keyword).isEmpty then 0 else 1)<30))=true:=by rfl)
  (W4:(WK.endLine==pos.line)=true:=by rfl) (hs:Bb X e es:=by rfl) (WY:CH X pos es:=by rfl):
  E3 X (.Call (.Attribute o "index" WK) (e::es) [] pos) (Vy RQ ta t):=Qp PySem.F.slot_list_index PySem.F.type_list_index MZ ho ha WU XZ W4 hs WY
structure MV(K:qu)(C:Addr)(m:Str)(f:Addr):Prop where
 hg:W.specialIn K (.ref C) "__getattribute__"=some (some (.builtin "type.__getattribute__"))
 rd:W.readsIn K C (.type "type")=true
 fc:W.findCls K (.ref C) (.type "type") m=some (.val (.ref f))
def P9{sp:Sp}{t:TA}{pl:Sem Bool}(cm:MV X.K C m f)(F:xw X.prog X.w X.K X.mg X.base NF k f fd ps sp)(hr:r6 k X.A)(hg:Gl X x)(hm:X.mg x=some (.ref C))(hk:W.keepIn X.K (.ref f)=true)(hb:uS X.K fd ps [])(ha:PA X (e::es) t) (W0:yU x:=by decide) (W6:Bb X e es:=by rfl) (WX:CH X pos es:=by rfl)
  (ht:eval (.Call (.Attribute (.Name x p) m WK) (e::es) [] pos) X.env=(do
   let ov<-eval (.Name x p) X.env
   standAt WK.atName
   let(f,first)<-holding [ov] (getMethod ov m pl)
   callWith pos f first (backTo pos (starEach (e::es) X.env)) (backToKw pos (keywordEach [] X.env))):=by rfl):
  PE X (.Call (.Attribute (.Name x p) m WK) (e::es) [] pos) (λσ H Q=>t σ H λvs H1=>sp vs H1 Q E0):=by
 intro WH s σ H Q I h;refine jW (pl:=pl) (wV I hg hm ?_ W0) ht;refine W.method_cls I.nk cm.hg (W.cls_value I.nk cm.rd cm.fc rfl ?_);refine iO (first:=[]) (h₀:=X.base) I.ok.mod.oC hk (sH (ha pos WH _ σ H _ (I.tok _) h) λus s2 zz=>x5 zz λvs H2 I2 r q2=>⟨I2.nk,?_⟩) W6 WX;exact Fb F hr hb .nil (FW (X:=X)) I2 r (by rw[eZ];exact q2)
def Oy{pl:Sem Bool}(cm:MV X.K C m f)(F:SS X.prog X.w X.K X.mg X.base k f fd ps sp)(hr:r6 k X.A)(hg:Gl X x)(hm:X.mg x=some (.ref C))(hk:W.keepIn X.K (.ref f)=true)(hb:uS X.K fd ps [])(ha:A3 X (e::es) t) (W0:yU x:=by decide) (W6:Bb X e es:=by rfl) (WX:CH X pos es:=by rfl)
  (ht:eval (.Call (.Attribute (.Name x p) m WK) (e::es) [] pos) X.env=(do
   let ov<-eval (.Name x p) X.env
   standAt WK.atName
   let(f,first)<-holding [ov] (getMethod ov m pl)
   callWith pos f first (backTo pos (starEach (e::es) X.env)) (backToKw pos (keywordEach [] X.env))):=by rfl):
  E3 X (.Call (.Attribute (.Name x p) m WK) (e::es) [] pos) (yt sp t):=PE.mono (P9 cm F hr hg hm hk hb ha W0 W6 WX ht) λσ H Q' zz=>x7 zz λδ M Q hs hm ht k=>
 ⟨δ,M,_,hs,hm,ht,λvs H1 ds M1 hd WJ e1 q1=>⟨ds,M1,Q,hd,WJ,q1,vK e1 k⟩⟩
def qv:bootBuiltins "len"=some (.builtin "len"):=by decide+kernel
def RZ:bootBuiltins "min"=some (.builtin "min"):=by decide+kernel
def Dl:bootBuiltins "isinstance"=some (.builtin "isinstance"):=by decide+kernel
def E4:bootBuiltins "all"=some (.builtin "all"):=by decide+kernel
def sA:bootBuiltins "tuple"=some (.type "tuple"):=by decide+kernel
def sZ:bootBuiltins "list"=some (.type "list"):=by decide+kernel
def Np:bootBuiltins "int"=some (.type "int"):=by decide+kernel
def Pj:bootBuiltins "bool"=some (.type "bool"):=by decide+kernel
def Fw:bootBuiltins "dict"=some (.type "dict"):=by decide+kernel
def EY:bootBuiltins "enumerate"=some (.type "enumerate"):=by decide+kernel
def QL:bootBuiltins "zip"=some (.type "zip"):=by decide+kernel
end
theorem _root_.L2.Inv.drawn{ch:QXQ}{T:Addr}{xs:List V}{its:List Vl}{h':Heap}{tk:Nat}(I:Inv X WH σ H s)(XE:∀b∈ch,A9 X WH H b)(k:∀b o,b∉ch->s.heap.get? b=some o->h'.get? b=some o)(hT:s.heap.objs.size<=T)(hx:xs.length<=sizeLine) (rv:qE xs its) (ht:E1 h' T its.toArray):Inv X WH σ (upd H T (.tup xs)) {s with heap:=h',toks:=tk}:=by
 have YZ:H T=none:=I.mV.fresh hT;have nT:∀b o,s.heap.get? b=some o->b≠T:=λb o e=>dM (dR (dA e) hT);refine I.step (g':=s.gens) (d':=s.drawn) (ch:=ch) (λb hb=>⟨(XE b hb).2.2.2.1,(XE b hb).2.1,(XE b hb).2.2.2.2.1,(XE b hb).2.2.2.2.2⟩) (λb o _ _ hc e _=>k b o hc e) (λb o _ _ hc e _=>⟨o.slots,k b o hc e⟩) (λb o _ e n=>by rw[pW (nT b o e)];exact n)
  (λb o hc e=>⟨o,k b o hc e⟩) (λb ys e=>by rw[pW (qO e YZ)];exact e) (λb o u e=>by rw[pW (qO e YZ)];exact e) (λb ps e=>⟨#[],by rw[pW (qO e YZ),e];simp⟩) (λm hm=>?_) (λb u e=>?_) I.bare
 .obtain⟨o,es,ep,ho,r⟩:=hm;exact⟨o,es,ep,k _ o (λz=>(XE _ z).2.1 rfl) ho,r⟩
 .by_cases hb:b=T
  .subst hb;rw[qh]at e;cases e;exact⟨hx,its,rv,ht⟩
  .rw[pW hb]at e;refine(I.mV b u e).nz (λc v hc q=>k c v (λz=>?_) q) (λc q=>by rw[pW (qO q YZ)];exact q) (λc ys q=>by rw[pW (qO q YZ)];exact q);have n:=(XE c z).1;rcases hc with y|y
   .rw[y,e]at n;cases n
   .rw[y]at n;cases n
def Vx(K:qu)(a:Addr):It:=
 ⟨λi H=>∃xs x,yT K H a xs/\xs[i]?=some x,λi H x H'=>∃p y,x=.ref p/\H p=none/\H'=upd H p (.tup [.int (i:Nat),y])/\∀xs,yT K H a xs->xs[i]?=some y,λi H=>∃xs,yT K H a xs/\xs.length<=i⟩
def JW{P:Pg}{w:Wo}{K:qu}{Xj:List Expr}{n:Nat}{tp:Pos}(a e it:Addr)(hei:e≠it):Gw P w K (.Tuple Xj n tp) (Vx K a) [e,it] e (λi h=>(∃Xe,IsEnum h e it (i:Nat) Xe)/\h.IsListIter it a i) where
 mem:=by simp
 obj:=λi h st b hb=>by
  obtain⟨⟨Xe,he⟩,o,e1,c,d⟩:=st;rcases dg.mp hb with rfl|hb
  .exact⟨_,he,λv z=>by cases z⟩
  .rw[dz.mp hb];exact⟨o,e1,λv z=>by rw[d]at z;cases z⟩
 keep:=λi h h' st k=>by obtain⟨⟨Xe,he⟩,hi⟩:=st;exact⟨⟨Xe,k e (by simp) _ he⟩,hi.at λo q=>k it (by simp) o q⟩
 item:=by
  intro X hP hw hK hc i WH s σ H E I hf st hg;subst hP hw hK;obtain⟨xs,x,hq,hx⟩:=hg;obtain⟨its,rv,p,hz⟩:=I.list hq;obtain⟨u,hu,ru⟩:=rv.get hx;obtain⟨⟨Xe,he⟩,hi⟩:=st;refine wpAny_pyNext_enum_item he hi p.isList (x:=u) (by simpa using hu) hei λh1 ho Yj hT hsz hk=>?_;refine⟨_,rfl,wpAny_letOwnedTupleGo_enum ho λh2 he2 Yo=>?_⟩;have helt:e<s.heap.objs.size:=dA he;have hilt:it<s.heap.objs.size:=by obtain⟨o,q,_⟩:=hi;exact dA q
  have kk:∀b o,b∉[e,it]->s.heap.get? b=some o->h2.get? b=some o:=λb o hb q=>(Yo.2 b λz=>hb (by simp[z])).trans (hk b o (λz=>hb (by simp[z])) (λz=>hb (by simp[z])) q);have hT2:h2.get? s.heap.objs.size=some {cls:=.type "tuple",data:=.seq #[.int (i:Nat) s.toks,u]}:=(Yo.2 _ (gM helt)).trans hT;have YZ:H s.heap.objs.size=none:=I.mV.fresh (dv _);have I2:=I.drawn (ch:=[e,it]) (T:=s.heap.objs.size) (xs:=[.int (i:Nat),x]) (its:=[.int (i:Nat) s.toks,u]) (h':=h2) (tk:=s.toks+1) hf kk (dv _) (by show 2<=sizeLine;decide) (.cons ⟨_,rfl⟩ (.cons ru .nil)) ⟨_,hT2,rfl,⟨_,rfl⟩,rfl⟩;refine⟨.ref s.heap.objs.size,_,I2,rfl,⟨_,x,rfl,YZ,rfl,λys hy=>by rw[I.nQ hy hq];exact hx⟩,⟨⟨_,by simpa using he2⟩,Yj.extBut Yo.extBut (dP hei)⟩,λb hb=>?_⟩;have Xz:b<s.heap.objs.size:=by
   rcases dg.mp hb with z|z
   .rw[z];exact helt
   .rw[dz.mp z];exact hilt
  rw[pW (dM Xz)];exact(hf b hb).1
 done:=by intro X hP hw hK hc i WH s σ H E I hf st hg;subst hP hw hK;obtain⟨xs,hq,hx⟩:=hg;obtain⟨its,rv,p,hz⟩:=I.list hq;obtain⟨⟨Xe,he⟩,hi⟩:=st;have hl:=rv.length;obtain⟨f0,f1,f2,f3,f4,f5⟩:=hf it (by simp);exact wpAny_pyNext_enum_end (I.ok.hd hc) he hi p.isList (by simp;omega) λh' eb=>⟨rfl,I.turned (t':=s.toks) (λb o hb q=>eb b o hb q) f0 f1 f3 f4 f5⟩
 self:=λ_ _ _ _ _ st h=>by obtain⟨⟨Xe,he⟩,_⟩:=st;exact lz he h
variable {tp:Pos}{Xj:List Expr}{n:Nat}
def NY{a:Expr}{ta:TA}(hg:Gl X "enumerate")(hm:X.mg "enumerate"=none)(ha:PA X [a] ta)(hs:starEach [a] X.env=[(false,eval a X.env)]:=by rfl):
  PI X (.Tuple Xj n tp) (.Call (.Name "enumerate" p) [a] [] pos) (λσ H R=>ta σ H λvs H1=>∃l,vs=[.ref l]/\(∃xs,yT X.K H1 l xs)/\R (Vx X.K l) H1):=by
 intro WH s σ H R I h;refine Call_ (wF I hg hm EY (fZ (sH (ha pos WH s σ H _ I h) λus s1 zz=>x5 zz λvs H1 I1 r1 q1=>?_) hs rfl));obtain⟨l,e,⟨xs,hq⟩,q⟩:=q1;subst e;obtain⟨u,rfl,ru⟩:=xl r1;cases ru;obtain⟨its,rv,pl,hz⟩:=I1.list hq;refine call_enumerate_list pl.isList λh' he hi hsz hk=>?_;refine lz he ?_;have I2:Inv X WH σ H1 {s1 with heap:=h'}:=I1.kept (t':=s1.toks) hk;refine⟨s1.heap.objs.size+1,[s1.heap.objs.size+1,s1.heap.objs.size],_,_,H1,rfl,I2,JW l _ _ (Nat.succ_ne_self _),⟨⟨_,he⟩,hi⟩,λb hb=>?_,q⟩;have Xz:s1.heap.objs.size<=b:=by
  rcases dg.mp hb with z|z
  .rw[z];exact gY _
  .rw[dz.mp z];exact dv _
 exact I1.nY Xz (I1.mV.fresh Xz)
def uF:Nat->List D->List D
 | _,[]=>[]
 | i,d::r=>.tup [.int (i:Nat),d]::uF (i+1) r
theorem yY:∀{ds:List D} {i j:Nat},(uF j ds)[i]?=(ds[i]?).map λd=>D.tup [.int ((j+i:Nat):Int),d]
 | [],i,j=>by simp[uF]
 | d::r,0,j=>by simp[uF]
 | d::r,i+1,j=>by show(uF (j+1) r)[i]?=_;rw[yY];simp only[List.getElem?_cons_succ];rw[show j+1+i=j+(i+1)by omega]
theorem vw:∀{ds:List D} {j:Nat},(uF j ds).length=ds.length
 | [],j=>rfl
 | d::r,j=>by simp[uF,vw]
def KJ{K:qu}{H1:Hp}{a:Addr}{ds:List D}:FQ K H1 (Vx K a) (uF 0 ds) (λM=>oM M a=some ds) where
 go:=λi H M hi hm ok _=>by rw[vw]at hi;obtain⟨xs,h1,h2,_⟩:=qy hm ok;obtain⟨x,e,_⟩:=h2.get (cX hi);exact⟨xs,x,h1,e⟩
 oO:=λi d H M x H' hd hm ok _ y=>by
  obtain⟨xs,h1,h2,_⟩:=qy hm ok;obtain⟨p,z,rfl,hp,rfl,y⟩:=y;rw[yY]at hd;cases e:ds[i]? with
  | none=>rw[e]at hd;cases hd
  | some d'=>rw[e]at hd;cases hd;obtain⟨x',e',hx⟩:=h2.get e;have w1:=y xs h1;rw[e']at w1;have w2:x'=z:=dh w1;subst w2;have ex:qQ K H (upd H p (.tup [.int (i:Nat),x'])):=.new hp;refine⟨.tup (.of qh) (.cons (by rw[mB];exact .int) (.cons (hx.mono ex) .nil)),hm.add hp,ex⟩
 stop:=λH M hm ok _=>by obtain⟨xs,h1,h2,_⟩:=qy hm ok;exact⟨xs,h1,by rw[vw,h2.length];exact dv _⟩
def SB(t:xC):NH:=λδ M R=>t δ M λds M1=>match ds with
 | [.ref a]=>(oM M1 a).elim False λes=>R (uF 0 es) (λM=>oM M a=some es) M1
 | _=>False
def vf{a:Expr}{ta:xC}(hg:Gl X "enumerate")(hm:X.mg "enumerate"=none)(ha:A3 X [a] ta)(hs:starEach [a] X.env=[(false,eval a X.env)]:=by rfl):I3 X (.Tuple Xj n tp) (.Call (.Name "enumerate" p) [a] [] pos) (SB ta):=
 PI.mono (NY hg hm ha hs) λσ H R' zz=>x7 zz λδ M R hs hm ht k=>⟨δ,M,_,hs,hm,ht,λvs H1 ds M1 hd WJ e1 q1=>by
  split at q1
  .obtain⟨v,rfl,hv⟩:=rO hd;cases hv.mM;obtain⟨es,e0,q⟩:=qX q1;obtain⟨xs,h1,h2,_⟩:=qy WJ e0;exact⟨_,rfl,⟨xs,h1⟩,k _ H1 _ _ M1 KJ WJ e1 e0 q⟩
  .exact q1.elim⟩
variable {prog:Pg}{A:Ar}{E:QQX}
def HH{it t:Addr}{i:Nat}{its:Array Vl}{x:Vl}{Q:QQX}(hi:s.heap.IsTupleIter it t i)(ht:s.heap.IsTuple t its)(hx:its[i]?=some x) (hQ:∀g,g.IsTupleIter it t (i+1)->Heap.SameBut it s.heap g->Q x {s with heap:=g}):wpAny (model prog w) A (Builtin.SmallTypes.nextOf (.ref it)) Q E s:=by
 obtain⟨ob,e1,e2,e3⟩:=id hi;obtain⟨ot,e4,_,nt,e5⟩:=ht;unfold Builtin.SmallTypes.nextOf;refine cW (fO (name:=Str.ofString "__next__") hi.typeIs gG (fV gG hi.typeIs ji ?_ (jd _)));show wpAny (model prog w) _ (field (.ref it) 0>>=_) _ _ s;refine cW (fk e1 e3 (x:=.ref t) rfl ?_);show wpAny (model prog w) _ (if (Value.ref t==Value.none)=true then _ else _) _ _ s;rw[cZ (show ¬(Value.ref t==Value.none)=true from dB)];show wpAny (model prog w) _ (field (.ref it) 1>>=_) _ _ s;refine cW (fk e1 e3 (x:=.int i 0) rfl ?_);show wpAny (model prog w) _ (seqItems? (.ref t)>>=_) _ _ s;refine cW (gy e4 e5 ?_);simp only[jn,hx];refine cW (hZ e1 e3 (by simp) (dq ⟨x,rfl,dq (hQ _ ⟨_,fL _ e1 (Obj.isFreed_of_fields (kX e3 _)),(Obj.cls_mapFields ..).trans e2,?_⟩ (kG ..))⟩));rw[kX e3];simp[rawInt]
def BF{it t:Addr}{i:Nat}{its:Array Vl}{Q:QQX}(hh:A.handled=none)(hi:s.heap.IsTupleIter it t i)(ht:s.heap.IsTuple t its)(hx:its[i]?=none) (hE:∀g e,Heap.ExtBut it s.heap g->(∃o,g.get? e=some o/\o.cls=.type "StopIteration")->E (.ref e) {s with heap:=g}):wpAny (model prog w) A (Builtin.SmallTypes.nextOf (.ref it)) Q E s:=by
 obtain⟨ob,e1,e2,e3⟩:=id hi;obtain⟨ot,e4,_,nt,e5⟩:=ht;unfold Builtin.SmallTypes.nextOf;refine cW (fO (name:=Str.ofString "__next__") hi.typeIs gG (fV gG hi.typeIs ji ?_ (jd _)));show wpAny (model prog w) _ (field (.ref it) 0>>=_) _ _ s;refine cW (fk e1 e3 (x:=.ref t) rfl ?_);show wpAny (model prog w) _ (if (Value.ref t==Value.none)=true then _ else _) _ _ s;rw[cZ (show ¬(Value.ref t==Value.none)=true from dB)];show wpAny (model prog w) _ (field (.ref it) 1>>=_) _ _ s;refine cW (fk e1 e3 (x:=.int i 0) rfl ?_);show wpAny (model prog w) _ (seqItems? (.ref t)>>=_) _ _ s;refine cW (gy e4 e5 ?_);simp only[jn,hx];refine cW (kq (cW (hZ e1 e3 (by simp) ?_)));show wpAny (model prog w) _ (newExc (.type "StopIteration") []>>=_) _ _ _;refine cW ?_;simp only[newExc,newTuple];refine cW (fX ?_ (by size_fits));refine cW (m:=firstArgMember _ _) (wpAny_of_eq (a:=Value.none) (by first|rfl|(simp only[firstArgMember];rfl)) ?_);refine fX ?_ (by size_fits);simp only[raiseNew];refine cW (wpAny_handled ?_)
 first|rw[show A.in1.handled=none from hh]|rw[hh]
 refine cW (dq (wpAny_throw (hE _ _ (((kG ..).extBut.push _).push _) ⟨_,dI _ rfl,rfl⟩)))
def yg{prog:Pg}{w:Wo}{A:Ar}(hh:A.handled=none)(it t:Addr)(W8:t≠it)(its:Array Vl):
  Draws prog w A it [it,t] its.size (λi v=>its[i]?=some v) (λi h=>h.IsTupleIter it t i/\h.IsTuple t its) where
 live:=λi h st=>let⟨o,ho,_⟩:=st.1;⟨o,ho⟩
 frame:=λi h g st hk=>by obtain⟨⟨o,e1,e2⟩,⟨o',e3,e4⟩⟩:=st;exact⟨⟨o,hk it (by simp) o e1,e2⟩,⟨o',hk t (by simp) o' e3,e4⟩⟩
 item:=λi s Q E hi st hQ=>HH st.1 st.2 (x:=its[i]) (by simp[hi]) λg hg hs=>hQ _ g s.toks (by simp[hi]) ⟨hg,st.2.extBut hs.extBut W8⟩ hs
 done:=λs Q E st hE=>BF hh st.1 st.2 (by simp) hE
structure Ag(z TI TO i1 i2:Addr)(f1 f2:QXQ):Prop where
 a1:TI≠z
 a2:TO≠z
 a3:i1≠z
 a4:i2≠z
 a5:TI≠TO
 a6:TI≠i1
 a7:TI≠i2
 a8:TO≠i1
 a9:TO≠i2
 pf:i1≠i2
 b1:z∉f1
 b2:TO∉f1
 b3:i2∉f1
 c1:z∉f2
 c2:TO∉f2
 c3:i1∉f2
variable {z TI TO i1 i2:Addr}{f1 f2:QXQ}{n1 n2 k1 k2:Nat}{P1 P2:Nat→Vl→Prop}{S1 S2:Nat→Heap→Prop}
section
variable {a b:Vl}
def su{fp:QXQ}{it:Addr}{n:Nat}{Pt:Nat->Vl->Prop}{St:Nat->Heap->Prop}(Dr:Draws prog w A it fp n Pt St){i:Nat}{h g:Heap}{c:Addr}(st:St i h)(hs:Heap.SameBut c h g)(hc:c∉fp):St i g:=
 Dr.frame _ _ _ st λd hd o e=>(hs.2 d λq=>hc (q ▸ hd)).trans e
def JF{Q:QQX}(D1:Draws prog w A i1 f1 n1 P1 S1)(D2:Draws prog w A i2 f2 n2 P2 S2)(W1:Ag z TI TO i1 i2 f1 f2)(hz:IsZip s.heap z TI TO .none)(hI:IsPair s.heap TI (.ref i1) (.ref i2))(hO:IsPair s.heap TO a b) (Xm:S1 k1 s.heap) (W7:S2 k2 s.heap) (l1:k1<n1) (l2:k2<n2) (hQ:∀x y g tk,P1 k1 x->P2 k2 y->IsZip g z TI TO (rawInt s.heap.objs.size)->IsPair g TO x y->S1 (k1+1) g->S2 (k2+1) g->IsPair g s.heap.objs.size x y->g.objs.size=s.heap.objs.size+1->
   (∀c o,c≠z->c≠TO->c≠i1->c≠i2->s.heap.get? c=some o->g.get? c=some o)->Q (.ref s.heap.objs.size) {s with heap:=g,toks:=tk}):
  wpAny (model prog w) A (Builtin.«zip.__next__» ⟨[.ref z],[]⟩) (λWM s'=>∃v,WM=.done (.ret v)/\Q v s') E s:=by
 show wpAny (model prog w) A (field (.ref z) 2>>=_) _ _ _;refine cW (fk hz rfl (x:=.bool false) rfl ?_);show wpAny (model prog w) A (field (.ref z) 3>>=_) _ _ _;refine cW (fk hz rfl (x:=.ref TI) rfl (cW (gy hI rfl ?_)));show wpAny (model prog w) A (Builtin.SmallTypes.ownedTupleIsFree (.ref z)>>=_) _ _ _;refine cW ?_;unfold Builtin.SmallTypes.ownedTupleIsFree;refine cW (fk hz rfl (x:=.none) rfl (dq ?_));simp only[jb];refine cW (kq (cW (fk hz rfl (x:=.ref TO) rfl (cW (gB hz (by simp) λg1 z1 Yy=>?_)))));replace z1:IsZip g1 z TI TO .ellipsis:=z1;refine cW ?_;simp only[lU,me,jS,j7];refine cW (cW (jm ?_));show wpAny (model prog w) A (Builtin.SmallTypes.nextOf (.ref i1)>>=_) _ _ _;have Yz:S1 k1 g1:=su D1 Xm Yy W1.b1;refine cW (D1.item k1 _ _ _ l1 Yz λx g2 tk2 px st1b XG=>dq ?_);replace XG:Heap.SameBut i1 g1 g2:=XG;have o2:IsPair g2 TO a b:=XG.extBut _ _ W1.a8 (Yy.extBut _ _ W1.a2 hO);refine cW (gy o2 rfl (cW (iR o2 λg3 o3 XS=>?_)));replace o3:IsPair g3 TO x b:=o3;replace XS:Heap.SameBut TO g2 g3:=XS;refine cW (lF (dq (cW (cW (jm ?_)))));show wpAny (model prog w) A (Builtin.SmallTypes.nextOf (.ref i2)>>=_) _ _ _;have Y0:S2 k2 g3:=su D2 (su D2 (su D2 W7 Yy W1.c1) XG W1.c3) XS W1.c2;refine cW (D2.item k2 _ _ _ l2 Y0 λy g4 tk4 py st2b YI=>dq ?_);replace YI:Heap.SameBut i2 g3 g4:=YI;have o4:IsPair g4 TO x b:=YI.extBut _ _ W1.a9 o3;refine cW (gy o4 rfl (cW (iR o4 λg5 o5 YJ=>?_)));replace o5:IsPair g5 TO x y:=o5;replace YJ:Heap.SameBut TO g4 g5:=YJ;refine cW (lF (dq (dq (cW (gy o5 rfl (cW (wpAny_newTuple ?_)))))));have esz:g5.objs.size=s.heap.objs.size:=by rw[YJ.1,YI.1,XS.1,XG.1,Yy.1]
 have z5:IsZip g5 z TI TO .ellipsis:=YJ.extBut _ _ W1.a2.symm (YI.extBut _ _ W1.a4.symm (XS.extBut _ _ W1.a2.symm (XG.extBut _ _ W1.a3.symm z1)));have kp:∀c o,c≠z->c≠TO->c≠i1->c≠i2->s.heap.get? c=some o->g5.get? c=some o:=λc o q1 q2 q3 q4 q=>YJ.extBut _ _ q2 (YI.extBut _ _ q4 (XS.extBut _ _ q2 (XG.extBut _ _ q3 (Yy.extBut _ _ q1 q))));have st1c:S1 (k1+1) g5:=su D1 (su D1 (su D1 st1b XS W1.b2) YI W1.b3) YJ W1.b2;have st2c:S2 (k2+1) g5:=su D2 st2b YJ W1.c2;have zlt:z<g5.objs.size:=dA z5;show wpAny (model prog w) A (Builtin.SmallTypes.ownedTupleHandOut (.ref z) (.ref g5.objs.size)>>=_) _ _ _;refine cW ?_;unfold Builtin.SmallTypes.ownedTupleHandOut;have z6:IsZip (g5.push {cls:=.type "tuple",data:=.seq #[x,y]}) z TI TO .ellipsis:=de _ z5;refine cW (gB z6 (by simp) λg7 z7 sb7=>?_);replace z7:IsZip g7 z TI TO (rawInt g5.objs.size):=z7;refine gB z7 (by simp) λg8 z8 sb8=>?_;replace z8:IsZip g8 z TI TO (rawInt g5.objs.size):=z8;have up:∀c o,c≠z->g5.get? c=some o->g8.get? c=some o:=λc o q1 q=>sb8.extBut _ _ q1 (sb7.extBut _ _ q1 (de _ q));have tu:IsPair g8 g5.objs.size x y:=sb8.extBut _ _ (gM zlt) (sb7.extBut _ _ (gM zlt) (dI _ rfl));have es8:g8.objs.size=g5.objs.size+1:=by rw[sb8.1,sb7.1,fv]
 rw[esz]at z8 tu es8;refine dq ⟨_,rfl,?_⟩;show Q (.ref g5.objs.size) _;rw[esz];exact hQ x y g8 _ px py z8 (up _ _ W1.a2 o5) (D1.frame _ _ _ st1c λc hc o q=>up c o (λr=>W1.b1 (r ▸ hc)) q) (D2.frame _ _ _ st2c λc hc o q=>up c o (λr=>W1.c1 (r ▸ hc)) q) tu es8 λc o q1 q2 q3 q4 q=>up c o q1 (kp c o q1 q2 q3 q4 q)
def Le{Q:Fin->Sd->Prop}(D1:Draws prog w A i1 f1 n1 P1 S1)(D2:Draws prog w A i2 f2 n2 P2 S2)(W1:Ag z TI TO i1 i2 f1 f2)(hz:IsZip s.heap z TI TO .none)(hI:IsPair s.heap TI (.ref i1) (.ref i2))(hO:IsPair s.heap TO a b) (Xm:S1 k1 s.heap) (W7:S2 k1 s.heap) (ZJ:k1=n1\/(k1<n1/\k1=n2)) (hE:∀g e,(∀c o,c≠z->c≠TO->c≠i1->c≠i2->s.heap.get? c=some o->g.get? c=some o)->(∃o,g.get? e=some o/\o.cls=.type "StopIteration")->∀tk,E (.ref e) {s with heap:=g,toks:=tk}):
  wpAny (model prog w) A (Builtin.«zip.__next__» ⟨[.ref z],[]⟩) Q E s:=by
 show wpAny (model prog w) A (field (.ref z) 2>>=_) _ _ _;refine cW (fk hz rfl (x:=.bool false) rfl ?_);show wpAny (model prog w) A (field (.ref z) 3>>=_) _ _ _;refine cW (fk hz rfl (x:=.ref TI) rfl (cW (gy hI rfl ?_)));show wpAny (model prog w) A (Builtin.SmallTypes.ownedTupleIsFree (.ref z)>>=_) _ _ _;refine cW ?_;unfold Builtin.SmallTypes.ownedTupleIsFree;refine cW (fk hz rfl (x:=.none) rfl (dq ?_));simp only[jb];refine cW (kq (cW (fk hz rfl (x:=.ref TO) rfl (cW (gB hz (by simp) λg1 z1 Yy=>?_)))));replace z1:IsZip g1 z TI TO .ellipsis:=z1;refine cW ?_;simp only[lU,me,jS,j7];refine cW (cW (jm ?_));show wpAny (model prog w) A (Builtin.SmallTypes.nextOf (.ref i1)>>=_) _ _ _;have Yz:S1 k1 g1:=su D1 Xm Yy W1.b1;rcases ZJ with he|⟨WV,he⟩
 .rw[he]at Yz;refine cW (D1.done _ _ _ Yz λg2 e XG hx=>?_);obtain⟨oe,g,ZK⟩:=hx;have z2:IsZip g2 z TI TO .ellipsis:=XG _ _ W1.a3.symm z1;have hez:e≠z:=λq=>by subst q;rw[z2]at g;cases g;simp at ZK
  exact gB z2 (by simp) λg3 _ XS=>hE g3 e (λc o q1 _ q3 _ q=>XS.extBut _ _ q1 (XG _ _ q3 (Yy.extBut _ _ q1 q))) ⟨oe,XS.extBut _ _ hez g,ZK⟩ _
 .refine cW (D1.item k1 _ _ _ WV Yz λx g2 tk2 px st1b XG=>dq ?_);replace XG:Heap.SameBut i1 g1 g2:=XG;have o2:IsPair g2 TO a b:=XG.extBut _ _ W1.a8 (Yy.extBut _ _ W1.a2 hO);refine cW (gy o2 rfl (cW (iR o2 λg3 o3 XS=>?_)));replace XS:Heap.SameBut TO g2 g3:=XS;refine cW (lF (dq (cW (cW (jm ?_)))));show wpAny (model prog w) A (Builtin.SmallTypes.nextOf (.ref i2)>>=_) _ _ _;have Y0:S2 k1 g3:=su D2 (su D2 (su D2 W7 Yy W1.c1) XG W1.c3) XS W1.c2;rw[he]at Y0;refine cW (D2.done _ _ _ Y0 λg4 e YI hx=>?_);obtain⟨oe,g,ZK⟩:=hx;have z4:IsZip g4 z TI TO .ellipsis:=YI _ _ W1.a4.symm (XS.extBut _ _ W1.a2.symm (XG.extBut _ _ W1.a3.symm z1));have hez:e≠z:=λq=>by subst q;rw[z4]at g;cases g;simp at ZK
  exact gB z4 (by simp) λg5 _ YJ=>hE g5 e (λc o q1 q2 q3 q4 q=>YJ.extBut _ _ q1 (YI _ _ q4 (XS.extBut _ _ q2 (XG.extBut _ _ q3 (Yy.extBut _ _ q1 q))))) ⟨oe,YJ.extBut _ _ hez g,ZK⟩ _
end
abbrev UV(h:Heap)(t:Addr):Heap:=h.push {cls:=.type "tuple_iterator",data:=.fields #[.ref t,.int 0 0]}
abbrev UW(h:Heap)(t u:Addr):Heap:=(UV h t).push {cls:=.type "tuple_iterator",data:=.fields #[.ref u,.int 0 0]}
abbrev UM(h:Heap)(t u:Addr):Heap:=(UW h t u).push {cls:=.type "tuple",data:=.seq #[.ref h.objs.size,.ref (UV h t).objs.size]}
abbrev UR(h:Heap)(t u:Addr):Heap:=(UM h t u).push {cls:=.type "tuple",data:=.seq #[.none,.none]}
abbrev SQ(h:Heap)(t u:Addr):Heap:=(UR h t u).push {cls:=.type "zip",data:=.fields #[.none,.bool false,.bool false,.ref (UW h t u).objs.size,.ref (UM h t u).objs.size]}
def Dg(t u:Addr)(xs ys:Array Vl):
  Meets (Builtin.«zip.__new__» ⟨[.type "zip",.ref t,.ref u],[]⟩) (λ_ R s=>s.heap.IsTuple t xs/\s.heap.IsTuple u ys/\R (.ok (.ret (.ref (UR s.heap t u).objs.size))) {s with heap:=SQ s.heap t u}):=
 .of_wp λprog w A R s h=>by
  obtain⟨hp,g,d,tk,os⟩:=s;obtain⟨e1,e2,h⟩:=h;have Yu:=sub_zip;have q1:Heap.IsTuple (Shared.heap ⟨hp,g,d,tk,os⟩) t xs:=e1;have q2:Heap.IsTuple (Shared.heap ⟨hp.push {cls:=.type "tuple_iterator",data:=.fields #[.ref t,.int 0 0]},g,d,tk,os⟩) u ys:=Heap.IsTuple.push e2 _
  wp_walk using iy q1,iy q2
  exact⟨_,rfl,h⟩
def Ef{t u:Addr}{xs ys:Array Vl}{Q:QQX}(ht:s.heap.IsTuple t xs)(hu:s.heap.IsTuple u ys) (h:∀g,IsZip g (s.heap.objs.size+4) (s.heap.objs.size+2) (s.heap.objs.size+3) .none->IsPair g (s.heap.objs.size+2) (.ref s.heap.objs.size) (.ref (s.heap.objs.size+1))->IsPair g (s.heap.objs.size+3) .none .none->
   g.IsTupleIter s.heap.objs.size t 0->g.IsTupleIter (s.heap.objs.size+1) u 0->(∀c o,s.heap.get? c=some o->g.get? c=some o)->Q (.ref (s.heap.objs.size+4)) {s with heap:=g}):
  wpAny (model prog w) A (call (.type "zip") [.ref t,.ref u]) Q E s:=by
 refine callType_new F.called_zip (by decide) (F.typeCall_zip_2 _ _) (F.newCall_zip_2 _ _) (λobj=>F.args_object_init_3 obj _ _) F.entry_zip_new (Dg t u xs ys) ⟨ht,hu,?_⟩;have m1:(UV s.heap t).objs.size=s.heap.objs.size+1:=fv ..;have m2:(UW s.heap t u).objs.size=s.heap.objs.size+2:=by rw[fv,m1]
 have m3:(UM s.heap t u).objs.size=s.heap.objs.size+3:=by rw[fv,m2]
 have m4:(UR s.heap t u).objs.size=s.heap.objs.size+4:=by rw[fv,m3]
 have up:∀{h:Heap} {c:Addr} {o p:Obj},h.get? c=some o->(h.push p).get? c=some o:=λq=>de _ q;have r5:(SQ s.heap t u).get? (UR s.heap t u).objs.size=some _:=dI _ rfl;have r4:(SQ s.heap t u).get? (UM s.heap t u).objs.size=some _:=up (dI _ rfl);have r3:(SQ s.heap t u).get? (UW s.heap t u).objs.size=some _:=up (up (dI _ rfl));have r2:(SQ s.heap t u).get? (UV s.heap t).objs.size=some _:=up (up (up (dI _ rfl)));have r1:(SQ s.heap t u).get? s.heap.objs.size=some _:=up (up (up (up (dI _ rfl))));show _/\_;rw[m2,m3,m4]at r5;rw[m1,m2]at r3;rw[m3]at r4;rw[m1]at r2;rw[m4];exact⟨⟨_,r5,rfl⟩,h _ r5 r3 r4 ⟨_,r1,rfl,rfl⟩ ⟨_,r2,rfl,rfl⟩ λc o q=>up (up (up (up (up q))))⟩
def GC{z TI TO i1 i2:Addr}{f1 f2:QXQ}{n1 n2 k:Nat}{P1 P2:Nat->Vl->Prop}{S1 S2:Nat->Heap->Prop}{a b:Vl}{Q:Option Vl->Sd->Prop}(D1:Draws prog w A.in1 i1 f1 n1 P1 S1)(D2:Draws prog w A.in1 i2 f2 n2 P2 S2)(W1:Ag z TI TO i1 i2 f1 f2) (hz:IsZip s.heap z TI TO .none) (hI:IsPair s.heap TI (.ref i1) (.ref i2)) (hO:IsPair s.heap TO a b) (Xm:S1 k s.heap) (W7:S2 k s.heap) (l1:k<n1) (l2:k<n2) (hQ:∀x y g tk,P1 k x->P2 k y->IsZip g z TI TO (rawInt s.heap.objs.size)->IsPair g TO x y->S1 (k+1) g->S2 (k+1) g->IsPair g s.heap.objs.size x y->g.objs.size=s.heap.objs.size+1->
   (∀c o,c≠z->c≠TO->c≠i1->c≠i2->s.heap.get? c=some o->g.get? c=some o)->Q (some (.ref s.heap.objs.size)) {s with heap:=g,toks:=tk}):wpAny (model prog w) A (pyNext (.ref z)) Q E s:=by
 have hT:s.TypeIs (.ref z) "zip":=⟨_,hz,rfl⟩;unfold pyNext;refine cW (wpAny_attempt (fO (name:=Str.ofString "__next__") hT iS (fV iS hT lV ?_ (lA _))));exact JF D1 D2 W1 hz hI hO Xm W7 l1 l2 λx y g tk q1 q2 q3 q4 q5 q6 q7 q8 q9=>dq (hQ x y g tk q1 q2 q3 q4 q5 q6 q7 q8 q9)
def A5{z TI TO i1 i2:Addr}{f1 f2:QXQ}{n1 n2 k:Nat}{P1 P2:Nat->Vl->Prop}{S1 S2:Nat->Heap->Prop}{a b:Vl}{Q:Option Vl->Sd->Prop}(D1:Draws prog w A.in1 i1 f1 n1 P1 S1)(D2:Draws prog w A.in1 i2 f2 n2 P2 S2)(W1:Ag z TI TO i1 i2 f1 f2) (hz:IsZip s.heap z TI TO .none) (hI:IsPair s.heap TI (.ref i1) (.ref i2)) (hO:IsPair s.heap TO a b) (Xm:S1 k s.heap) (W7:S2 k s.heap) (ZJ:k=n1\/(k<n1/\k=n2)) (hQ:∀g tk,(∀c o,c≠z->c≠TO->c≠i1->c≠i2->s.heap.get? c=some o->g.get? c=some o)->Q none {s with heap:=g,toks:=tk}):wpAny (model prog w) A (pyNext (.ref z)) Q E s:=by
 have hT:s.TypeIs (.ref z) "zip":=⟨_,hz,rfl⟩;unfold pyNext;refine cW (wpAny_attempt (fO (name:=Str.ofString "__next__") hT iS (fV iS hT lV (Le D1 D2 W1 hz hI hO Xm W7 ZJ λg e kp hx tk=>?_) (lA _))));obtain⟨o,e1,e2⟩:=hx;exact cW (wpAny_isInstance (T:="StopIteration") (b:=true) ⟨o,e1,e2⟩ isSubtype_stop (dq (hQ g tk kp)))
def D6{a b:Addr}{xs:List V}(I:Inv X WH σ H s)(f:A9 X WH H b)(q:ve X.K H a xs):a≠b:=by
 rintro rfl
 rcases q with q|⟨o,its,n,hk,_⟩
 .have z:=f.1;rcases q with q|⟨u,q⟩<;>(rw[q]at z;cases z)
 .have e:=I.mod.oC a o hk;rcases f.2.2.2.1 with z|z
  .exact I.ok.nS a o e z
  .exact absurd (dR (dA e) (d6 I.ok.oa z)) (fi _)
def VB(K:qu)(a b:Addr):It:=
 ⟨λi H=>∃xs ys x y,ve K H a xs/\ve K H b ys/\xs[i]?=some x/\ys[i]?=some y,λi H v H'=>∃p x y,v=.ref p/\H p=none/\H'=upd H p (.tup [x,y])/\(∀xs,ve K H a xs->xs[i]?=some x)/\(∀ys,ve K H b ys->ys[i]?=some y),λi H=>∃xs ys,ve K H a xs/\ve K H b ys/\i=min xs.length ys.length⟩
def Lx{P:Pg}{w:Wo}{K:qu}{Xj:List Expr}{n:Nat}{tp:Pos}(a b z TI TO i1 i2:Addr)(a1:TI≠z)(a2:TO≠z)(a3:i1≠z)(a4:i2≠z)(a5:TI≠TO)(a6:TI≠i1)(a7:TI≠i2)(a8:TO≠i1)(a9:TO≠i2)(pf:i1≠i2):
  Gw P w K (.Tuple Xj n tp) (VB K a b) [z,TI,TO,i1,i2] z (λi h=>IsZip h z TI TO .none/\IsPair h TI (.ref i1) (.ref i2)/\(∃u v,IsPair h TO u v)/\h.IsTupleIter i1 a i/\h.IsTupleIter i2 b i) where
 mem:=by simp
 obj:=λi h st c hc=>by
  obtain⟨h1,h2,⟨u,v,h3⟩,⟨o4,h4,_,d4⟩,⟨o5,h5,_,d5⟩⟩:=st;simp only[dg,dF,eY]at hc;rcases hc with rfl|rfl|rfl|rfl|rfl
  .exact⟨_,h1,λv z=>by cases z⟩
  .exact⟨_,h2,λv z=>by cases z⟩
  .exact⟨_,h3,λv z=>by cases z⟩
  .exact⟨_,h4,λv z=>by rw[d4]at z;cases z⟩
  .exact⟨_,h5,λv z=>by rw[d5]at z;cases z⟩
 keep:=λi h h' st k=>by obtain⟨h1,h2,⟨u,v,h3⟩,⟨o4,h4,c4⟩,⟨o5,h5,c5⟩⟩:=st;exact⟨k z (by simp) _ h1,k TI (by simp) _ h2,⟨u,v,k TO (by simp) _ h3⟩,⟨o4,k i1 (by simp) _ h4,c4⟩,⟨o5,k i2 (by simp) _ h5,c5⟩⟩
 item:=by
  intro X hP hw hK hc i WH s σ H E I hf st hg;subst hP hw hK;obtain⟨xs,ys,x,y,hx,hy,ex,ey⟩:=hg;obtain⟨its,rx,px,_⟩:=I.tuple hx;obtain⟨YH,ry,py,_⟩:=I.tuple hy;obtain⟨u,eu,ru⟩:=rx.get ex;obtain⟨v,ev,rv⟩:=ry.get ey;obtain⟨h1,h2,⟨p,q,h3⟩,h4,h5⟩:=st;have hh:X.A.in1.handled=none:=I.ok.hd hc;have fa:∀c∈[z,TI,TO,i1,i2],a≠c:=λc hc=>D6 I (hf c hc) hx;have fb:∀c∈[z,TI,TO,i1,i2],b≠c:=λc hc=>D6 I (hf c hc) hy;have W1:Ag z TI TO i1 i2 [i1,a] [i2,b]:=⟨a1,a2,a3,a4,a5,a6,a7,a8,a9,pf,by
   simp only[dg,dF,eY,fN];exact⟨dP a3,dP (fa z (by simp))⟩,by
   simp only[dg,dF,eY,fN];exact⟨a8,dP (fa TO (by simp))⟩,by
   simp only[dg,dF,eY,fN];exact⟨dP pf,dP (fa i2 (by simp))⟩,by
   simp only[dg,dF,eY,fN];exact⟨dP a4,dP (fb z (by simp))⟩,by
   simp only[dg,dF,eY,fN];exact⟨a9,dP (fb TO (by simp))⟩,by
   simp only[dg,dF,eY,fN];exact⟨pf,dP (fb i1 (by simp))⟩⟩
  have l1:i<its.toArray.size:=by
   have:=(c9.mp eu).1
   simpa using this
  have l2:i<YH.toArray.size:=by
   have:=(c9.mp ev).1
   simpa using this
  refine GC (yg hh i1 a (fa i1 (by simp)) its.toArray) (yg hh i2 b (fb i2 (by simp)) YH.toArray) W1 h1 h2 h3 ⟨h4,px⟩ ⟨h5,py⟩ l1 l2 λx' y' g tk e1 e2 z1 o1 s1 s2 t1 sz kp=>?_;have e1':x'=u:=by
   have:its[i]?=some x':=by simpa using e1
   rw[eu]at this;exact(dh this).symm
  have YS:y'=v:=by
   have:YH[i]?=some y':=by simpa using e2
   rw[ev]at this;exact(dh this).symm
  subst e1' YS;refine⟨_,rfl,wpAny_letOwnedTupleGo_zip z1 λg2 z2 sb=>?_⟩;have zlt:z<s.heap.objs.size:=dA h1;have kk:∀c o,c∉[z,TI,TO,i1,i2]->s.heap.get? c=some o->g2.get? c=some o:=λc o hc e=>by simp only[dg,dF,eY,fN]at hc;exact(sb.2 c hc.1).trans (kp c o hc.1 hc.2.2.1 hc.2.2.2.1 hc.2.2.2.2 e)
  have t2:g2.get? s.heap.objs.size=some {cls:=.type "tuple",data:=.seq #[x',y']}:=(sb.2 _ (gM zlt)).trans t1;have YZ:H s.heap.objs.size=none:=I.mV.fresh (dv _);have I2:=I.drawn (ch:=[z,TI,TO,i1,i2]) (T:=s.heap.objs.size) (xs:=[x,y]) (its:=[x',y']) (h':=g2) (tk:=tk) hf kk (dv _) (by show 2<=sizeLine;decide) (.cons ru (.cons rv .nil)) ⟨_,t2,rfl,⟨_,rfl⟩,rfl⟩;refine⟨.ref s.heap.objs.size,_,I2,rfl,⟨_,x,y,rfl,YZ,rfl,λxs' hx'=>by rw[I.nv hx' hx];exact ex,λys' hy'=>by rw[I.nv hy' hy];exact ey⟩,?_,λc hc=>?_⟩
  .obtain⟨o4,g4,c4⟩:=s1.1;obtain⟨o5,g5,c5⟩:=s2.1;exact⟨z2,(sb.2 _ a1).trans (kp _ _ a1 a5 a6 a7 h2),⟨_,_,(sb.2 _ a2).trans o1⟩,⟨o4,(sb.2 _ a3).trans g4,c4⟩,⟨o5,(sb.2 _ a4).trans g5,c5⟩⟩
  .have n0:=(hf c hc).1;obtain⟨o,eo⟩:∃o,s.heap.get? c=some o:=by
    obtain⟨o4,g4,_⟩:=h4;obtain⟨o5,g5,_⟩:=h5;simp only[dg,dF,eY]at hc;rcases hc with rfl|rfl|rfl|rfl|rfl
    .exact⟨_,h1⟩
    .exact⟨_,h2⟩
    .exact⟨_,h3⟩
    .exact⟨_,g4⟩
    .exact⟨_,g5⟩
   rw[pW (dM (dA eo))];exact n0
 done:=by
  intro X hP hw hK hc i WH s σ H E I hf st hg;subst hP hw hK;obtain⟨xs,ys,hx,hy,hi⟩:=hg;obtain⟨its,rx,px,_⟩:=I.tuple hx;obtain⟨YH,ry,py,_⟩:=I.tuple hy;obtain⟨h1,h2,⟨p,q,h3⟩,h4,h5⟩:=st;have hh:X.A.in1.handled=none:=I.ok.hd hc;have fa:∀c∈[z,TI,TO,i1,i2],a≠c:=λc hc=>D6 I (hf c hc) hx;have fb:∀c∈[z,TI,TO,i1,i2],b≠c:=λc hc=>D6 I (hf c hc) hy;have W1:Ag z TI TO i1 i2 [i1,a] [i2,b]:=⟨a1,a2,a3,a4,a5,a6,a7,a8,a9,pf,by
   simp only[dg,dF,eY,fN];exact⟨dP a3,dP (fa z (by simp))⟩,by
   simp only[dg,dF,eY,fN];exact⟨a8,dP (fa TO (by simp))⟩,by
   simp only[dg,dF,eY,fN];exact⟨dP pf,dP (fa i2 (by simp))⟩,by
   simp only[dg,dF,eY,fN];exact⟨dP a4,dP (fb z (by simp))⟩,by
   simp only[dg,dF,eY,fN];exact⟨a9,dP (fb TO (by simp))⟩,by
   simp only[dg,dF,eY,fN];exact⟨pf,dP (fb i1 (by simp))⟩⟩
  have e1:=rx.length;have e2:=ry.length;refine A5 (yg hh i1 a (fa i1 (by simp)) its.toArray) (yg hh i2 b (fb i2 (by simp)) YH.toArray) W1 h1 h2 h3 ⟨h4,px⟩ ⟨h5,py⟩ (by simp only[dw];omega) λg tk kp=>⟨rfl,?_⟩;have kk:∀c o,c∉[z,TI,TO,i1,i2]->s.heap.get? c=some o->g.get? c=some o:=λc o hc e=>by simp only[dg,dF,eY,fN]at hc;exact kp c o hc.1 hc.2.2.1 hc.2.2.2.1 hc.2.2.2.2 e
  refine I.step (g':=s.gens) (d':=s.drawn) (t':=tk) (ch:=[z,TI,TO,i1,i2]) (λc hc=>⟨(hf c hc).2.2.2.1,(hf c hc).2.1,(hf c hc).2.2.2.2.1,(hf c hc).2.2.2.2.2⟩) ?_ ?_ (λc o _ e n=>n) ?_ (λ_ _ e=>e) (λ_ _ _ e=>e) (λc ps e=>⟨#[],by rw[e];simp⟩) ?_ ?_ I.bare
  .exact λc o _ _ hc e _=>kk c o hc e
  .exact λc o _ _ hc e _=>⟨o.slots,kk c o hc e⟩
  .exact λc o hc e=>⟨o,kk c o hc e⟩
  .intro m hm;obtain⟨o,es,ep,ho,r⟩:=hm;exact⟨o,es,ep,kk _ o (λy=>(hf _ y).2.1 rfl) ho,r⟩
  .intro c u e;refine(I.mV c u e).nz (λd v hd q=>kk d v (λy=>?_) q) (λ_ q=>q) λ_ _ q=>q;have n:=(hf d y).1;rcases hd with x|x
   .rw[x,e]at n;cases n
   .rw[x]at n;cases n
 self:=λ_ _ _ _ _ st h=>lW st.1 h
def Rh{a b:Expr}{ta:TA}(hg:Gl X "zip")(hm:X.mg "zip"=none)(ha:PA X [a,b] ta)(hs:starEach [a,b] X.env=[(false,eval a X.env),(false,eval b X.env)]:=by rfl)(Yo:starEach [b] X.env=[(false,eval b X.env)]:=by rfl):
  PI X (.Tuple Xj n tp) (.Call (.Name "zip" p) [a,b] [] pos) (λσ H R=>ta σ H λvs H1=>∃l m,vs=[.ref l,.ref m]/\(∃xs,ve X.K H1 l xs)/\(∃xs,ve X.K H1 m xs)/\R (VB X.K l m) H1):=by
 intro WH s σ H R I h;refine Call_ (wF I hg hm QL (fZ (sH (ha pos WH s σ H _ I h) λus s1 zz=>x5 zz λvs H1 I1 r1 q1=>?_) (by rw[hs,Yo]) (by rw[Yo];rfl)));obtain⟨l,m,e,⟨xs,hx⟩,⟨ys,hy⟩,q⟩:=q1;subst e;obtain⟨u,v,rfl,ru,rv⟩:=L8 r1;cases ru;cases rv;obtain⟨its,_,px,_⟩:=I1.tuple hx;obtain⟨YH,_,py,_⟩:=I1.tuple hy;refine Ef px py λg h1 h2 h3 h4 h5 hk=>lW h1 ?_;have I2:Inv X WH σ H1 {s1 with heap:=g}:=I1.kept (t':=s1.toks) hk;refine⟨s1.heap.objs.size+4,[s1.heap.objs.size+4,s1.heap.objs.size+2,s1.heap.objs.size+3,s1.heap.objs.size,s1.heap.objs.size+1],_,_,H1,rfl,I2,Lx l m _ _ _ _ _ ?_ ?_ ?_ ?_ ?_ ?_ ?_ ?_ ?_ ?_,⟨h1,h2,⟨_,_,h3⟩,h4,h5⟩,λb hb=>?_,q⟩
 .exact λz=>by have z:s1.heap.objs.size+2=s1.heap.objs.size+4:=z;omega
 .exact λz=>by have z:s1.heap.objs.size+3=s1.heap.objs.size+4:=z;omega
 .exact λz=>by have z:s1.heap.objs.size=s1.heap.objs.size+4:=z;omega
 .exact λz=>by have z:s1.heap.objs.size+1=s1.heap.objs.size+4:=z;omega
 .exact λz=>by have z:s1.heap.objs.size+2=s1.heap.objs.size+3:=z;omega
 .exact λz=>by have z:s1.heap.objs.size+2=s1.heap.objs.size:=z;omega
 .exact λz=>by have z:s1.heap.objs.size+2=s1.heap.objs.size+1:=z;omega
 .exact λz=>by have z:s1.heap.objs.size+3=s1.heap.objs.size:=z;omega
 .exact λz=>by have z:s1.heap.objs.size+3=s1.heap.objs.size+1:=z;omega
 .exact λz=>by have z:s1.heap.objs.size=s1.heap.objs.size+1:=z;omega
 .have Xz:s1.heap.objs.size<=b:=by
   simp only[dg,dF,eY]at hb;rcases hb with rfl|rfl|rfl|rfl|rfl
   .exact iJ _ _
   .exact iJ _ _
   .exact iJ _ _
   .exact dv _
   .exact iJ _ _
  exact I1.nY Xz (I1.mV.fresh Xz)
def AO:List D->List D->List D
 | x::a,y::b=>.tup [x,y]::AO a b
 | _,_=>[]
theorem IS:∀{ds es:List D} {i:Nat},(AO ds es)[i]?=(ds[i]?).bind λd=>(es[i]?).map λe=>D.tup [d,e]
 | [],es,i=>by simp[AO]
 | d::ds,[],i=>by simp[AO]
 | d::ds,e::es,0=>by simp[AO]
 | d::ds,e::es,i+1=>by show(AO ds es)[i]?=_;rw[IS];simp
theorem FK:∀{ds es:List D},(AO ds es).length=min ds.length es.length
 | [],es=>by simp[AO]
 | d::ds,[]=>by simp[AO]
 | d::ds,e::es=>by show(AO ds es).length+1=_;rw[FK];simp only[d9];omega
def NX{K:qu}{H1:Hp}{a b:Addr}{ds es:List D}{xs ys:List V}(h1:ve K H1 a xs)(h2:qk K H1 ds xs)(g1:ve K H1 b ys)(g2:qk K H1 es ys):FQ K H1 (VB K a b) (AO ds es) (λ_=>True) where
 go:=λi H M hi hm ok e1=>by rw[FK]at hi;obtain⟨x,ex,_⟩:=h2.get (cX (show i<ds.length by omega));obtain⟨y,ey,_⟩:=g2.get (cX (show i<es.length by omega));exact⟨xs,ys,x,y,e1.t _ _ h1,e1.t _ _ g1,ex,ey⟩
 oO:=λi d H M v H' hd hm ok e1 y=>by
  obtain⟨p,x,z,rfl,hp,rfl,y1,y2⟩:=y;rw[IS]at hd;cases e:ds[i]? with
  | none=>rw[e]at hd;cases hd
  | some d'=>
   cases e':es[i]? with
   | none=>rw[e,e']at hd;cases hd
   | some d''=>rw[e,e']at hd;cases hd;obtain⟨x',q1,hx⟩:=h2.get e;obtain⟨z',q2,hz⟩:=g2.get e';have w1:=y1 xs (e1.t _ _ h1);have w2:=y2 ys (e1.t _ _ g1);rw[q1]at w1;rw[q2]at w2;have v1:x'=x:=dh w1;have v2:z'=z:=dh w2;subst v1 v2;have ex:qQ K H (upd H p (.tup [x',z'])):=.new hp;exact⟨.tup (.of qh) (.cons (hx.mono (e1.trans ex)) (.cons (hz.mono (e1.trans ex)) .nil)),hm.add hp,ex⟩
 stop:=λH M hm ok e1=>⟨xs,ys,e1.t _ _ h1,e1.t _ _ g1,by rw[FK,h2.length,g2.length]⟩
def Uh(t:xC):NH:=λδ M R=>t δ M λds M1=>match ds with
 | [.tup a,.tup b]=>R (AO a b) (λ_=>True) M1
 | _=>False
def Sa{a b:Expr}{ta:xC}(hg:Gl X "zip")(hm:X.mg "zip"=none)(ha:A3 X [a,b] ta)(hs:starEach [a,b] X.env=[(false,eval a X.env),(false,eval b X.env)]:=by rfl)(Yo:starEach [b] X.env=[(false,eval b X.env)]:=by rfl):
  I3 X (.Tuple Xj n tp) (.Call (.Name "zip" p) [a,b] [] pos) (Uh ta):=
 PI.mono (Rh hg hm ha hs Yo) λσ H R' zz=>x7 zz λδ M R hs hm ht k=>⟨δ,M,_,hs,hm,ht,λvs H1 ds M1 hd WJ e1 q1=>by
  split at q1
  .obtain⟨v,u,rfl,hv,hw⟩:=D7 hd;obtain⟨l,xs,rfl,h1,h2⟩:=hv.mT;obtain⟨m,ys,rfl,g1,g2⟩:=hw.mT;exact⟨l,m,rfl,⟨xs,h1⟩,⟨ys,g1⟩,k _ H1 _ _ M1 (NX h1 h2 g1 g2) WJ e1 trivial q1⟩
  .exact q1.elim⟩
def qr(M M':Mp):Prop:=∀a c,M a=some c->M' a=some c
def qr.refl{M:Mp}:qr M M:=λ_ _ h=>h
def qr.trans{M M1 M2:Mp}(a:qr M M1)(b:qr M1 M2):qr M M2:=λx c h=>b x c (a x c h)
def qr.new{M:Mp}{p:Addr}{c:uW}(h:M p=none):qr M (pF M p c):=λx d q=>by rw[uc (Qv q h)];exact q
def qr.lst{M M':Mp}{a:Addr}{ds:List D}(s:qr M M')(h:oM M a=some ds):oM M' a=some ds:=by
 unfold oM at h ⊢;cases e:M a with
 | none=>rw[e]at h;cases h
 | some c=>rw[s a c e];rw[e]at h;exact h
def HM.sub{K:qu}{H:Hp}{M M':Mp}(h:HM K H M')(s:qr M M'):HM K H M:=λa c q=>h a c (s a c q)
def S5{x qual:Str}{st:Stmt}{f:Addr}{fd:FuncData}{N ps:QQQ}{k:Nat}{sp:rf}(F:PB K x qual st f fd)(S:s8 N ps (qd st))(len:∀ds M Q,sp ds M Q->ds.length=ps.length) (W2:∀(WQ:Vl) (A:Ar) (outer:List Env) (s:Sd) (H:Hp) (E:XK),r6 k (A.deeper (envOfC qual (qd st) s.heap.objs.size f WQ))->
   ∃t,G6 (vp NF P w K mg base N qual (qd st) f WQ A outer s H E).ow (rQ st) t/\∀ds M Q,sp ds M Q->t {nx:=λ_ M'=>∃WL,qr WL M'/\Q .mS WL,rt:=λd M'=>∃WL,qr WL M'/\Q d WL} (xc N ds) M):SS P w K mg base (k+1) f fd ps sp:=by
 refine F.ok S (λvs H Q E h=>?_) (λWQ A outer s H vs Q' E hr h=>?_)
 .obtain⟨ds,M,Q,hd,_,hs,_⟩:=h;rw[<-hd.length];exact len ds M Q hs
 .obtain⟨ds,M,Q,hd,hm,hs,k⟩:=h;obtain⟨t,ht,hb⟩:=W2 WQ A outer s H E hr;exact⟨_,ht,xc N ds,M,_,DL hd,hm,hb ds M Q hs,λσ' H' δ' M' _ x2 x3 _ ⟨WL,y1,y2⟩=>k .mS H' .mS WL .mS (x2.sub y1) x3 y2,λv H' d M' x1 x2 x3 ⟨WL,y1,y2⟩=>k v H' d WL x1 (x2.sub y1) x3 y2,λ_ _ _ _ _ _ _ _ z=>z,λ_ _ _ _ _ _ _ _ z=>z⟩
theorem Bz{g:Dp}{te:T3}{ok:Mp->Prop}{Q:DK}{f:D->D}{M:Mp}(J:vo->Prop)(mV:ok M):∀(ds acc:List D) (δ:vo),J δ->acc.length+ds.length<=sizeLine->
  (∀d∈ds,∀δ,J δ->∀k:vo->DK,(∀δ',J δ'->k δ' (f d) M)->g d δ M λδ2 M2=>te δ2 M2 (k δ2))->(∀p,M p=none->Q (.ref p) (pF M p (.lst (acc++ds.map f))))->vd g B4 te ok Q ds acc δ M
 | [],acc,δ,_,hl,_,hq=>⟨by simpa using hl,by simpa using hq⟩
 | d::r,acc,δ,hj,hl,ht,hq=>by
  rw[d9]at hl;refine⟨by omega,?_⟩;refine ht d dG δ hj (λδ2 y M4=>ok M4/\vd g B4 te ok Q r (acc++[y]) δ2 M4) λδ' hj'=>⟨mV,Bz (f:=f) J mV r (acc++[f d]) δ' hj' ?_ (λe he=>ht e (dE _ he)) ?_⟩
  .rw[cY,dO];omega
  .simpa using hq
def qZ{i:Nat}{te:T3}{ok:Mp->Prop}{Q:DK}{f:D->D}{M:Mp}(mV:ok M):∀(ds acc:List D) (δ:vo),acc.length+ds.length<=sizeLine->(∀d∈ds,∀k:DK,k (f d) M->te (δ.set i (some d)) M k)->
  (∀p,M p=none->Q (.ref p) (pF M p (.lst (acc++ds.map f))))->vd (sP i) B4 te ok Q ds acc δ M:=λds acc δ hl ht hq=>
 Bz (f:=f) (λδ'=>∀d,δ'.set i (some d)=δ.set i (some d)) mV ds acc δ (λ_=>rfl) hl (λd hd δ' hj k hk=>by
  show te (δ'.set i (some d)) M (k (δ'.set i (some d)));rw[hj d];exact ht d hd _ (hk _ λe=>by rw[jJ])) hq
theorem yh{α:Type}(f:α->Bool):∀l:List α,F2 (l.map λx=>D.bl (f x))=some (l.map f)
 | []=>rfl
 | x::r=>by show(F2 (r.map λx=>D.bl (f x))).map (f x::·)=_;rw[yh f r];rfl
def pE{M:Mp}{p:Addr}{ds:List D}:oM (pF M p (.lst ds)) p=some ds:=by unfold oM;rw[pP]
def i'{α:Type}{o:Option α}{P:α->Prop}{x:α}(e:o=some x)(h:P x):o.elim False P:=by rw[e];exact h
def pb{l:List D}(h:decide (l.length<=100)=true):l.length<=sizeLine:=by have z:=dN;have:=fK h;omega
theorem Bd{g:Dp}{tb:xA}{ok:Mp->Prop}{E:Dx}(J:vo->Mp->Prop)(mV:∀δ M,J δ M->ok M):∀(ds:List D) (δ:vo) (M:Mp),J δ M->
  (∀d∈ds,∀δ M,J δ M->∀nx:vo->Mp->Prop,(∀δ' M',J δ' M'->nx δ' M')->g d δ M λδ2 M2=>tb {E with nx:=nx,ct:=nx,bk:=E.nx} δ2 M2)->(∀δ M,J δ M->E.nx δ M)->Fh g tb ok E ds δ M
 | [],δ,M,j,_,hn=>hn δ M j
 | d::r,δ,M,j,ht,hn=>ht d dG δ M j (λδ' M'=>ok M'/\Fh g tb ok E r δ' M') λδ' M' j'=>⟨mV δ' M' j',Bd J mV r δ' M' j' (λe he=>ht e (dE _ he)) hn⟩
theorem uU{g:Dp}{tb:xA}{ok:Mp->Prop}{E:Dx}(all:List D)(J:List D->vo->Mp->Prop)(mV:∀p δ M,J p δ M->ok M):∀(ds pre:List D) (δ:vo) (M:Mp),pre++ds=all->J pre δ M->
  (∀pre d post,pre++d::post=all->∀δ M,J pre δ M->∀nx:vo->Mp->Prop,(∀δ' M',J (pre++[d]) δ' M'->nx δ' M')->g d δ M λδ2 M2=>tb {E with nx:=nx,ct:=nx,bk:=E.nx} δ2 M2)->(∀δ M,J all δ M->E.nx δ M)->Fh g tb ok E ds δ M
 | [],pre,δ,M,e,j,_,hn=>hn δ M (by rw[<-e,eZ];exact j)
 | d::r,pre,δ,M,e,j,ht,hn=>ht pre d r e δ M j (λδ' M'=>ok M'/\Fh g tb ok E r δ' M') λδ' M' j'=>⟨mV _ δ' M' j',uU all J mV r (pre++[d]) δ' M' (by rw[<-e,ft];rfl) j' ht hn⟩
def NA{K:qu}{t:Vl}:W.kitOne K t t=some true:=by unfold W.kitOne;rw[df (by simp)]
def Ll{c:Bool}{A B:Prop}(h:c=false)(hb:B):if c=true then A else B:=by subst h;exact CL hb
def AX{c:Bool}{A B:Prop}(h:c=true)(ha:A):if c=true then A else B:=by subst h;exact GN ha
def KF{t u:xA}{E:Dx}{δ:vo}{M:Mp}(R:vo->Mp->Prop)(h2:∀nx:vo->Mp->Prop,(∀δ' M',R δ' M'->nx δ' M')->t {E with nx:=nx} δ M)(h1:∀δ' M',R δ' M'->u E δ' M'):uD t u E δ M:=h2 (u E) h1
def UJ{K:qu}{H:Hp}{a:Addr}{ns:List Int}(hO:LB H)(hS:yT K H a (ns.map V.int)):rN K H (.rl (ns.map D.int)) (.ref a):=by
 have r:OK K H a (ns.map V.int):=by
  rcases hS with h|h
  .rcases h with h|⟨o,h⟩
   .rcases hO a with z|⟨o,xs,z⟩<;>(rw[h]at z;cases z)
   .exact .inl ⟨o,h⟩
  .exact .inr h
 unfold rN;exact⟨a,_,rfl,r,.ints⟩
def RT{K:qu}{sp:rf}{H:Hp}{a:Addr}{ns:List Int}(hO:LB H)(hS:yT K H a (ns.map V.int))(h:sp [.rl (ns.map D.int)] (λ_=>none) λd _=>d=.bl true):NI K sp [.ref a] H (λv _=>v=.bl true) λ_ _ _=>False:=
 ⟨_,λ_=>none,_,.cons (UJ hO hS) .nil,λ_ _ z=>(by cases z),h,λv H' d M' x1 _ _ x4=>by subst x4;exact x1.mP⟩
def Ng{l:W.OpenLaw}{q:Pg}{Xu:QQQ}{XP:(QQZ)->Heap->Prop}{YP:Wo->Heap->Prop}{d:DefRec}{K:Params->qu}{k:Nat}{x:Str}{sp:rf}(hn:l.most=some 63)(Zc:d.params.defaults=[])(hr:r6 k callerA) (hY:∀(w:Wo) (h:Heap),YP w h->(K w.params).In h) (Yb:∀ns:List Int,ns.length<=63->sp [.rl (ns.map D.int)] (λ_=>none) λd _=>d=.bl true) (F:∀(w:Wo) (mg:QQZ) (fa:Addr) (h:Heap),(K w.params).In h->h.Ns mainGlobals mg->mg d.name=some (.ref fa)->
   ∃fd:FuncData,(∀(s:Sd) (u:Vl),BindsTo s fd ⟨[u],[]⟩ [(x,u)])/\∀base:Heap,(K w.params).In base->base.Ns mainGlobals mg->SS l.prog w (K w.params) mg base k fa fd [x] sp):
  W.WalkO q Xu XP YP l.row.toRowW d [] (λf vs=>PySem.call f vs):=
 L2.Ph (n:=63) (k:=k) (x:=x) (CX:=λ_=>NF) (sp:=λw=>NI (K w.params) sp) hn (by decide) Zc hr hY F (λ_ _ a ns hl hO hS=>RT hO hS (Yb ns hl)) λ_ _ _ _ _ z=>z
def KD(K:qu)(mg:QQZ)(x:Str)(d:D):Prop:=BO λv u=>mg x=some u/\qJ v u/\∀H,rN K H d v
def Ru{K:qu}{mg:QQZ}{x y:Str}{t:Tok}(h:mg x=some (.str y t)):KD K mg x (.str y):=⟨.str y,_,h,⟨t,rfl⟩,λ_=>.str⟩
def vX{K:qu}{mg:QQZ}{x:Str}{y:Int}{t:Tok}(h:mg x=some (.int y t)):KD K mg x (.int y):=⟨.int y,_,h,⟨t,rfl⟩,λ_=>.int⟩
def uE{K:qu}{a:Addr}{ss:QQQ}{us:List Vl}{n:Nat}{sl:Array (Option Vl)}(h:K.lookup a=some ⟨.type "tuple",none,.seq us.toArray n,sl⟩)(r:qE (ss.map V.str) us)(hz:us.length<=1000):ve K (λ_=>none) a (ss.map V.str):=
 .inr ⟨_,us.toArray,n,h,rfl,rfl,rfl,by rw[dw,dN];omega,by simpa using r⟩
theorem Aa{K:qu}{H:Hp}:∀{ss:QQQ},qk K H (ss.map D.str) (ss.map V.str)
 | []=>.nil
 | _::_=>.cons .str Aa
def Od{K:qu}{mg:QQZ}{x:Str}{a:Addr}{ss:QQQ}(h:mg x=some (.ref a))(q:ve K (λ_=>none) a (ss.map V.str)):KD K mg x (.tup (ss.map D.str)):=
 ⟨.ref a,_,h,rfl,λ_=>.tup (Il q) Aa⟩
variable {d:D}{i:Expr}{td tk:T3}{F:List (Str × QQQ)}
def sI(hg:Gl X x)(h:KD X.K X.mg x d)(hd:yU x:=by decide):E3 X (.Name x pos) (c3 d):=by obtain⟨v,u,hm,r,hh⟩:=h;exact PE.mono (En hg hm r hd) λσ H Q' zz=>x7 zz λδ M Q hs hm ht k=>k _ H _ M (hh H) hm .refl ht
def VT(F:List (Str×QQQ))(ta:T3):T3:=λδ M Q=>ta δ M λx M1=>match x with|.str k=>Q (.bl (KTD.datumAt k F).isSome) M1|_=>False
def S0(F:List (Str×QQQ))(ta:T3):T3:=λδ M Q=>ta δ M λx M1=>match x with|.str k=>(KTD.datumAt k F).elim False λss=>Q (.tup (ss.map D.str)) M1|_=>False
def K8(T:Mg X.K X.mg x F)(hg:Gl X x)(he:E3 X e ta)(hd:yU x:=by decide)(hmk:behindInMarks .In (.Name x p)=false:=by rfl):E3 X (.Compare e [.In] [.Name x p] pos) (VT F ta):=by
 obtain⟨a,hm,T⟩:=G5 T;refine PE.mono (Fk (r:=λy z H Q=>∃k,y=.str k/\z=.ref a/\Q (.bl (KTD.datumAt k F).isSome) H) (λWH s σ H y z v u Q I ry rz ⟨k,e1,e2,q⟩=>?_) he (En (v:=.ref a) hg hm rfl hd) hmk) λσ H Q' zz=>x7 zz λδ M Q hs hm ht k=>⟨δ,M,_,hs,hm,ht,λv H1 d M1 hd WJ e1 q1=>?_⟩
 .subst e1 e2;obtain⟨t,rfl⟩:=ry;obtain rfl:u=Value.ref a:=rz;exact Q2 (T s.heap I.nk) ⟨.bl (KTD.datumAt k F).isSome,H,I.tok _,rfl,q⟩
 .cases d with
  | str k'=>exact⟨k',hd.str_inv,rfl,k _ _ _ _ .bl WJ e1 q1⟩
  | _=>exact q1.elim
def J9(T:Mg X.K X.mg x F)(hg:Gl X x)(he:E3 X e ta)(hd:yU x:=by decide)(hs:Bf e:=by exact λ_ _=>rfl):E3 X (.Subscript (.Name x p) e pos) (S0 F ta):=by
 obtain⟨a,hm,T⟩:=G5 T;refine PE.mono (Lg (r:=λz y H Q=>∃k ss,y=.str k/\z=.ref a/\KTD.datumAt k F=some ss/\∀t,ve X.K H t (ss.map V.str)->Q (.ref t) H) (λvalue WR WH s σ H z y o i Q I rz ry ⟨k,ss,e1,e2,e3,q⟩ hs=>?_) (En (v:=.ref a) hg hm rfl hd) he hs) λσ H Q' zz=>x7 zz λδ M Q hs hm ht k=>⟨δ,M,_,hs,hm,ht,λv H1 d M1 hd WJ e1 q1=>?_⟩
 .subst e1 e2;obtain⟨t,rfl⟩:=ry;obtain rfl:o=Value.ref a:=rz;have hT:=yH (s:=s) (T s.heap I.nk);have h2:wpAny (model X.prog X.w) X.A (getItem (.ref a) (.str k t)) (EP X WH σ Q) X.xe s:=Mo (T s.heap I.nk) e3 λv ⟨t',e4,q4⟩=>⟨.ref t',H,I.tok _,e4,q t' (Il q4)⟩;unfold subscriptTail;refine cW ?_;rw[kc hT.not_modules];refine cW (jV hT ju.lookup ?_);have WM:wpAny (model X.prog X.w) X.A (subscripted WR false (.ref a) (.str k t)) (λr s₃=>wpAny (model X.prog X.w) X.A (letTemporaryGo value (.ref a) r>>=λ_=>pure r) (EP X WH σ Q) X.xe s₃) X.xe s:=by rw[hs];exact wpAny_operating (eA h2 (λr s₃ h₃=>cW (kt (dq h₃))) λ_ _ x=>x)
  first
   | exact dq (cW WM)
   | exact cW (dq (cW WM))
   | exact cW WM
 .cases d with
  | str k'=>obtain⟨ss,e4,q2⟩:=qX q1;exact⟨k',ss,hd.str_inv,rfl,e4,λt qt=>k _ _ _ _ (.tup qt Aa) WJ e1 q2⟩
  | _=>exact q1.elim
def zB(M:Mp)(a:Addr):Option (List (qW×D)):=match M a with
 | some (.dk kvs)=>some kvs
 | _=>none
def vE(kvs:List (qW×D))(k:qW):Option D:=(kvs.find? λp=>decide (p.1=k)).map (·.2)
def zC{K:qu}{H:Hp}{M:Mp}{a:Addr}{kvs:List (qW×D)}(hm:HM K H M)(h:zB M a=some kvs):∃vs,H a=some (.dK vs)/\vs.map (·.1)=kvs.map (·.1)/\qk K H (kvs.map (·.2)) (vs.map (·.2)):=by
 unfold zB at h;cases e:M a with
 | none=>rw[e]at h;cases h
 | some c=>
  rw[e]at h;have ok:=hm a c e;cases c with
  | dk es=>cases h;exact ok
  | ins _ _=>cases h
  | lst _=>cases h
  | exc _=>cases h
theorem EF{K:qu}{H:Hp}{k:qW}:∀{kvs:List (qW×D)} {vs:List (qW×V)},vs.map (·.1)=kvs.map (·.1)->qk K H (kvs.map (·.2)) (vs.map (·.2))->(∀d,vE kvs k=some d->∃v,xb vs k=some v/\rN K H d v)/\(vE kvs k=none->xb vs k=none)
 | [],[],_,_=>⟨λd z=>(by cases z),λ_=>rfl⟩
 | [],_::_,e,_=>by cases e
 | _::_,[],e,_=>by cases e
 | (j,d)::kvs,(j',v)::vs,e,h=>by
  have e1:j'=j:=by simpa using(gu e).1
  subst e1;obtain⟨x,r,e2,h1,h2⟩:=h.inv;obtain⟨e3,e4⟩:=gu e2;subst e3 e4;have ih:=EF (k:=k) (kvs:=kvs) (vs:=vs) (gu e).2 h2;by_cases hk:j'=k
  .have g:vE ((j',d)::kvs) k=some d:=by simp[vE,hk]
   have g':xb ((j',v)::vs) k=some v:=by simp[xb,hk]
   rw[g,g'];exact⟨λd' z=>by cases z;exact⟨v,rfl,h1⟩,λz=>by cases z⟩
  .have g:vE ((j',d)::kvs) k=vE kvs k:=by simp[vE,hk]
   have g':xb ((j',v)::vs) k=xb vs k:=by simp[xb,hk]
   rw[g,g'];exact ih
def Mj(x y:D)(M:Mp)(Q:DK):Prop:=match x,y with
 | .ref a,.str k=>(zB M a).elim False λkvs=>(vE kvs (.inr k)).elim False λd=>Q d M
 | _,_=>False
def Uz(td tk:T3):T3:=λδ M Q=>td δ M λx M1=>tk δ M1 λy M2=>Mj x y M2 Q
def zt(hu:X.A.units+9<cLine)(ho:E3 X o td)(hi:E3 X i tk)(hs:Bf i:=by exact λ_ _=>rfl):E3 X (.Subscript o i pos) (Uz td tk):=by
 refine PE.mono (Lg (r:=R3 X.K Mj) (λvalue WR WH s σ H vx vy v u Q' I rx ry h hs=>?_) ho hi hs) EA;obtain⟨x,y,M,Q,hx,hy,hm,q,k⟩:=h;unfold Mj at q;split at q
 .rename_i a0 k0;obtain⟨kvs,e1,q⟩:=qX q;obtain⟨d,e2,q⟩:=qX q;cases hx.mM;cases hy.str_inv;obtain⟨vs,h1,h2,h3⟩:=zC hm e1;obtain⟨w,e3,hw⟩:=(EF h2 h3).1 d e2;refine Qj (by omega) value WR WH s σ H _ _ v u Q' I rx ry ⟨_,w,rfl,?_,k _ _ _ _ hw hm .refl q⟩ hs;have g:=E6.k (k:=Sum.inr k0) h1;rw[e3]at g;exact g
 .exact q.elim
def Rf(Yh:Bool)(x y:D)(M:Mp)(Q:DK):Prop:=match x,y with
 | .str k,.ref a=>(zB M a).elim False λkvs=>Q (.bl (if Yh then !(vE kvs (.inr k)).isSome else(vE kvs (.inr k)).isSome)) M
 | _,_=>False
def L9{K:qu}{H:Hp}{k:qW}{kvs:List (qW×D)}{vs:List (qW×V)}(h2:vs.map (·.1)=kvs.map (·.1))(h3:qk K H (kvs.map (·.2)) (vs.map (·.2))):(xb vs k).isSome=(vE kvs k).isSome:=by
 obtain⟨a,b⟩:=EF (k:=k) h2 h3;cases e:vE kvs k with
 | none=>rw[b e];rfl
 | some d=>obtain⟨v,e3,_⟩:=a d e;rw[e3];rfl
def VH(Yh:Bool)(tk td:T3):T3:=λδ M Q=>tk δ M λx M1=>td δ M1 λy M2=>Rf Yh x y M2 Q
def Uc(hu:X.A.units+9<cLine):xp X (compareOp .In) (R3 X.K (Rf false)):=λWH s σ H vx vy v u Q' I rx ry h=>by
 obtain⟨x,y,M,Q,hx,hy,hm,q,k⟩:=h;unfold Rf at q;split at q
 .obtain⟨kvs,e1,q⟩:=qX q;cases hy.mM;cases hx.str_inv;obtain⟨vs,h1,h2,h3⟩:=zC hm e1;refine R7 (by omega) WH s σ H _ _ v u Q' I rx ry ⟨_,_,rfl,E6.k (k:=Sum.inr _) h1,?_⟩;rw[L9 h2 h3];exact k _ _ _ _ .bl hm .refl q
 .exact q.elim
def Nx(hu:X.A.units+9<cLine)(hi:E3 X i tk)(ho:E3 X o td)(hm:behindInMarks .In o=false:=by first|exact BZ _|with_unfolding_all rfl):B3 X (.Compare i [.In] [o] pos) (b3 (VH false tk td)):=PT.mono (D4 (Uc hu) hi ho hm) λσ H Q' zz=>x7 zz λδ M Q hs hm ht k=>
 EA σ H _ ⟨δ,M,_,hs,hm,ht,λv H1 d M1 hd WJ e1 q1=>by
  cases d with
  | bl c=>exact⟨c,hd.mP,k c H1 M1 WJ e1 q1⟩
  | _=>exact q1.elim⟩
def wW:List D->Option (List (qW×D))
 | []=>some []
 | .tup [.str k,d]::r=>(wW r).map ((.inr k,d)::·)
 | _::_=>none
theorem DP{K:qu}{H:Hp}:∀{es:List D} {kvs:List (qW×D)} {xs:List V},wW es=some kvs->qk K H es xs->∃(ts:QXQ) (vs:List (qW×V)),xs=ts.map V.ref/\ts.length=vs.length/\vs.map (·.1)=kvs.map (·.1)/\qk K H (kvs.map (·.2)) (vs.map (·.2))/\
  ∀(j:Nat) (t:Addr) (p:qW×V),ts[j]?=some t->vs[j]?=some p->ve K H t [kV p.1,p.2]
 | [],_,_,e,h=>by cases e;exact⟨[],[],h.nil_inv,rfl,rfl,.nil,λj t p z=>by simp at z⟩
 | d::es,kvs,xs,e,h=>by
  obtain⟨x,r,rfl,h1,h2⟩:=h.inv;unfold wW at e;split at e
  .rename_i z;cases z
  .rename_i k d' r' z;cases z;cases q:wW es with
   | none=>rw[q]at e;cases e
   | some kvs'=>
    rw[q]at e;cases e;obtain⟨ts,vs,e1,e2,e3,e4,e5⟩:=DP q h2;obtain⟨a,ys,rfl,g1,g2⟩:=h1.mT;obtain⟨y,r1,rfl,g3,g4⟩:=g2.inv;obtain⟨w,r2,rfl,g5,g6⟩:=g4.inv;cases g6.nil_inv;cases g3.str_inv;refine⟨a::ts,(.inr k,w)::vs,by rw[e1];rfl,by simpa using e2,by rw[dX,dX,e3],.cons g5 e4,λj t p z1 z2=>?_⟩;cases j with
    | zero=>
     have z1':a=t:=by simpa using z1
     have z2':(Sum.inr k,w)=p:=by simpa using z2
     subst z1' z2';exact g1
    | succ j=>exact e5 j t p (by simpa using z1) (by simpa using z2)
  .cases e
def Qo(ds:List D)(M:Mp)(Q:DK):Prop:=match ds with
 | [.ref a]=>(oM M a).elim False λes=>(wW es).elim False λkvs=>(kvs.map (·.1)).Nodup/\∀p,M p=none->Q (.ref p) (pF M p (.dk kvs))
 | _=>False
def Eb(hc:X.calm=true):C3 X (.type "dict") Qo:=by
 intro WH s σ H vs us Q' I rv h;obtain⟨ds,M,Q,hd,hm,q,k⟩:=h;unfold Qo at q;split at q
 .obtain⟨es,e1,q⟩:=qX q;obtain⟨kvs,e2,hnd,q⟩:=qX q;obtain⟨v,rfl,hv⟩:=rO hd;cases hv.mM;obtain⟨xs,h1,h2,_⟩:=qy hm e1;obtain⟨ts,ws,rfl,f2,f3,f4,f5⟩:=DP e2 h2;refine HD hc WH s σ H _ us Q' I rv ⟨_,ts,ws,rfl,h1,f2,f5,by rw[f3];exact hnd,λd hd=>?_⟩;have e:qQ X.K H (upd H d (.dK ws)):=.new hd;exact k _ _ _ _ .ref (hm.new (c:=.dk kvs) hd ⟨_,qh,f3,f4.mono e⟩) e (q d (hm.fresh hd))
 .exact q.elim
def RI:bootBuiltins "set"=some (.type "set"):=by decide+kernel
def BR:List D->Option (QQQ)
 | []=>some []
 | .str x::r=>(BR r).map (x::·)
 | _::_=>none
theorem B9:∀ss:QQQ,BR (ss.map D.str)=some ss
 | []=>rfl
 | x::r=>by show(BR (r.map D.str)).map (x::·)=_;rw[B9 r];rfl
theorem F5{K:qu}{H:Hp}:∀{ds:List D} {ss:QQQ} {xs:List V},BR ds=some ss->qk K H ds xs->xs=ss.map V.str
 | [],_,_,e,h=>by cases e;exact h.nil_inv
 | d::ds,_,_,e,h=>by
  obtain⟨x,r,rfl,h1,h2⟩:=h.inv;cases d with
  | str z=>
   unfold BR at e;cases q:BR ds with
   | none=>rw[q]at e;cases e
   | some ss=>rw[q]at e;cases e;rw[h1.str_inv,F5 q h2];rfl
  | _=>cases e
def Ti(ta:T3):T3:=λδ M Q=>ta δ M λx M1=>(MF M1 x).elim False λes=>(BR es).elim False λss=>ss.length<4000/\Q (.int (sV ss).length) M1
def J4{p2 Yx:Pos}(hc:X.calm=true)(he:E3 X e ta)(hg1:Gl X "len")(WJ:X.mg "len"=none)(hg2:Gl X "set")(WZ:X.mg "set"=none)(b1:bootBuiltins "len"=some (.builtin "len"))(b2:bootBuiltins "set"=some (.type "set")) (hs:starEach [e] X.env=[(false,eval e X.env)]:=by rfl):E3 X (.Call (.Name "len" p) [.Call (.Name "set" p2) [e] [] Yx] [] pos) (Ti ta):=
 PE.mono (JO hc he hg1 WJ hg2 WZ b1 b2 hs) λσ H Q' zz=>x7 zz λδ M Q hs hm ht k=>⟨δ,M,_,hs,hm,ht,λv H1 d M1 hd WJ e1 q1=>by
  obtain⟨es,e2,q1⟩:=qX q1;obtain⟨ss,e3,hz,q1⟩:=qX q1;obtain⟨a,xs,rfl,h1,h2⟩:=ES WJ hd e2;rw[F5 e3 h2]at h1;have z:scanBound=4096:=rfl;exact⟨a,ss,rfl,h1,by omega,k _ _ _ _ .int WJ e1 q1⟩⟩
def QX(x:D)(ds:List D)(M:Mp)(Q:DK):Prop:=match x,ds with
 | .ref a,[y]=>(oM M a).elim False λes=>es.length<sizeLine/\Q .mS (pF M a (.lst (es++[y])))
 | _,_=>False
def qo{M:Mp}{a:Addr}{es:List D}(h:oM M a=some es):M a=some (.lst es):=by
 unfold oM at h;split at h
 .rename_i e;rw[e];cases h;rfl
 .cases h
def ET{K:qu}{H:Hp}{M:Mp}{a:Addr}{es:List D}(hm:HM K H M)(h:oM M a=some es):∃xs,H a=some (.lst xs)/\qk K H es xs:=hm a _ (qo h)
def J':M3 X "list.append" QX:=by
 intro WH s σ H vx vs v us Q' I rx rv h;obtain⟨x,ds,M,Q,hx,hd,hm,q,k⟩:=h;unfold QX at q;split at q
 .obtain⟨es,e1,hz,q⟩:=qX q;obtain⟨w,rfl,hw⟩:=rO hd;cases hx.mM;obtain⟨xs,h1,h2⟩:=ET hm e1;refine JU WH s σ H _ _ v us Q' I rx rv ⟨_,xs,w,rfl,rfl,h1,by rw[<-h2.length];exact hz,?_⟩;obtain⟨WZ,ex⟩:=hm.put (c:=.lst (es++[_])) (qo e1) λex=>⟨_,qh,(h2.mono ex).snoc (hw.mono ex)⟩;exact k _ _ _ _ .mS WZ ex q
 .exact q.elim
def rR(ho:E3 X o ta)(ha:A3 X (e::es) t)(WU:attributeBase o "append" X.env (eval o X.env)=eval o X.env:=by rfl)
  (XZ:((backTo pos (starEach (e::es) X.env)).all (λx=>!x.1)&&(backToKw pos (keywordEach [] X.env)).all (λx=>x.1.isSome)&&decide ((e::es).length+([]:List Keyword).length+(if ([]:List Keyword).isEmpty then 0 else 1)<30))=true:=by rfl)
  (W4:(WK.endLine==pos.line)=true:=by rfl) (hs:Bb X e es:=by rfl) (WY:CH X pos es:=by rfl):
  E3 X (.Call (.Attribute o "append" WK) (e::es) [] pos) (Vy QX ta t):=Qp PySem.F.slot_list_append PySem.F.type_list_append J' ho ha WU XZ W4 hs WY
def qr.none{M M2:Mp}{q:Addr}(s:qr M M2)(h:M2 q=none):M q=none:=by
 cases e:M q with
 | none=>rfl
 | some c=>rw[s q c e]at h;cases h
def qr.upd{M M2:Mp}{q:Addr}{c:uW}(s:qr M M2):qr (pF M q c) (pF M2 q c):=λx d h=>by
 by_cases e:x=q
 .subst e;rw[pP]at h ⊢;exact h
 .rw[uc e]at h ⊢;exact s x d h
def qr.dk{M M':Mp}{a:Addr}{ds:List (qW×D)}(s:qr M M')(h:zB M a=some ds):zB M' a=some ds:=by
 unfold zB at h ⊢;cases e:M a with
 | none=>rw[e]at h;cases h
 | some c=>rw[s a c e];rw[e]at h;exact h
def sv(p:Addr)(M M':Mp):Prop:=∀b c,b≠p->M b=some c->M' b=some c
def qr.keep{M M':Mp}{p:Addr}(s:qr M M'):sv p M M':=λb c _ h=>s b c h
def sv.trans{M M1 M2:Mp}{p:Addr}(a:sv p M M1)(b:sv p M1 M2):sv p M M2:=λx c n h=>b x c n (a x c n h)
def sv.put{M:Mp}{p:Addr}{c:uW}:sv p M (pF M p c):=λb d n h=>by rw[uc n];exact h
def sv.lst{M M':Mp}{p a:Addr}{ds:List D}(k:sv p M M')(n:a≠p)(h:oM M a=some ds):oM M' a=some ds:=by have:=k a _ n (qo h);unfold oM;rw[this]
def sv.dk{M M':Mp}{p a:Addr}{ds:List (qW×D)}(k:sv p M M')(n:a≠p)(h:zB M a=some ds):zB M' a=some ds:=by
 unfold zB at h ⊢;cases e:M a with
 | none=>rw[e]at h;cases h
 | some c=>rw[k a c n e];rw[e]at h;exact h
def pT{M:Mp}{a p C:Addr}{ds:List D}{fs:List (Str×D)}(h:oM M a=some ds)(hp:M p=some (.ins C fs)):a≠p:=λz=>by subst z;rw[qo h]at hp;cases hp
def CA{M:Mp}{a p C:Addr}{ds:List (qW×D)}{fs:List (Str×D)}(h:zB M a=some ds)(hp:M p=some (.ins C fs)):a≠p:=λz=>by subst z;unfold zB at h;rw[hp]at h;cases h
def sQ{M:Mp}{p:Addr}{ds:List D}(h:M p=some (.lst ds)):oM M p=some ds:=by unfold oM;rw[h]
def Dv{M:Mp}{p:Addr}{ds:List (qW×D)}(h:M p=some (.dk ds)):zB M p=some ds:=by unfold zB;rw[h]
def sY{N:Mp}{p q C:Addr}{fs fs':List (Str×D)}{c:uW}(hp:N p=some (.ins C fs))(hq:N q=none):
  q≠p/\pF N q c p=some (.ins C fs)/\sv p N (pF (pF N q c) p (.ins C fs'))/\pF (pF N q c) p (.ins C fs') q=some c/\pF (pF N q c) p (.ins C fs') p=some (.ins C fs'):=by
 have n:p≠q:=Qv hp hq;refine⟨dP n,by rw[uc n];exact hp,(qr.new hq).keep.trans .put,by rw[uc (dP n),pP],pP⟩
theorem Bc{g:Dp}{te:T3}{ok:Mp->Prop}{Q:DK}(all:List D)(J:List D->List D->vo->Mp->Prop)(mV:∀p acc δ M,J p acc δ M->ok M):∀(ds pre acc:List D) (δ:vo) (M:Mp),pre++ds=all->acc.length+ds.length<=sizeLine->J pre acc δ M->
  (∀pre d post,pre++d::post=all->∀acc δ M,J pre acc δ M->∀k:vo->DK,(∀δ2 y M4,J (pre++[d]) (acc++[y]) δ2 M4->k δ2 y M4)->g d δ M λδ2 M2=>te δ2 M2 (k δ2))->
  (∀acc δ M,J all acc δ M->∀p,M p=none->Q (.ref p) (pF M p (.lst acc)))->vd g B4 te ok Q ds acc δ M
 | [],pre,acc,δ,M,e,hl,j,_,hq=>⟨by simpa using hl,hq acc δ M (by rw[<-e,eZ];exact j)⟩
 | d::r,pre,acc,δ,M,e,hl,j,ht,hq=>by rw[d9]at hl;refine⟨by omega,?_⟩;refine ht pre d r e acc δ M j (λδ2 y M4=>ok M4/\vd g B4 te ok Q r (acc++[y]) δ2 M4) λδ2 y M4 j'=>⟨mV _ _ _ _ j',Bc all J mV r (pre++[d]) (acc++[y]) δ2 M4 (by rw[<-e,ft];rfl) ?_ j' ht hq⟩;rw[cY,dO];omega
def tj:Nat->D->Bool
 | _,.mS=>true
 | _,.bl _=>true
 | _,.int _=>true
 | _,.str _=>true
 | n+1,.tup ds=>ds.all (tj n)
 | _,_=>false
theorem yI{f:D->D->Option Bool}:∀ds:List D,(∀d∈ds,f d d=some true)->sE f ds ds=some true
 | [],_=>rfl
 | d::r,h=>by show(f d d).bind (λp=>(sE f r r).map λq=>p&&q)=some true;rw[h d dG,yI r λe he=>h e (dE _ he)];rfl
theorem B0{M:Mp}:∀(n:Nat) (d:D),tj n d=true->xx M (n+1) d d=some true
 | _,.mS,_=>rfl
 | _,.bl _,_=>by simp[xx]
 | _,.int _,_=>by simp[xx]
 | _,.str _,_=>by simp[xx]
 | n+1,.tup ds,h=>by have h:ds.all (tj n)=true:=h;show(sE (xx M (n+1)) ds ds).map (λp=>p&&ds.length==ds.length)=some true;rw[yI ds λd hd=>B0 n d (eK.mp h d hd)];simp
 | 0,.tup _,h=>by cases h
 | 0,.ref _,h=>by cases h
 | _+1,.ref _,h=>by cases h
 | 0,.ty _,h=>by cases h
 | _+1,.ty _,h=>by cases h
 | 0,.rl _,h=>by cases h
 | _+1,.rl _,h=>by cases h
def JH{M:Mp}{n:Nat}{a b:Addr}{ds:List D}(ha:oM M a=some ds)(hb:oM M b=some ds)(h:∀d∈ds,xx M n d d=some true):xx M (n+1) (.ref a) (.ref b)=some true:=by show(oM M a).bind (λi=>(oM M b).bind λj=>if i.length=j.length then sE (xx M n) i j else some false)=some true;rw[ha,hb];show(if ds.length=ds.length then sE (xx M n) ds ds else some false)=some true;rw[df rfl];exact yI ds h
def QT(tc:Az)(tb:xA):xA:=λE δ M=>∃W:Nat->vo->Mp->Prop,(∃m,W m δ M)/\∀m δ M,W m δ M->
 tc δ M λb M1=>if b=true then tb {E with nx:=λδ' M'=>∃m',m'<m/\W m' δ' M',ct:=λδ' M'=>∃m',m'<m/\W m' δ' M',bk:=E.nx} δ M1 else E.nx δ M1
def L7{c:Expr}{body:List Stmt}{tc:Az}{tb:xA}(hp:PassesOwn (model X.prog X.w) X.A X.env X.xe)(hc:B3 X c tc)(hb:G6 X body tb):S3 X (.While c body [] pos) (QT tc tb):=
 PS.mono (MK hp hc hb) λD' σ H ⟨δ,M,E,hs,hm,⟨W,⟨m0,w0⟩,turn⟩,k1,k2,k3,k4⟩=>by
 refine⟨λm σ' H'=>∃δ' M',zL X.K H' σ' δ'/\HM X.K H' M'/\qQ X.K H H'/\σ'.length=σ.length/\W m δ' M',⟨m0,δ,M,hs,hm,.refl,rfl,w0⟩,?_⟩
 rintro m σ1 H1 ⟨δ1,M1,ZG,WJ,e1,l1,w1⟩
 refine⟨δ1,M1,_,ZG,WJ,turn m δ1 M1 w1,λb H2 M2 WZ e2 q2=>?_⟩;cases b with
 | false=>rw[cZ dB]at q2 ⊢;exact k1 σ1 H2 δ1 M2 (ZG.mono e2) WZ (e1.trans e2) l1 q2
 | true=>
  rw[df rfl]at q2 ⊢;refine⟨λσ' H'=>∃δ' M',zL X.K H' σ' δ'/\HM X.K H' M'/\qQ X.K H H'/\σ'.length=σ.length/\∃m',m'<m/\W m' δ' M',?_,δ1,M2,_,ZG.mono e2,WZ,q2,?_,?_,?_,?_⟩
  .rintro σ' H' ⟨δ',M',a1,a2,a3,a4,m',lt,w⟩
   exact⟨m',lt,δ',M',a1,a2,a3,a4,w⟩
  .exact λσ' H' δ' M' y1 y2 y3 y4 y5=>⟨δ',M',y1,y2,e1.trans (e2.trans y3),by rw[y4,l1],y5⟩
  .exact λv H' d M' y1 y2 y3 y4=>k2 v H' d M' y1 y2 (e1.trans (e2.trans y3)) y4
  .exact λσ' H' δ' M' y1 y2 y3 y4 y5=>k1 σ' H' δ' M' y1 y2 (e1.trans (e2.trans y3)) (by rw[y4,l1]) y5
  .exact λσ' H' δ' M' y1 y2 y3 y4 y5=>⟨δ',M',y1,y2,e1.trans (e2.trans y3),by rw[y4,l1],y5⟩
def Rm(op:Operator)(x y:D):Option D:=match op,x,y with
 | .Add,.int i,.int j=>some (.int (i+j))
 | .Sub,.int i,.int j=>some (.int (i - j))
 | _,_,_=>none
def Rl(op:Operator):V->V->Hp->VK->Prop:=λvx vy H Q=>match op,vx,vy with
 | .Add,.int i,.int j=>Q (.int (i+j)) H
 | .Sub,.int i,.int j=>Q (.int (i - j)) H
 | _,_,_=>False
def Sg{op:Operator}:OU X op (Rl op):=by
 intro WH s σ H x y u v Q I rx ry h;unfold Rl at h;split at h
 .exact Rt WH s σ H _ _ u v Q I rx ry ⟨_,_,rfl,rfl,h⟩
 .exact Rn WH s σ H _ _ u v Q I rx ry ⟨_,_,rfl,rfl,h⟩
 .exact h.elim
def PY{K:qu}{H:Hp}{op:Operator}{x y z:D}{vx vy:V}{Q:VK}(hx:rN K H x vx)(hy:rN K H y vy)(e:Rm op x y=some z)(k:∀vz,rN K H z vz->Q vz H):Rl op vx vy H Q:=by
 unfold Rm at e;split at e
 .cases e;cases hx.int_inv;cases hy.int_inv;exact k _ .int
 .cases e;cases hx.int_inv;cases hy.int_inv;exact k _ .int
 .cases e
def TB(K:qu)(f:Str)(op:Operator)(ta tv:T3):xA:=λE δ M=>ta δ M λx M1=>match x with
 | .ref a=>AN (M1 a) λC fs=>uh K C f/\(fs.lookup f).elim False λd=>tv δ M1 λy M2=>(Rm op d y).elim False λz=>AN (M2 a) λC' fs'=>C'=C/\fs'.length<1000/\E.nx δ (pF M2 a (.ins C (vU f z fs')))
 | _=>False
def DI{o value:Expr}{ta tv:T3}{f:Str}{op:Operator}{YQ:Pos}(ha:E3 X o ta)(hv:E3 X value tv):S3 X (.AugAssign (.Attribute o f YQ) op value pos) (TB X.K f op ta tv):=
 PS.mono (KB ha hv Sg) λD' σ H zz=>KH zz λδ M E hs hm ht k1 k2 k3 k4=>
 ⟨δ,M,_,hs,hm,ht,λv H1 d M1 hd WJ e1 q1=>by
  cases d with
  | ref a=>
   cases hd.mM;obtain⟨C,fs,e,q1⟩:=xW q1;obtain⟨na,q1⟩:=q1;obtain⟨d,ed,q1⟩:=qX q1;obtain⟨dx,vs,h1,cl,nn,fo⟩:=WJ a _ e;obtain⟨w,ew,hw⟩:=(wD fo).1 d ed;refine⟨a,C,dx,vs,w,rfl,h1,cl,na,ew,δ,M1,_,hs.mono e1,WJ,q1,λu H2 y M2 hy WZ e2 q2=>?_⟩;obtain⟨z,ez,q2⟩:=qX q2;obtain⟨C',fs',e',q2⟩:=xW q2;obtain⟨rfl,hl,q2⟩:=q2;refine PY (hw.mono e2) hy ez λvz hz=>?_;obtain⟨Zr,vs',Xp,cl',nn',fo'⟩:=WZ a _ e';have WN:vs'.length=fs'.length:=by have:=eX List.length fo'.1;simpa using this
   refine⟨Zr,vs',Xp,by omega,?_⟩;obtain⟨XC,e3⟩:=WZ.put (p:=a) (o:=.ins C' Zr (vD f vz vs')) (c:=.ins C' (vU f z fs')) e' λx=>⟨Zr,_,qh,cl',λg hg=>by
    rcases BP hg with q|q
    .rw[q];exact na
    .exact nn' g q,ER (hz.mono x) (fo'.mono x)⟩
   exact k1 σ _ δ _ (hs.mono (e1.trans (e2.trans e3))) XC (e1.trans (e2.trans e3)) rfl q2
  | _=>exact q1.elim⟩
theorem tP{i:Nat}{tt:Az}{te:T3}{ok:Mp->Prop}{Q:DK}{f:D->D}{t:D->Bool}{M:Mp}(mV:ok M):∀(ds acc:List D) (δ:vo),acc.length+ds.length<=sizeLine->
  (∀d∈ds,∀k:Bool->Mp->Prop,k (t d) M->tt (δ.set i (some d)) M k)->(∀d∈ds,t d=true->∀k:DK,k (f d) M->te (δ.set i (some d)) M k)->
  (∀p,M p=none->Q (.ref p) (pF M p (.lst (acc++(ds.filter t).map f))))->vd (sP i) tt te ok Q ds acc δ M
 | [],acc,δ,hl,_,_,hq=>⟨by simpa using hl,by simpa using hq⟩
 | d::r,acc,δ,hl,ht,he,hq=>by
  rw[d9]at hl;refine⟨by omega,?_⟩;show tt (δ.set i (some d)) M _;refine ht d dG _ ?_;have z:∀e:D,(δ.set i (some d)).set i (some e)=δ.set i (some e):=λe=>by rw[jJ]
  cases q:t d with
  | true=>
   rw[df rfl];refine he d dG q _ ⟨mV,tP (f:=f) (t:=t) mV r (acc++[f d]) _ ?_ (λe m k h=>?_) (λe m h0 k h=>?_) ?_⟩
   .rw[cY,dO];omega
   .rw[z];exact ht e (dE _ m) k h
   .rw[z];exact he e (dE _ m) h0 k h
   .intro p hp;have:=hq p hp;rw[gP q]at this
    simpa using this
  | false=>
   rw[cZ dB];refine⟨mV,tP (f:=f) (t:=t) mV r acc _ (by omega) (λe m k h=>?_) (λe m h0 k h=>?_) ?_⟩
   .rw[z];exact ht e (dE _ m) k h
   .rw[z];exact he e (dE _ m) h0 k h
   .intro p hp;have:=hq p hp;rw[gQ (by rw[q];exact dB)]at this;exact this
section
variable {a:Expr}
def Vn(ta:T3):T3:=λδ M Q=>ta δ M λx M1=>match x with|.int i=>Q (.int (-i)) M1|_=>False
def zS(ha:E3 X a ta):E3 X (.UnaryOp .USub a pos) (Vn ta):=PE.mono (Ur Sh ha) λσ H Q' zz=>x7 zz λδ M Q hs hm ht k=>
 ⟨δ,M,_,hs,hm,ht,λv H1 d M1 hd WJ e1 q1=>by
  cases d with
  | int i=>cases hd.int_inv;exact⟨i,rfl,k _ H1 _ M1 .int WJ e1 q1⟩
  | _=>exact q1.elim⟩
end
end L3
namespace L2
open PySem.W
def By{α:Type}(lt:Nat->Nat->Bool):KasT α->α
 | .ret a=>a
 | .ask i j k=>By lt (k (lt i j))
def vn(n:Nat):KasT (Array Nat)->Bool
 | .ret p=>p.size==n&&p.toList.all λi=>decide (i<n)
 | .ask i j k=>decide (i<n)&&decide (j<n)&&vn n (k true)&&vn n (k false)
def GV{n i j:Nat}{k:Bool->KasT (Array Nat)}(h:vn n (.ask i j k)=true):i<n/\j<n/\∀b,vn n (k b)=true:=by simp only[vn,dU,eB]at h;exact⟨h.1.1.1,h.1.1.2,λb=>by cases b;exact h.2;exact h.1.2⟩
theorem GW{cmp:Nat->Nat->(Bool->Sd->Prop)->Sd->Prop}{lt:Nat->Nat->Bool}{n:Nat}{s:Sd}{Q:Array Nat->Sd->Prop}(hc:∀i j (C:Bool->Sd->Prop),i<n->j<n->C (lt i j) s->cmp i j C s):
  ∀t:KasT (Array Nat),vn n t=true->Q (By lt t) s->t.kasWp cmp Q s
 | .ret _,_,q=>q
 | .ask i j k,hb,q=>by obtain⟨h1,h2,h3⟩:=GV hb;exact hc i j _ h1 h2 (GW hc (k (lt i j)) (h3 _) q)
theorem IC{lt:Nat->Nat->Bool}{n:Nat}:∀t:KasT (Array Nat),vn n t=true->(By lt t).size=n/\∀i∈(By lt t).toList,i<n
 | .ret p,hb=>by simp only[vn,dU,fj,eK,eB]at hb;exact hb
 | .ask i j k,hb=>IC (k (lt i j)) ((GV hb).2.2 _)
def tX(lt:Nat->Nat->Bool)(n:Nat):List Nat:=if n<2 then List.range n else(By lt (kas_sort n)).toList
def UY:vn 2 (kas_sort 2)=true:=by decide+kernel
def U7:vn 3 (kas_sort 3)=true:=by decide+kernel
def Uw{n:Nat}(h2:2<=n)(h3:n<=3):vn n (kas_sort n)=true:=by
 have:n=2\/n=3:=by omega
 rcases this with rfl|rfl
 .exact UY
 .exact U7
def yi{lt:Nat->Nat->Bool}{n:Nat}(h3:n<=3):(tX lt n).length=n/\∀i∈tX lt n,i<n:=by
 unfold tX;by_cases h:n<2
 .rw[df h,eD];exact⟨rfl,λi hi=>gj.mp hi⟩
 .rw[cZ h];obtain⟨h1,h2⟩:=IC (lt:=lt) (kas_sort n) (Uw (by omega) h3);exact⟨by rw[ii];exact h1,h2⟩
variable {prog:Pg}{w:Wo}{A:Ar}{E:QQX}{s:Sd}
def De{a:Addr}{vs:List Vl}{n:Nat}{κ:SortKind}{lt:Nat->Nat->Bool}{P:PySem.Fin->Sd->Prop}(ho:s.heap.get? a=some (seqObj "list" vs.toArray n))(h3:vs.length<=3) (hk:∀h' (Q:SortKind->Sd->Prop),0<vs.length->(∀b o,b≠a->s.heap.get? b=some o->h'.get? b=some o)->Q κ {s with heap:=h'}->wpAny (model prog w) A (keyKind' vs.toArray) Q (λ_ _=>False) {s with heap:=h'})
  (WV:∀h' i j (C:Bool->Sd->Prop),(∀b o,b≠a->s.heap.get? b=some o->h'.get? b=some o)->i<vs.length->j<vs.length->C (lt i j) {s with heap:=h'}->wpAny (model prog w) A (keyLt' κ (vs.getD i .none) (vs.getD j .none)) C (λ_ _=>False) {s with heap:=h'})
  (h:P (.done (.ret .none)) {s with heap:=sortedHeap s.heap a vs (List.toArray ((tX lt vs.length).map λi=>vs.getD i Value.none))}):
  wpAny (model prog w) A (Builtin.«list.sort» ⟨[.ref a],[]⟩) P E s:=by
 rw[list_sort_plain];have hz:=dN;have ha:a<s.heap.objs.size:=dA ho;refine cW (listItems_at ho rfl ?_);refine cW (kC ho rfl ?_ (by rw[dw];omega) (eL _));obtain⟨e1,Zy⟩:∃e1,(s.heap.update a (Obj.mapSeq λ_=>#[])).get? a=some (seqObj "list" #[] e1):=⟨_,get?_update_seq ho (λ_=>#[])⟩;refine cW (lG Zy rfl ?_);refine cW (wpAny_newTuple ?_ (by show vs.length<=_;omega));refine cW (wpAny_newList ?_ (eL _));refine eU ?_;have ho6:(((s.heap.update a (Obj.mapSeq λ_=>#[])).push (seqObj "tuple" vs.toArray 0)).push (seqObj "list" #[] 0)).get? a=some (seqObj "list" #[] e1):=by rw[iG _ _ _ (by rw[mf,iK];exact dM (fY ha)),iG _ _ _ (by rw[iK];exact dM ha)];exact Zy
 have keep:∀b o,b≠a->s.heap.get? b=some o->(((s.heap.update a (Obj.mapSeq λ_=>#[])).push (seqObj "tuple" vs.toArray 0)).push (seqObj "list" #[] 0)).get? b=some o:=λb o hb q=>by have WV:b<s.heap.objs.size:=dA q;rw[iG _ _ _ (by rw[mf,iK];exact dM (fY WV)),iG _ _ _ (by rw[iK];exact dM WV),iZ _ _ _ _ hb];exact q
 show wpAny (model prog w) A _ P E {s with heap:=((s.heap.update a (Obj.mapSeq λ_=>#[])).push (seqObj "tuple" vs.toArray 0)).push (seqObj "list" #[] 0)};dsimp only;have hsz:vs.toArray.size=vs.length:=by simp
 by_cases h2:vs.toArray.size<2
 .rw[df h2,df h2];refine cW (dq ?_);rw[StateT.run_pure];refine cW (dq ?_);dsimp only;refine cW (lG ho6 rfl ?_);have eo:(arrOf (SortSt.mk' general' (vs.toArray.zip vs.toArray) #[] 7 none)).map (·.2)=List.toArray ((tX lt vs.length).map λi=>vs.getD i Value.none):=by
   unfold tX;rw[df (by omega)];show((vs.toArray.zip vs.toArray).map (·.2))=_
   match vs,hsz,h2 with
   | [],_,_=>simp
   | [_],_,_=>simp[iT]
   | _::_::_,_,h2=>simp at h2;omega
  rw[eo];refine cW (kC ho6 rfl ?_ (eL _) (by rw[dw,cV,(yi h3).1];omega));simp only[lB,kY,ko];exact dq h
 .rw[cZ h2,cZ h2];have g2:2<=vs.length:=by omega
  refine cW (eA (hk _ (λκ' s'=>κ'=κ/\s'={s with heap:=((s.heap.update a (Obj.mapSeq λ_=>#[])).push (seqObj "tuple" vs.toArray 0)).push (seqObj "list" #[] 0)}) (by omega) keep ⟨rfl,rfl⟩) ?_ λ_ _ x=>x.elim)
  rintro κ' s' ⟨rfl,rfl⟩
  refine cW (eA (kat_run (ks:=vs) (vs:=vs) (Q:=λXw s'=>∃p:Array Nat,arrOf Xw=p.map (kas_item (vs.toArray.zip vs.toArray))/\failedOf Xw=none/\p.toList=tX lt vs.length/\s'={s with heap:=((s.heap.update a (Obj.mapSeq λ_=>#[])).push (seqObj "tuple" vs.toArray 0)).push (seqObj "list" #[] 0)})
   (G:=λp s'=>p.toList=tX lt vs.length/\s'={s with heap:=((s.heap.update a (Obj.mapSeq λ_=>#[])).push (seqObj "tuple" vs.toArray 0)).push (seqObj "list" #[] 0)})
   rfl g2 (by omega) (λp' Xw s' a1 a2 a3 a4=>⟨p',a2,a3,a4⟩) (GW (n:=vs.length) (lt:=lt) (λi j C hi hj hC=>WV _ i j C keep hi hj hC) _ (Uw g2 h3) ⟨by unfold tX;rw[cZ (by omega)],rfl⟩)) ?_ λ_ _ e=>e)
  rintro ⟨⟨⟩,Xw⟩ s' ⟨p,har,hf,hp,rfl⟩
  dsimp only;have hout:=kat_snds rfl har;rw[hp]at hout;refine cW (lG ho6 rfl ?_);rw[hout];refine cW (kC ho6 rfl ?_ (eL _) (by rw[dw,cV,(yi h3).1];omega));rw[hf];simp only[lB,kY,ko];exact dq h
def UO(a b:Str×Int):Bool:=if a.1==b.1 then(if a.2==b.2 then false else decide (a.2<b.2))else decide (a.1.cps.toList<b.1.cps.toList)
def OH{x y:Addr}{ox oy:Obj}{n k:Nat}{a b:Str×Int}{t1 t2 t3 t4:Tok}{C:Bool->Sd->Prop}(hx:s.heap.get? x=some ox)(dx:ox.data=.seq #[.str a.1 t1,.int a.2 t2] n)(hy:s.heap.get? y=some oy)(dy:oy.data=.seq #[.str b.1 t3,.int b.2 t4] k)(h:C (UO a b) s):
  wpAny (model prog w) A (keyLt' (tuples' true) (.ref x) (.ref y)) C E s:=by
 refine kat_lt hx dx hy dy ?_;show KatLex prog w A true _ C [(Value.str a.1 t1,Value.str b.1 t3),(Value.int a.2 t2,Value.int b.2 t4)] 0 s;unfold UO at h;refine kat_cons (eqBool_str ?_);cases e:a.1==b.1 with
 | true=>
  rw[e,df rfl]at h;refine kat_yes (kat_cons (lJ ?_));cases e2:a.2==b.2 with
  | true=>rw[e2,df rfl]at h;exact kat_yes (kat_nil h)
  | false=>rw[e2,cZ dB]at h;exact kat_no (kat_one _ _ (PyProof.Rows.lt_int h))
 | false=>rw[e,cZ dB]at h;exact kat_no (oneLt_str h)
def Dh{x:Str}{v:Vl}(h:BI (.inr x) v=true):∃t,v=.str x t:=by
 rcases rV h with⟨i,t,e,_⟩|⟨y,t,e,e2⟩
 .cases e
 .cases e;exact⟨t,e2⟩
def Fo(ps:List (Str×Int))(i j:Nat):Bool:=UO (ps.getD i ("",0)) (ps.getD j ("",0))
def tF(ps:List (Str×Int)):List (Str×Int):=(tX (Fo ps) ps.length).map λi=>ps.getD i ("",0)
def DO{ps:List (Str×Int)}(h:ps.length<=3):(tF ps).length=ps.length:=by unfold tF;rw[cV];exact(yi h).1
def Pr(h:Heap)(a:Addr)(p:Str×Int):Prop:=BO λt1 t2=>h.get? a=some {cls:=.type "tuple",data:=.seq #[.str p.1 t1,.int p.2 t2]}
def Pr.inj{h:Heap}{a:Addr}{p q:Str×Int}(x:Pr h a p)(y:Pr h a q):p=q:=by obtain⟨t1,t2,e1⟩:=x;obtain⟨u1,u2,e2⟩:=y;rw[e1]at e2;have:=dh e2;simp only[Obj.mk.injEq,Data.seq.injEq,Array.mk.injEq,List.cons.injEq,Value.str.injEq,Value.int.injEq]at this;exact my (by simp_all) (by simp_all)
theorem Jc{h:Heap}:∀(as:QXQ) (ps:List (Str×Int)),as.length=ps.length->(∀(j:Nat) (a:Addr) (p:Str×Int),as[j]?=some a->ps[j]?=some p->Pr h a p)->∃fs,KatTups h (as.map Value.ref) fs/\fs.length=as.length/\∀v∈fs,∃x t,v=Value.str x t
 | [],[],_,_=>⟨[],.nil,rfl,λv hv=>nomatch hv⟩
 | [],_::_,e,_=>by cases e
 | _::_,[],e,_=>by cases e
 | a::as,p::ps,e,hp=>by
  obtain⟨fs,h1,h2,h3⟩:=Jc as ps (by simpa using e) λj a' p' e1 e2=>hp (j+1) a' p' (by simpa using e1) (by simpa using e2);obtain⟨t1,t2,ea⟩:=hp 0 a p rfl rfl;refine⟨.str p.1 t1::fs,.cons ea rfl rfl rfl h1,by simp[h2],λv hv=>?_⟩;rcases dg.mp hv with z|z
  .exact⟨_,_,z⟩
  .exact h3 v z
def Gf{r d:Addr}{kvs:List (qW×Vl)}{ep:Nat}{ps:List (Str×Int)}{Q:QQX}(hh:A.handled=none)(hv:s.heap.IsItemsView r d)(hm:s.heap.DictAt (rq prog w) d kvs ep)(h3:ps.length<=3) (hp:kvs.length=ps.length) (hps:∀(j:Nat) (k:qW) (x:Vl),kvs[j]?=some (k,x)->∃p t,ps[j]?=some p/\k=Sum.inr p.1/\x=.int p.2 t) (h:∀(h':Heap) (tk:Nat) (S:Addr) (ws:QXQ) (e:Nat),(∀b o,s.heap.get? b=some o->h'.get? b=some o)->r<S->h'.get? S=some (seqObj "list" (ws.map Value.ref).toArray e)->ws.length=ps.length->
    (∀(j:Nat) (a:Addr) (p:Str×Int),ws[j]?=some a->(tF ps)[j]?=some p->r<a/\a≠S/\Pr h' a p)->Q (.ref S) {s with heap:=h',toks:=tk}):
  wpAny (model prog w) A (call (.builtin "sorted") [.ref r]) Q E s:=by
 have hz:=dN;have hr:r<s.heap.objs.size:=by obtain⟨o,ho,_⟩:=hv;exact dA ho
 refine Calls.call_function_entry kind_sorted plain_sorted entry_sorted (args_sorted1 _) ?_;unfold Builtin.«sorted»;refine cW (m:=checkCount "sorted" 1 1 _) (dq ?_);refine cW (kdx_collect (A:=A.in1) hh hv hm (by omega) λh1 tk as hk hl hG=>?_);refine cW (wpAny_newList ?_ (by rw[cV];omega));have hl':as.length=ps.length:=by omega
 have pr:∀(j:Nat) (a:Addr) (p:Str×Int),as[j]?=some a->ps[j]?=some p->Pr h1 a p:=λj a p e1 e2=>by obtain⟨key,k,x,f1,f2,f3⟩:=hG.pairs j a e1;obtain⟨p',t,g1,g2,g3⟩:=hps j k x f1;rw[e2]at g1;cases g1;subst g2 g3;obtain⟨t',rfl⟩:=Dh f2;exact⟨t',t,f3⟩
 have hoL:(h1.push (seqObj "list" (as.map Value.ref).toArray 0)).get? h1.objs.size=some (seqObj "list" (as.map Value.ref).toArray 0):=dI _ rfl;have pr2:∀h',(∀b o,b≠h1.objs.size->(h1.push (seqObj "list" (as.map Value.ref).toArray 0)).get? b=some o->h'.get? b=some o)->∀(j:Nat) (a:Addr) (p:Str×Int),as[j]?=some a->ps[j]?=some p->Pr h' a p:=λh' kp j a p e1 e2=>by obtain⟨t1,t2,e3⟩:=pr j a p e1 e2;exact⟨t1,t2,kp _ _ (dM (dA e3)) (de _ e3)⟩
 have gd:∀i,i<as.length->∃a p,as[i]?=some a/\ps[i]?=some p/\(as.map Value.ref).getD i Value.none=.ref a/\ps.getD i ("",0)=p:=λi hi=>by
  have XA:i<ps.length:=by omega
  refine⟨as[i],ps[i],cX hi,cX XA,?_,?_⟩
  .simp[hi]
  .simp[XA]
 have hll:(as.map Value.ref).length=ps.length:=by rw[cV];exact hl'
 show wpAny _ _ _ _ _ {s with heap:=h1.push (seqObj "list" (as.map Value.ref).toArray 0),toks:=tk};refine cW (eU (fV slot_list_sort ⟨_,hoL,rfl⟩ entry_list_sort (De (κ:=tuples' true) (lt:=Fo ps) (s:={s with heap:=h1.push (seqObj "list" (as.map Value.ref).toArray 0),toks:=tk}) hoL (by rw[hll];exact h3) (λh' Q' W8 kp hq=>?_) (λh' i j C kp hi hj hC=>?_) ⟨_,rfl,?_⟩) (args_list_sort _)))
 .obtain⟨fs,k1,k2,k3⟩:=Jc as ps hl' (pr2 h' kp);refine kat_kind (T:=Value.type "str") k1 (by rw[k2];rw[cV]at W8;exact W8) (λv hv=>?_) (by decide) hq;obtain⟨x,t,rfl⟩:=k3 v hv;exact Looks.now
 .rw[cV]at hi hj;obtain⟨a,p,a1,a2,a3,a4⟩:=gd i hi;obtain⟨b,q,b1,b2,b3,b4⟩:=gd j hj;rw[a3,b3];obtain⟨t1,t2,e1⟩:=pr2 h' kp i a p a1 a2;obtain⟨t3,t4,e2⟩:=pr2 h' kp j b q b1 b2;refine OH (s:={s with heap:=h',toks:=tk}) e1 rfl e2 rfl ?_;show C (UO p q) _;rw[<-a4,<-b4];exact hC
 .obtain⟨e,he⟩:=sortedHeap_at (h:=h1.push (seqObj "list" (as.map Value.ref).toArray 0)) (a:=h1.objs.size) (vs:=as.map Value.ref) (out:=List.toArray ((tX (Fo ps) (as.map Value.ref).length).map λi=>(as.map Value.ref).getD i Value.none)) hoL;have Xe:∀b o,h1.get? b=some o->(sortedHeap (h1.push (seqObj "list" (as.map Value.ref).toArray 0)) h1.objs.size (as.map Value.ref) (List.toArray ((tX (Fo ps) (as.map Value.ref).length).map λi=>(as.map Value.ref).getD i Value.none))).get? b=some o:=λb o q=>by have hb:=dA q;rw[sortedHeap_old (dM hb) (by rw[mf];exact fY hb)];exact de _ q
  have ix:=yi (lt:=Fo ps) h3;have eo:((tX (Fo ps) (as.map Value.ref).length).map λi=>(as.map Value.ref).getD i Value.none)=((tX (Fo ps) ps.length).map λi=>as.getD i 0).map Value.ref:=by
   rw[hll,eh];refine gw λi hi=>?_;have:=ix.2 i hi;have X7:i<as.length:=by omega
   simp[X7]
  refine dq ⟨_,rfl,h _ tk h1.objs.size ((tX (Fo ps) ps.length).map λi=>as.getD i 0) e (λb o q=>Xe b o (hk b o q)) ?_ ?_ ?_ λj a p e1 e2=>?_⟩
  .obtain⟨o,ho,_⟩:=hv;exact dA (hk _ _ ho)
  .rw[he,eo]
  .rw[cV];exact ix.1
  .unfold tF at e2;rw[dD]at e1 e2;cases ei:(tX (Fo ps) ps.length)[j]? with
   | none=>rw[ei]at e1;cases e1
   | some i=>
    rw[ei]at e1 e2;have hi:=ix.2 i (fu ei);obtain⟨a',p',a1,a2,a3,a4⟩:=gd i (by omega);have ea:a=a':=by have:as.getD i 0=a:=dh e1;rw[<-this];simp[gh,a1]
    have ep:p=p':=by have:ps.getD i ("",0)=p:=dh e2;rw[<-this,a4]
    subst ea ep;have P1:=pr i a p a1 a2;obtain⟨t1,t2,e3⟩:=P1;exact⟨ip hr (hG.above a (fu a1)),dM (dA e3),t1,t2,Xe _ _ e3⟩
def Inv.many{X:Cx}{WH:QQY}{σ:St}{H H':Hp}{s:Sd}{h':Heap}{t':Nat}(I:Inv X WH σ H s)(k:∀b o,s.heap.get? b=some o->h'.get? b=some o)(hs:∀b,b<s.heap.objs.size->H' b=H b) (new:∀b o,s.heap.objs.size<=b->H' b=some o->sd X.prog X.w H' h' b o):Inv X WH σ H' {s with heap:=h',toks:=t'}:=by
 have sm:∀b o,H b=some o->H' b=some o:=λb o e=>by rw[hs b (I.mV.lt e)];exact e
 refine I.step (g':=s.gens) (d':=s.drawn) (ch:=[]) (λb hb=>nomatch hb) (λb o _ _ _ e _=>k b o e) (λb o _ _ _ e _=>⟨o.slots,k b o e⟩) (λb o _ e n=>by rw[hs b (dA e)];exact n)
  (λb o _ e=>⟨o,k b o e⟩) (λb xs e=>sm b _ e) (λb o u e=>sm b _ e) (λb ps e=>⟨#[],by rw[sm b _ e];simp⟩) (λm hm=>?_) (λb u e=>?_) I.bare
 .obtain⟨o,es,ep,ho,r⟩:=hm;exact⟨o,es,ep,k _ o ho,r⟩
 .by_cases hb:b<s.heap.objs.size
  .rw[hs b hb]at e;exact(I.mV b u e).nz (λc v _ q=>k c v q) (λc q=>sm c _ q) λc xs q=>sm c _ q
  .exact new b u (jE hb) e
def Q5(te:TE):TE:=λσ H Q=>te σ H λv H1=>∃a kvs ps,v=.ref a/\H1 a=some (.dK kvs)/\kvs=(ps:List (Str×Int)).map (λp=>((Sum.inr p.1:qW),V.int p.2))/\ps.length<=3/\
 ∀(S:Addr) (H2:Hp) (ws:QXQ),H1 S=none->(∀b o,H1 b=some o->H2 b=some o)->H2 S=some (.lst (ws.map V.ref))->ws.length=ps.length->(∀(j:Nat) (a:Addr) (p:Str×Int),ws[j]?=some a->(tF ps)[j]?=some p->H2 a=some (.tup [.str p.1,.int p.2]))->
  (∀b o,H1 b=none->H2 b=some o->b=S\/∃p:Str×Int,o=.tup [.str p.1,.int p.2])->Q (.ref S) H2
def JD:bootBuiltins "sorted"=some (.builtin "sorted"):=by decide+kernel
theorem Ji:∀{ps:List (Str×Int)} {vs:List (qW×Vl)},KV (ps.map (λp=>((Sum.inr p.1:qW),V.int p.2))) vs->vs.length=ps.length/\∀(j:Nat) (k:qW) (x:Vl),vs[j]?=some (k,x)->∃p t,ps[j]?=some p/\k=Sum.inr p.1/\x=.int p.2 t
 | [],_,.nil=>⟨rfl,λj k x e=>by simp at e⟩
 | p::ps,_,.cons r rs=>by
  obtain⟨h1,h2⟩:=Ji rs;refine⟨by simp[h1],λj k x e=>?_⟩;cases j with
  | zero=>have e:=dh e;obtain⟨r1,t,r2⟩:=r;subst e;exact⟨p,t,rfl,r1.symm,r2⟩
  | succ j=>exact h2 j k x e
def Fu{X:Cx}{o:Expr}{te:TE}{p pos WK WO:Pos}(hc:X.calm=true)(he:PE X o te)(hg:Gl X "sorted")(hm:X.mg "sorted"=none) (WU:attributeBase o "items" X.env (eval o X.env)=eval o X.env:=by rfl) (W4:(WK.endLine==WO.line)=true:=by rfl):
  PE X (.Call (.Name "sorted" p) [.Call (.Attribute o "items" WK) [] [] WO] [] pos) (Q5 te):=by
 intro WH s σ H Q I h;refine fU (wF I hg hm JD ?_);refine gT ?_ rfl rfl;show wpAny _ _ (spliced ((false,eval (.Call (.Attribute o "items" WK) [] [] WO) X.env)::backTo pos (starEach [] X.env))) _ _ s;refine io ?_;refine wpAny_Call_method0_late WU W4 (sH (he WH s σ H _ I h) λv s1 zz=>?_);obtain⟨x,H1,I1,r1,a,kvs,ps,ex,ea,ek,h3,q⟩:=zz;subst ex;obtain rfl:v=Value.ref a:=r1;obtain⟨h1,h2⟩:=Nv (T:="dict") (x:=.ref a) I1 rfl (.inr (.inr (.inl ⟨rfl,.inl ⟨_,ea⟩⟩)));refine⟨"dict","dict.items",PySem.F.plainAttrs_dict,jQ,PySem.F.type_dict_items,h1,h2,j5 rfl (PySem.evalArgs_none ?_)⟩;obtain⟨hz,hS,vs,rk,hD⟩:=I1.mV a _ ea;refine call_meetsIn jQ h1 PySem.F.entry_dict_items (PySem.F.args_dict_items_1 _) (meets_dict_items (rq X.prog X.w) a hS) ⟨⟨vs,hD⟩,?_⟩;refine iF ?_;obtain⟨ep,YW⟩:=hD.dictAt;subst ek;obtain⟨g1,g2⟩:=Ji rk;refine Gf (ps:=ps) (s:={s1 with heap:=s1.heap.push {cls:=.type "dict_items",data:=.fields #[.ref a]}}) (I1.ok.hd hc) ⟨_,dI _ rfl,rfl,rfl⟩ (YW.push _) h3 g1 g2 λh' tk S ws e k hrS Yv hl hw=>?_;have k':∀b o,s1.heap.get? b=some o->h'.get? b=some o:=λb o z=>k b o (de _ z);have YX:(tF ps).length=ws.length:=by rw[DO h3,hl]
 let H2:Hp:=λb=>if b=S then some (.lst (ws.map V.ref))else match (ws.zip (tF ps)).lookup b with
  | some p=>some (.tup [.str p.1,.int p.2])
  | none=>H1 b
 have at1:∀b p,(ws.zip (tF ps)).lookup b=some p->s1.heap.objs.size<b/\b≠S/\Pr h' b p:=λb p z=>by
  have:(b,p)∈ws.zip (tF ps):=by
   have go:∀l:List (Addr×(Str×Int)),l.lookup b=some p->(b,p)∈l:=λl=>by
    induction l with
    | nil=>intro z;cases z
    | cons c r ih=>
     intro z;rw[eG]at z;cases q:b==c.1 with
     | true=>
      rw[q]at z;have hb:b=c.1:=by simpa using q
      have:c=(b,p):=my hb.symm (dh z);rw[this];exact dG
     | false=>rw[q]at z;exact dE _ (ih z)
   exact go _ z
  obtain⟨j,hj⟩:=List.mem_iff_getElem?.mp this;obtain⟨e1,e2⟩:=il.mp hj;exact hw j b p e1 e2
 have lowS:s1.heap.objs.size<S:=hrS;have low:∀b,b<s1.heap.objs.size->H2 b=H1 b:=λb hb=>by
  show(if b=S then _ else _)=_;rw[cZ (dM (ip hb lowS))];cases z:(ws.zip (tF ps)).lookup b with
  | none=>rfl
  | some p=>exact absurd (at1 b p z).1 (Nat.not_lt_of_lt hb)
 have eS:H2 S=some (.lst (ws.map V.ref)):=df rfl;have fr:∀b,s1.heap.objs.size<=b->H1 b=none:=λb hb=>I1.mV.fresh hb;have tupAt:∀(j:Nat) (b:Addr) (p:Str×Int),ws[j]?=some b->(tF ps)[j]?=some p->H2 b=some (.tup [.str p.1,.int p.2]):=λj b p e1 e2=>by
  obtain⟨_,n2,n3⟩:=hw j b p e1 e2;show(if b=S then _ else _)=_;rw[cZ n2];have mem:(b,p)∈ws.zip (tF ps):=fu (il.mpr ⟨e1,e2⟩);cases z:(ws.zip (tF ps)).lookup b with
  | none=>
   have go:∀l:List (Addr×(Str×Int)),(b,p)∈l->l.lookup b≠none:=λl=>by
    induction l with
    | nil=>intro z;cases z
    | cons c r ih=>
     intro z;rw[eG];cases q:b==c.1 with
     | true=>simp
     | false=>
      rcases dg.mp z with y|y
      .rw[<-y]at q;simp at q
      .exact ih y
   exact absurd z (go _ mem)
  | some p'=>rw[(at1 b p' z).2.2.inj n3]
 have Zh:∀b u,s1.heap.objs.size<=b->H2 b=some u->sd X.prog X.w H2 h' b u/\(b=S\/∃p:Str×Int,u=.tup [.str p.1,.int p.2]):=λb u hb z=>by
  by_cases eb:b=S
  .subst eb;rw[eS]at z;cases z;refine⟨⟨by rw[cV,hl,dN];omega,ws.map Value.ref,e,?_,Yv⟩,.inl rfl⟩;have go:∀l:QXQ,qE (l.map V.ref) (l.map Value.ref):=λl=>by
    induction l with
    | nil=>exact .nil
    | cons c r ih=>exact .cons rfl ih
   exact go ws
  .have z':(match (ws.zip (tF ps)).lookup b with|some p=>some (HO.tup [.str p.1,.int p.2])|none=>H1 b)=some u:=by have:H2 b=_:=cZ eb;rw[this]at z;exact z
   cases y:(ws.zip (tF ps)).lookup b with
   | none=>rw[y,fr b hb]at z';cases z'
   | some p=>rw[y]at z';cases z';obtain⟨_,_,t1,t2,e3⟩:=at1 b p y;exact⟨⟨by show 2<=sizeLine;rw[dN];decide,[.str p.1 t1,.int p.2 t2],.cons ⟨_,rfl⟩ (.cons ⟨_,rfl⟩ .nil),⟨_,e3,rfl,⟨_,rfl⟩,rfl⟩⟩,.inr ⟨p,rfl⟩⟩
 refine⟨.ref S,H2,I1.many (t':=tk) k' low λb u hb z=>(Zh b u hb z).1,rfl,q S H2 ws (fr S (jz lowS)) (λb u z=>by rw[low b (I1.mV.lt z)];exact z) eS hl tupAt λb u z1 z2=>?_⟩;by_cases hb:b<s1.heap.objs.size
 .rw[low b hb,z1]at z2;cases z2
 .exact(Zh b u (jE hb) z2).2
end L2
namespace L3
open L2
def As(p:Str×Int):D:=.tup [.str p.1,.int p.2]
def Sk(ta:T3):T3:=λδ M Q=>ta δ M λx M1=>match x with
 | .ref a=>∃ps:List (Str×Int),zB M1 a=some (ps.map λp=>((Sum.inr p.1:qW),D.int p.2))/\ps.length<=3/\∀S,M1 S=none->Q (.ref S) (pF M1 S (.lst ((tF ps).map As)))
 | _=>False
theorem BQ{K:qu}{H:Hp}:∀{ps:List (Str×Int)} {vs:List (qW×V)},vs.map (·.1)=(ps.map λp=>((Sum.inr p.1:qW),D.int p.2)).map (·.1)->qk K H ((ps.map λp=>((Sum.inr p.1:qW),D.int p.2)).map (·.2)) (vs.map (·.2))->vs=ps.map (λp=>((Sum.inr p.1:qW),V.int p.2))
 | [],[],_,_=>rfl
 | [],_::_,e,_=>by cases e
 | _::_,[],e,_=>by cases e
 | p::ps,(k,v)::vs,e,h=>by obtain⟨x,r,e2,h1,h2⟩:=h.inv;obtain⟨e3,e4⟩:=gu e2;obtain⟨f1,f2⟩:=gu e;subst e3 e4;have hk:k=Sum.inr p.1:=f1;have hv:v=V.int p.2:=rN.int_inv h1;rw[BQ f2 h2,hk,hv];rfl
def D9{X:Cx}{o:Expr}{ta:T3}{p pos WK WO:Pos}(hc:X.calm=true)(he:E3 X o ta)(hg:Gl X "sorted")(hm:X.mg "sorted"=none) (WU:attributeBase o "items" X.env (eval o X.env)=eval o X.env:=by rfl) (W4:(WK.endLine==WO.line)=true:=by rfl):
  E3 X (.Call (.Name "sorted" p) [.Call (.Attribute o "items" WK) [] [] WO] [] pos) (Sk ta):=PE.mono (Fu hc he hg hm WU W4) λσ H Q' zz=>x7 zz λδ M Q hs hm ht k=>
 ⟨δ,M,_,hs,hm,ht,λv H1 d M1 hd WJ e1 q1=>by
  cases d with
  | ref a=>
   cases hd.mM;obtain⟨ps,f1,f2,q⟩:=q1;obtain⟨vs,h1,h2,h3⟩:=zC WJ f1;refine⟨a,vs,ps,rfl,h1,BQ h2 h3,f2,λS H2 ws n1 kp eS hl hw hn=>?_⟩;have ex:qQ X.K H1 H2:=⟨λb xs z=>by
    rcases z with(z|⟨u,z⟩)|z
    .exact .inl (.inl (kp _ _ z))
    .exact .inl (.inr ⟨u,kp _ _ z⟩)
    .exact .inr z,λb u xs z=>kp _ _ z⟩
   have hl2:(tF ps).length=ws.length:=by rw[DO f2,hl]
   have hasW:∀(l:List (Str×Int)) (us:QXQ),l.length=us.length->(∀(j:Nat) (a:Addr) (p:Str×Int),us[j]?=some a->l[j]?=some p->H2 a=some (.tup [.str p.1,.int p.2]))->qk X.K H2 (l.map As) (us.map V.ref):=λl=>by
    induction l with
    | nil=>intro us e _;cases us with
     | nil=>exact .nil
     | cons _ _=>cases e
    | cons c r ih=>intro us e hu;cases us with
     | nil=>cases e
     | cons b us=>exact .cons (.tup (.of (hu 0 b c rfl rfl)) (.cons .str (.cons .int .nil))) (ih us (by simpa using e) λj a p e1 e2=>hu (j+1) a p e1 e2)
   refine k _ _ _ _ .ref (λb c z=>?_) (e1.trans ex) (q S (WJ.fresh n1));by_cases eb:b=S
   .subst eb;rw[pP]at z;cases z;exact⟨_,eS,hasW _ _ hl2 hw⟩
   .rw[uc eb]at z;have ok:=WJ b c z;obtain⟨u,eu,_⟩:=ok.there;exact ok.keep ex (by rw[eu,kp _ _ eu])
  | _=>exact q1.elim⟩
variable {X:Cx}{pos:Pos}{a b o i:Expr}{ta tb ti to:T3}
def UD(to ti:T3):Dp:=λd δ M Q=>to δ M λx M1=>ti δ M1 λy M2=>match x,y with
 | .ref p,.int k=>(oM M2 p).elim False λes=>(GH es.length k).elim False λj=>Q δ (pF M2 p (.lst (es.set j d)))
 | _,_=>False
theorem qk.set{K:qu}{H:Hp}{d:D}{v:V}(hv:rN K H d v):∀{ds:List D} {xs:List V} (j:Nat),qk K H ds xs->qk K H (ds.set j d) (xs.set j v)
 | [],_,j,h=>by rw[h.nil_inv];simp only[List.set_nil];exact .nil
 | e::ds,_,0,h=>by obtain⟨x,r,rfl,h1,h2⟩:=h.inv;exact .cons hv h2
 | e::ds,_,j+1,h=>by obtain⟨x,r,rfl,h1,h2⟩:=h.inv;exact .cons h1 (qk.set hv j h2)
def QO(ho:E3 X o to)(hi:E3 X i ti) (ha:∀v,assign (.Subscript o i pos) X.env v=(do
   let ov<-holding [v] (eval o X.env);let iv<-holding [v,ov] (eval i X.env)
   standAt pos
   holding [v,ov,iv] (setItem ov iv v)
   release [v,ov,iv] []):=by intro _;rfl):G3 X (.Subscript o i pos) (UD to ti):=
 PG.mono (SD ho hi MB ha) λv σ H Q' ⟨d,δ,M,Q,hd,hs,hm,ht,k⟩=>
 ⟨δ,M,_,hs,hm,ht,λvx H1 x M1 hx WJ e1 q1=>⟨δ,M1,_,hs.mono e1,WJ,q1,λvy H2 y M2 hy WZ e2 q2=>by
  cases x with
  | ref p=>
   cases y with
   | int j0=>obtain⟨es,f1,q2⟩:=qX q2;obtain⟨j,f2,q2⟩:=qX q2;cases(hx.mono e2).mM;cases hy.int_inv;obtain⟨xs,h1,h2⟩:=ET WZ f1;refine⟨p,xs,j0,j,rfl,rfl,h1,by rw[<-h2.length];exact f2,?_⟩;have hd2:=hd.mono (e1.trans e2);obtain⟨XC,e3⟩:=WZ.put (o:=.lst (xs.set j v)) (c:=.lst (es.set j d)) (qo f1) λex=>⟨_,qh,(h2.mono ex).set (hd2.mono ex) j⟩;exact k σ _ δ _ (hs.mono (e1.trans (e2.trans e3))) XC (e1.trans (e2.trans e3)) rfl q2
   | _=>exact q2.elim
  | _=>exact q2.elim⟩⟩
def T6(ds:List D)(M:Mp)(Q:DK):Prop:=match ds with
 | [.int i]=>Q (.int i) M
 | [.bl k]=>Q (.int (if k then 1 else 0)) M
 | _=>False
def KS:C3 X (.type "int") T6:=by
 intro WH s σ H vs us Q' I rv h;obtain⟨ds,M,Q,hd,hm,q,k⟩:=h;unfold T6 at q;split at q
 .obtain⟨v,rfl,hv⟩:=rO hd;cases hv.int_inv;exact DZ WH s σ H _ us Q' I rv (.inl ⟨_,rfl,k _ _ _ _ .int hm .refl q⟩)
 .obtain⟨v,rfl,hv⟩:=rO hd;cases hv.mP;exact DZ WH s σ H _ us Q' I rv (.inr ⟨_,rfl,k _ _ _ _ .int hm .refl q⟩)
 .exact q.elim
end L3
namespace L2
variable {prog:Pg}{w:Wo}{A:Ar}{E:QQX}{s:Sd}{X:Cx}
end L2
namespace L3
open L2
variable {X:Cx}{pos WK p:Pos}{a b o e i value:Expr}{es:List Expr}{ta tb ti to tv td tk:T3}{t:xC}
def Q9(x y:D)(M:Mp)(Q:DK):Prop:=match x,y with
 | .ref a,.int k=>(oM M a).elim False λes=>(0<=k/\k<=1000/\es.length<=1000)/\∀p,M p=none->Q (.ref p) (pF M p (.lst (List.replicate k.toNat es).flatten))
 | _,_=>False
theorem Im{K:qu}{H:Hp}{ds:List D}{xs:List V}(h:qk K H ds xs):∀n:Nat,qk K H (List.replicate n ds).flatten (List.replicate n xs).flatten
 | 0=>.nil
 | n+1=>by rw[eI,eI,fP,fP];exact h.append (Im h n)
def QQ:xp X (binaryOp .Mult) (R3 X.K Q9):=λWH s σ H vx vy v u Q' I rx ry h=>by
 obtain⟨x,y,M,Q,hx,hy,hm,q,k⟩:=h;unfold Q9 at q;split at q
 .obtain⟨es,e1,⟨q1,q2,q3⟩,q⟩:=qX q;cases hx.mM;cases hy.int_inv;obtain⟨xs,h1,h2⟩:=ET hm e1;have hz:=dN;have hl:=h2.length;refine RK WH s σ H _ _ v u Q' I rx ry ⟨_,_,xs,rfl,rfl,h1,by omega,by omega,?_,λpp hp=>?_⟩
  .exact d6 (ke (show xs.length<=1000 by omega) (show Int.toNat _<=1000 by omega)) (by rw[hz];decide)
  .exact k _ _ _ _ .ref (hm.new (c:=.lst _) hp ⟨_,qh,(Im h2 _).mono (.new hp)⟩) (.new hp) (q pp (hm.fresh hp))
 .exact q.elim
def Ui(ta tb:T3):T3:=λδ M Q=>ta δ M λx M1=>tb δ M1 λy M2=>Q9 x y M2 Q
def Ci(ha:E3 X a ta)(hb:E3 X b tb):E3 X (.BinOp a .Mult b pos) (Ui ta tb):=PE.mono (Qs QQ ha hb) EA
def CC(kvs:List (qW×D))(k:qW)(v:D):List (qW×D):=if (kvs.any λkv=>decide (kv.1=k))=true then kvs.map (λkv=>if kv.1=k then(kv.1,v)else kv)else kvs++[(k,v)]
theorem GK{κ α β:Type}{k:κ}[DecidableEq κ]:∀{xs:List (κ×α)} {ys:List (κ×β)},xs.map (·.1)=ys.map (·.1)->(xs.any λkv=>decide (kv.1=k))=ys.any λkv=>decide (kv.1=k)
 | [],[],_=>rfl
 | [],_::_,e=>by cases e
 | _::_,[],e=>by cases e
 | x::xs,y::ys,e=>by obtain⟨e1,e2⟩:=gu e;rw[fW,fW,GK e2];have e1:x.1=y.1:=e1;rw[e1]
def Kt{K:qu}{H:Hp}{k:qW}{d:D}{v:V}(hv:rN K H d v){kvs:List (qW×D)}{vs:List (qW×V)}(h1:vs.map (·.1)=kvs.map (·.1))(h2:qk K H (kvs.map (·.2)) (vs.map (·.2))):
  (yL vs k v).map (·.1)=(CC kvs k d).map (·.1)/\qk K H ((CC kvs k d).map (·.2)) ((yL vs k v).map (·.2)):=by
 have go:∀{kvs:List (qW×D)} {vs:List (qW×V)},vs.map (·.1)=kvs.map (·.1)->qk K H (kvs.map (·.2)) (vs.map (·.2))->
   (vs.map (λkv=>if kv.1=k then(kv.1,v)else kv)).map (·.1)=(kvs.map (λkv=>if kv.1=k then(kv.1,d)else kv)).map (·.1)/\qk K H ((kvs.map (λkv=>if kv.1=k then(kv.1,d)else kv)).map (·.2)) ((vs.map (λkv=>if kv.1=k then(kv.1,v)else kv)).map (·.2)):=λ{kvs}=>by
  induction kvs with
  | nil=>intro vs e h;cases vs with
   | nil=>exact⟨rfl,.nil⟩
   | cons _ _=>cases e
  | cons c r ih=>intro vs e h;cases vs with
   | nil=>cases e
   | cons w ws=>
    obtain⟨e1,e2⟩:=gu e;obtain⟨x,xr,e3,g1,g2⟩:=h.inv;obtain⟨e4,e5⟩:=gu e3;subst e4 e5;obtain⟨i1,i2⟩:=ih e2 g2;have e1:w.1=c.1:=e1;by_cases hk:c.1=k
    .have w1:(if w.1=k then(w.1,v)else w)=(w.1,v):=df (e1.trans hk);have w2:(if c.1=k then(c.1,d)else c)=(c.1,d):=df hk;simp only[dX,w1,w2];exact⟨by rw[i1,e1],.cons hv i2⟩
    .have w1:(if w.1=k then(w.1,v)else w)=w:=cZ λz=>hk (e1.symm.trans z);have w2:(if c.1=k then(c.1,d)else c)=c:=cZ hk;simp only[dX,w1,w2];exact⟨by rw[i1,e1],.cons g1 i2⟩
 unfold yL CC;rw[GK (k:=k) h1];by_cases hk:(kvs.any λkv=>decide (kv.1=k))=true
 .rw[df hk,df hk];exact go h1 h2
 .rw[cZ hk,cZ hk];exact⟨by rw[dS,dS,h1];rfl,by rw[dS,dS];exact h2.append (.cons hv .nil)⟩
def S4(td tk tv:T3):xA:=λD δ M=>tv δ M λv M1=>td δ M1 λx M2=>tk δ M2 λy M3=>match x,y with
 | .ref a,.str k=>(zB M3 a).elim False λkvs=>kvs.length<sizeLine/\D.nx δ (pF M3 a (.dk (CC kvs (.inr k) v)))
 | _,_=>False
def zJ{M:Mp}{a:Addr}{kvs:List (qW×D)}(h:zB M a=some kvs):M a=some (.dk kvs):=by
 unfold zB at h;split at h
 .rename_i e;rw[e];cases h;rfl
 .cases h
def OY{WT:Pos}(hu:X.A.units+9<cLine)(ho:E3 X o td)(hi:E3 X i tk)(hv:E3 X value tv)(hs:swapsWith value (some (.Subscript o i WT)) pos.line X.env=pure false:=by rfl):S3 X (.Assign [.Subscript o i WT] value pos) (S4 td tk tv):=
 PS.mono (Oa (by omega) ho hi hv hs) λD' σ H zz=>KH zz λδ M D hs hm ht k1 k2 k3 k4=>
 ⟨δ,M,_,hs,hm,ht,λv H1 d M1 hd WJ e1 q1=>⟨δ,M1,_,hs.mono e1,WJ,q1,λvx H2 x M2 hx WZ e2 q2=>⟨δ,M2,_,hs.mono (e1.trans e2),WZ,q2,λvy H3 y M3 hy XC e3 q3=>by
  split at q3
  .rename_i a0 k0;obtain⟨kvs,f1,f2,q3⟩:=qX q3;cases(hx.mono e3).mM;cases hy.str_inv;obtain⟨vs,h1,h2,h3⟩:=zC XC f1;have hl:vs.length=kvs.length:=by have:=eX List.length h2;simpa using this
   refine⟨_,_,rfl,MW.k (k:=Sum.inr k0) h1 (by omega),?_⟩;have hd3:=hd.mono (e2.trans e3);obtain⟨hm4,e4⟩:=XC.put (o:=.dK (yL vs (Sum.inr k0) v)) (c:=.dk (CC kvs (.inr k0) d)) (zJ f1) λex=>by obtain⟨g1,g2⟩:=Kt (k:=Sum.inr k0) (hd3.mono ex) h2 (h3.mono ex);exact⟨_,qh,g1,g2⟩
   exact k1 σ _ δ _ (hs.mono (e1.trans (e2.trans (e3.trans e4)))) hm4 (e1.trans (e2.trans (e3.trans e4))) rfl q3
  .exact q3.elim⟩⟩⟩
variable {WH:List (Addr × Obj)}{σ:St}{H:Hp}{s:Sd}{tp:Pos}{Xj:List Expr}{n:Nat}
end L3
namespace L2
open Builtin Builtin.Str
variable {prog:Pg}{w:Wo}{A:Ar}{E:QQX}{s:Sd}{X:Cx}
end L2
namespace L3
open L2 Builtin Builtin.Str
variable {X:Cx}{pos WK:Pos}{o e:Expr}{es:List Expr}{ta:T3}{t:xC}
@[irreducible] def SsI (X:Cx) (st:List Stmt) (t:xA):Prop:=G6 X st t
@[irreducible] def SI (X:Cx) (st:Stmt) (t:xA):Prop:=S3 X st t
@[irreducible] def EI (X:Cx) (e:Expr) (t:T3):Prop:=E3 X e t
@[irreducible] def AI (X:Cx) (es:List Expr) (t:xC):Prop:=A3 X es t
variable {prog:Pg}{w:Wo}{A:Ar}{E:QQX}{s:Sd}{WH:List (Addr × Obj)}{σ:St}{H:Hp}{p tp:Pos}{Xj:List Expr}{n:Nat}
theorem vh{g:Dp}{tt:Az}{te:T3}{ok:Mp->Prop}{Q:DK}(all:List D)(J:List D->List D->vo->Mp->Prop)(mV:∀p acc δ M,J p acc δ M->ok M):∀(ds pre acc:List D) (δ:vo) (M:Mp),pre++ds=all->acc.length+ds.length<=sizeLine->J pre acc δ M->
  (∀pre d post,pre++d::post=all->∀acc δ M,J pre acc δ M->∀(k:vo->DK) (k2:vo->Mp->Prop),(∀δ2 y M4,J (pre++[d]) (acc++[y]) δ2 M4->k δ2 y M4)->(∀δ2 M3,J (pre++[d]) acc δ2 M3->k2 δ2 M3)->g d δ M λδ2 M2=>tt δ2 M2 λb M3=>if b=true then te δ2 M3 (k δ2)else k2 δ2 M3)->
  (∀acc δ M,J all acc δ M->∀p,M p=none->Q (.ref p) (pF M p (.lst acc)))->vd g tt te ok Q ds acc δ M
 | [],pre,acc,δ,M,e,hl,j,_,hq=>⟨by simpa using hl,hq acc δ M (by rw[<-e,eZ];exact j)⟩
 | d::r,pre,acc,δ,M,e,hl,j,ht,hq=>by rw[d9]at hl;refine⟨by omega,?_⟩;refine ht pre d r e acc δ M j (λδ2 y M4=>ok M4/\vd g tt te ok Q r (acc++[y]) δ2 M4) (λδ2 M3=>ok M3/\vd g tt te ok Q r acc δ2 M3) (λδ2 y M4 j'=>⟨mV _ _ _ _ j',vh all J mV r (pre++[d]) (acc++[y]) δ2 M4 (by rw[<-e,ft];rfl) ?_ j' ht hq⟩) λδ2 M3 j'=>⟨mV _ _ _ _ j',vh all J mV r (pre++[d]) acc δ2 M3 (by rw[<-e,ft];rfl) (by omega) j' ht hq⟩;rw[cY,dO];omega
end L3
namespace L2
def Cx.nZ(X:Cx)(E:QQX):Cx:={X with xe:=E}
def Inv.nZ{X:Cx}{E:QQX}{WH:QQY}{σ:St}{H:Hp}{s:Sd}(I:Inv X WH σ H s):Inv (X.nZ E) WH σ H s:=
 ⟨⟨I.ok.mod,I.ok.kind,I.ok.glob,I.ok.blt,I.ok.above,I.ok.inj,I.ok.has,I.ok.oG,I.ok.hd,I.ok.frames,I.ok.oK,I.ok.oY,I.ok.bs,I.ok.oa,I.ok.nS,I.ok.nX,I.ok.nF,I.ok.oo⟩,I.os,I.bare,I.base,I.loc,I.cell,I.free,I.m9,I.pin,I.mV,I.len⟩
def Inv.xeOf{X:Cx}{E:QQX}{WH:QQY}{σ:St}{H:Hp}{s:Sd}(I:Inv (X.nZ E) WH σ H s):Inv X WH σ H s:=
 ⟨⟨I.ok.mod,I.ok.kind,I.ok.glob,I.ok.blt,I.ok.above,I.ok.inj,I.ok.has,I.ok.oG,I.ok.hd,I.ok.frames,I.ok.oK,I.ok.oY,I.ok.bs,I.ok.oa,I.ok.nS,I.ok.nX,I.ok.nF,I.ok.oo⟩,I.os,I.bare,I.base,I.loc,I.cell,I.free,I.m9,I.pin,I.mV,I.len⟩
end L2
namespace L3
open L2
end L3
namespace L2
end L2
namespace L3
open L2
variable {X:Cx}{pos p tp kpos:Pos}{Xj:List Expr}{n:Nat}
end L3
namespace L2
variable {prog:Pg}{w:Wo}{A:Ar}{E:QQX}{s:Sd}{a:Addr}{δ:Type}{k:Str}{tk:Tok}
section
variable {R:δ→Vl→Prop}{D:List (Str × δ)}
end
end L2
namespace L3
open L2
variable {X:Cx}{pos p:Pos}{x:Str}{d:D}{e o i:Expr}{ta tb td tk:T3}{F:List (Str × QQQ)}
end L3
namespace L2
def Lh(h:Heap)(e:Addr)(cls:Vl)(dx tb:Option Addr)(F:Vl):Prop:=
 ∃oe vs,h.get? e=some oe/\oe.cls=cls/\oe.dict=dx/\oe.data=.fields vs/\1<vs.size/\vs[1]?=some (tb.elim Value.none Value.ref)/\∀T,tb=some T->T≠e/\∃oT ts,h.get? T=some oT/\oT.data=.fields ts/\3<ts.size/\ts[3]?=some F
def P6(h:Heap)(e:Addr)(cls:Vl)(dx tb:Option Addr):Prop:=Lh h e cls dx tb Value.none
theorem Ct{h base:Heap}:∀{l:List Env} {b:Addr},h.FunFrames base l->b∈we l->∃o,h.get? b=some o/\∀vs,o.data≠.fields vs
 | [],b,_,hb=>by cases hb
 | env::r,b,hF,hb=>by
  obtain⟨_,⟨L,o,hL,_,ho,hd⟩,hr⟩:=hF;have e:we (env::r)=L::we r:=by unfold we;rw[gc,hL]
  rw[e]at hb;rcases dg.mp hb with z|z
  .rw[z];exact⟨o,ho,hd⟩
  .exact Ct hr z
def Do{h base:Heap}{l:List Env}{b:Addr}{o:Obj}{vs:Array Vl}(hF:h.FunFrames base l)(ho:h.get? b=some o)(hd:o.data=.fields vs):b∉we l:=λhb=>by obtain⟨o',Xn,hn⟩:=Ct hF hb;rw[ho]at Xn;cases Xn;exact hn vs hd
variable {M:Model}{A:Ar}{s:Sd}{base:Heap}{env:Env}{outer:List Env}{L e:Addr}{cls:Vl}{dx:Option Addr}{Q:Unit→Sd→Prop}
section
variable {E:QQX}
def Pe{X2:Vl}{Y1:Bool}{oe:Obj}{vs:Array Vl}{Xo:Env}(hcf:Xo.frame=some L)(YK:A.frames=some (env::outer))(hF:s.heap.FunFrames base (env::outer))(hL:env.frame=some L)(ho:s.heap.get? e=some oe)(hd:oe.data=.fields vs)(h1:1<vs.size) (k:∀(h':Heap) (T:Addr),s.heap.get? T=none->(∀b o,s.heap.get? b=some o->b∉we (env::outer)->b≠e->h'.get? b=some o)->(∀b o,s.heap.get? b=some o->b∈we (env::outer)->∃sl,h'.get? b=some {o with slots:=sl})->
   (∃oe',h'.get? e=some oe'/\oe'.cls=oe.cls/\oe'.dict=oe.dict/\oe'.data=.fields (vs.setIfInBounds 1 (.ref T)))->(∃oT ts,h'.get? T=some oT/\oT.data=.fields ts/\3<ts.size/\ts[3]?=some (rawInt ↑L))->Q () {s with heap:=h'}):
  wpAny M A (do
   let a<-PySem.frameOf Xo;let pl<-entryPlaceOf L Y1;let b<-EntryCells.newEntry X2 a Value.none (rawInt ↑L) Value.none pl
   setField (Value.ref e) 1 b) Q E s:=by
 have ne:=Do hF ho hd;unfold PySem.frameOf;refine cW (cW (wpAny_frameEnvs YK (cW ?_)));have ed:List.dropWhile (λx=>x.frame != Xo.frame) (env::outer)=env::outer:=by rw[List.dropWhile_cons,cZ (by rw[hL,hcf];simp)]
 rw[ed];unfold frameObject;refine cW (wpAny_readyFrames_fun hF λXp hs=>?_);obtain⟨z1,z2,z3⟩:=hs;rw[hL];refine dq (dq ?_);refine cW (wpAny_entryPlaceOf λpl hp=>?_);refine cW ?_;unfold EntryCells.newEntry newFields;have WN:([X2,Value.ref L,Value.none,rawInt ↑L,Value.none]++if pl.isEmpty=true then List.replicate 6 Value.none else pl).length=11:=by rw[cY];rcases hp with rfl|⟨_,_,_,_,_,_,_,rfl⟩<;>rfl
 have hfl:([X2,Value.ref L,Value.none,rawInt ↑L,Value.none]++if pl.isEmpty=true then List.replicate 6 Value.none else pl)[3]?=some (rawInt ↑L):=rfl;generalize ([X2,Value.ref L,Value.none,rawInt ↑L,Value.none]++if pl.isEmpty=true then List.replicate 6 Value.none else pl)=fs at WN hfl ⊢;refine fX ?_ (by
  show fs.toArray.size<=_;rw[dw,WN];decide)
 have e1:Xp.get? e=some oe:=by rw[z2 e ne];exact ho
 have e2:(Xp.push {cls:=.type "traceback",data:=.fields fs.toArray}).get? e=some oe:=de _ e1;refine hZ e2 hd h1 ?_;have tn:s.heap.get? Xp.objs.size=none:=gJ (by rw[z1];exact dv _);have te:Xp.objs.size≠e:=λz=>by rw[z,ho]at tn;cases tn
 obtain⟨oc,od,ZL,XB⟩:=oe;obtain rfl:ZL=.fields vs:=hd;have up:∀b,e≠b->((Xp.push {cls:=.type "traceback",data:=.fields fs.toArray}).update e (Obj.mapFields λx=>x.setIfInBounds 1 (.ref Xp.objs.size))).get? b=(Xp.push {cls:=.type "traceback",data:=.fields fs.toArray}).get? b:=λb z=>gg _ _ z;refine k _ Xp.objs.size tn (λb o hb nf ne'=>?_) (λb o hb hf=>?_) ⟨_,fL _ e2 rfl,rfl,rfl,rfl⟩ ⟨_,fs.toArray,(up _ (dP te)).trans (dI _ rfl),rfl,by rw[dw,WN];decide,by rw[iM];exact hfl⟩
 .rw[up b (dP ne')];exact de _ (by rw[z2 b nf];exact hb)
 .obtain⟨sl,q⟩:=z3 b o hb;refine⟨sl,?_⟩;rw[up b (λz=>ne (z ▸ hf))];exact de _ q
def Q4{E₁:QQX}{tb:Option Addr}{F:Vl}{Xo:Env}(hcf:Xo.frame=some L)(YK:A.frames=some (env::outer))(hF:s.heap.FunFrames base (env::outer))(hL:env.frame=some L)(hx:Lh s.heap e cls dx tb F)(hFL:(F==rawInt ↑L)=false) (k:∀(h':Heap) (T:Addr),s.heap.get? T=none->(∀b o,s.heap.get? b=some o->b∉we (env::outer)->b≠e->tb≠some b->h'.get? b=some o)->(∀b o,s.heap.get? b=some o->b∈we (env::outer)->∃sl,h'.get? b=some {o with slots:=sl})->
   (∀b,h'.get? b=none->s.heap.get? b=none)->Lh h' e cls dx (some T) (rawInt ↑L)->Q () {s with heap:=h'}):wpAny M A (noteFrame (.ref e) Xo) Q E₁ s:=by
 obtain⟨oe,vs,ho,hc,Zi,hd,h1,hv,hT⟩:=hx;have ne:=Do hF ho hd;unfold noteFrame;rw[hcf];refine cW (fk ho hd hv ?_);have WM:∀(s1:Sd) (oe1:Obj),s1.gens=s.gens->s1.drawn=s.drawn->s1.toks=s.toks->s1.os=s.os->s1.heap.FunFrames base (env::outer)->s1.heap.get? e=some oe1->oe1.cls=cls->oe1.dict=dx->oe1.data=.fields vs->(∀b o,s.heap.get? b=some o->b∉we (env::outer)->b≠e->tb≠some b->s1.heap.get? b=some o)->
   (∀b o,s.heap.get? b=some o->b∈we (env::outer)->s1.heap.get? b=some o)->(∀b,s1.heap.get? b=none↔s.heap.get? b=none)->∀(X2:Vl) (Y1:Bool),wpAny M A (do
   let a<-PySem.frameOf Xo;let pl<-entryPlaceOf L Y1;let b<-EntryCells.newEntry X2 a Value.none (rawInt ↑L) Value.none pl
   setField (Value.ref e) 1 b) Q E₁ s1:=by
  intro s1 oe1 g1 g2 g3 g4 hF1 Zy hc1 hdx1 hd1 kb kf kn X2 Y1;refine Pe hcf YK hF1 hL Zy hd1 h1 λh' T tn k1 k2 ⟨oe',he',ZK,hdxe,hde⟩ ⟨oT,ts,XT,Yk,h3,h3v⟩=>?_;have te:T≠e:=λz=>by rw[z,Zy]at tn;cases tn
  have:=k h' T ((kn T).mp tn) (λb o hb nf nb nt=>k1 b o (kb b o hb nf nb nt) nf nb) (λb o hb hf=>k2 b o (kf b o hb hf) hf) (λb hb=>?_) ⟨oe',vs.setIfInBounds 1 (.ref T),he',ZK.trans hc1,hdxe.trans hdx1,hde,by rw[jK];exact h1,by rw[ig h1];rfl,λT' eT=>?_⟩
  .show Q () {heap:=_,gens:=s1.gens,drawn:=s1.drawn,toks:=s1.toks,os:=s1.os};rw[g1,g2,g3,g4];exact this
  .refine(kn b).mp ?_;cases q:s1.heap.get? b with
   | none=>rfl
   | some o=>
    by_cases z:b=e
    .rw[z,he']at hb;cases hb
    .by_cases zf:b∈we (env::outer)
     .obtain⟨sl,q2⟩:=k2 b o q zf;rw[q2]at hb;cases hb
     .rw[k1 b o q zf z]at hb;cases hb
  .cases eT;exact⟨te,oT,ts,XT,Yk,h3,h3v⟩
 cases tb with
 | none=>rw[cZ (show ¬((none:Option Addr).elim Value.none Value.ref != Value.none)=true by decide+kernel)];exact WM s oe rfl rfl rfl rfl hF ho hc Zi hd (λb o hb _ _ _=>hb) (λb o hb _=>hb) (λb=>.rfl) _ _
 | some T=>
  obtain⟨nTe,oT,ts,XT,Yk,h3,hn⟩:=hT T rfl;rw[df (show((some T:Option Addr).elim Value.none Value.ref != Value.none)=true by rfl)];refine cW (fk XT Yk hn ?_);rw[cZ (by rw[hFL];exact dB)];refine cW (hZ XT Yk h3 ?_);have up:∀b,T≠b->(s.heap.update T (Obj.mapFields λx=>x.setIfInBounds 3 .none)).get? b=s.heap.get? b:=λb z=>gg _ _ z;have nf:∀b o,s.heap.get? b=some o->(∀vs,o.data≠.fields vs)->T≠b:=λb o hb hn z=>by rw[<-z,XT]at hb;cases hb;exact hn ts Yk
  have sz:∀b,(s.heap.update T (Obj.mapFields λx=>x.setIfInBounds 3 .none)).get? b=none↔s.heap.get? b=none:=λb=>by
   by_cases z:T=b
   .rw[<-z];obtain⟨oc,od,ZL,XB⟩:=oT;obtain rfl:ZL=.fields ts:=Yk;rw[fL _ XT rfl,XT];exact⟨(λq=>by cases q),(λq=>by cases q)⟩
   .rw[up b z]
  exact WM {s with heap:=s.heap.update T (Obj.mapFields λx=>x.setIfInBounds 3 .none)} oe rfl rfl rfl rfl (mG (λb o hb hn=>⟨o,(up b (nf b o hb hn)).trans hb,rfl⟩) hF) ((up e nTe).trans ho) hc Zi hd
   (λb o hb _ _ nt=>(up b λz=>nt (by rw[z])).trans hb) (λb o hb hf=>by
    obtain⟨o',Xn,hn⟩:=Ct hF hf;rw[hb]at Xn;cases Xn;exact(up b (nf b o hb hn)).trans hb) sz _ _
def Lm{T:Addr}{F:Vl}(x:Option Addr)(hx:Lh s.heap e cls dx (some T) F)(k:∀h':Heap,(∀b,T≠b->h'.get? b=s.heap.get? b)->(∀b,h'.get? b=none↔s.heap.get? b=none)->Lh h' e cls dx (some T) (x.elim .none λf=>rawInt f)->Q () {s with heap:=h'}):wpAny M A (setFlight (.ref e) x) Q E s:=by
 obtain⟨oe,vs,ho,hc,Zi,hd,h1,hv,hT⟩:=hx;obtain⟨nTe,oT,ts,XT,Yk,h3,hn⟩:=hT T rfl;unfold setFlight;refine cW (fk ho hd hv ?_);rw[df (by rfl)];refine hZ XT Yk h3 ?_;obtain⟨oc,od,ZL,XB⟩:=oT;obtain rfl:ZL=.fields ts:=Yk;have up:∀b,T≠b->(s.heap.update T (Obj.mapFields λy=>y.setIfInBounds 3 (x.elim .none λf=>rawInt f))).get? b=s.heap.get? b:=λb z=>gg _ _ z;refine k _ up (λb=>?_) ⟨oe,vs,(up e nTe).trans ho,hc,Zi,hd,h1,hv,λT' eT=>?_⟩
 .by_cases z:T=b
  .rw[<-z,fL _ XT rfl,XT];exact⟨(λq=>by cases q),(λq=>by cases q)⟩
  .rw[up b z]
 .cases eT;exact⟨nTe,_,ts.setIfInBounds 3 (x.elim .none λf=>rawInt f),fL _ XT rfl,rfl,by rw[jK];exact h3,by rw[ig h3]⟩
def IH{E₁ E₂:QQX}{tb:Option Addr}(YK:A.frames=some (env::outer))(hF:s.heap.FunFrames base (env::outer))(hL:env.frame=some L)(hx:P6 s.heap e cls dx tb) (k:∀(h':Heap) (T:Addr),s.heap.get? T=none->(∀b o,s.heap.get? b=some o->b∉we (env::outer)->b≠e->tb≠some b->h'.get? b=some o)->(∀b o,s.heap.get? b=some o->b∈we (env::outer)->∃sl,h'.get? b=some {o with slots:=sl})->
   P6 h' e cls dx (some T)->Q () {s with heap:=h'}):wpAny M A (noteFrame (.ref e) env) (λ_ s₂=>wpAny M A (setFlight (.ref e) none) Q E₂ s₂) E₁ s:=by
 refine Q4 hL YK hF hL hx (dH.mpr λz=>by have:=fj.mp z;cases this) λh' T tn k1 k2 _ x'=>?_;refine Lm none x' λh2 up _ x2=>k h2 T tn (λb o hb nf nb nt=>?_) (λb o hb hf=>?_) x2
 .have tb:T≠b:=λz=>by rw[z,hb]at tn;cases tn
  exact(up b tb).trans (k1 b o hb nf nb nt)
 .have tb:T≠b:=λz=>by rw[z,hb]at tn;cases tn
  obtain⟨sl,q⟩:=k2 b o hb hf;exact⟨sl,(up b tb).trans q⟩
def Oj{tb:Option Addr}(YK:A.frames=some (env::outer))(hF:s.heap.FunFrames base (env::outer))(hL:env.frame=some L)(hx:P6 s.heap e cls dx tb) (k:∀(h':Heap) (T:Addr),s.heap.get? T=none->(∀b o,s.heap.get? b=some o->b∉we (env::outer)->b≠e->tb≠some b->h'.get? b=some o)->(∀b o,s.heap.get? b=some o->b∈we (env::outer)->∃sl,h'.get? b=some {o with slots:=sl})->
   P6 h' e cls dx (some T)->Q () {s with heap:=h'}):wpAny M A (leaving env (.ref e)) Q E s:=cW (IH YK hF hL hx k)
end
def Cr(P:Pg)(w:Wo):KG:=λouter H s E ev s'=>G7 λe C dx H' tb=>ev=.ref e/\E (.ref C) dx H'/\s'.os=s.os/\AllBare s'.gens/\Un (we outer) [] H H' s.heap s'.heap/\yl P w H' s'.heap/\
 P6 s'.heap e (.ref C) dx (some tb)/\s.heap.get? e=none/\s.heap.get? tb=none/\H' e=none/\H' tb=none
def yj{P:Pg}{w:Wo}{H:Hp}{h:Heap}{a:Addr}{o:HO}(x:sd P w H h a o):∃ob,h.get? a=some ob:=by
 cases o with
 | lst xs=>obtain⟨_,_,_,_,e⟩:=x;exact⟨_,e⟩
 | tup xs=>obtain⟨_,_,_,o,e,_⟩:=x;exact⟨_,e⟩
 | dK kvs=>obtain⟨_,_,_,_,o,_,_,e,_⟩:=x;exact⟨_,e⟩
 | dT kvs=>obtain⟨_,_,_,_,o,_,_,e,_⟩:=x;exact⟨_,e⟩
 | set S n=>obtain⟨o,_,_,_,e,_⟩:=x;exact⟨_,e⟩
 | ins C dx fs=>obtain⟨_,_,_,e,_⟩:=x;exact⟨_,e⟩
 | own y=>exact x
 | xd fs=>obtain⟨_,⟨_,_,_,e,_⟩,_⟩:=x;exact⟨_,e⟩
 | rng lo hi=>obtain⟨_,_,_,e⟩:=x;exact⟨_,e⟩
 | frz ob u=>obtain⟨e,_⟩:=x;exact⟨_,e⟩
 | tbl ps=>exact⟨_,x⟩
 | met f y=>exact⟨_,x⟩
 | ext φ=>obtain⟨_,e,_⟩:=x;exact e
def zx{P:Pg}{w:Wo}{H:Hp}{h:Heap}{T:Addr}(mV:yl P w H h)(tn:h.get? T=none):H T=none:=by
 cases z:H T with
 | none=>rfl
 | some o=>obtain⟨ob,hob⟩:=yj (mV T o z);rw[hob]at tn;cases tn
variable {P:Pg}{w:Wo}{K:qu}{mg:QQZ}{N:QQQ}{qual:Str}{scope:Scope}{f:Addr}{cd:Vl}{s0:Sd}{H0:Hp}
section
variable {E:XK}
def Gc{fs ex:QXQ}{H H':Hp}{h h':Heap}(u:Un fs ex H H' h h')(hex:ex=[]){b:Addr}(hb:h'.get? b=none):h.get? b=none:=by
 cases q:h.get? b with
 | none=>rfl
 | some o=>obtain⟨o',e⟩:=u.there b o q (by rw[hex];simp);rw[e]at hb;cases hb
def LC{WH:QQY}{σ:St}{H:Hp}{s:Sd}{e C T:Addr}{tb dx:Option Addr}{h':Heap}(I:Inv (vp (Cr P w) P w K mg base N qual scope f cd A outer s0 H0 E) WH σ H s)(he:s0.heap.get? e=none)(Xe:∀T,tb=some T->s0.heap.get? T=none/\H T=none)(hn:H e=none)(q:E (.ref C) dx H)(hT:s0.heap.get? T=none/\H T=none) (k1:∀b o,s.heap.get? b=some o->b∉we (envOfC qual scope s0.heap.objs.size f cd::outer)->b≠e->tb≠some b->h'.get? b=some o) (k2:∀b o,s.heap.get? b=some o->b∈we (envOfC qual scope s0.heap.objs.size f cd::outer)->∃sl,h'.get? b=some {o with slots:=sl}) (x':P6 h' e (.ref C) dx (some T)):
  Cr P w outer H0 s0 E (.ref e) {s with heap:=h'}:=by
 have Xr:=I.nK;have WW:∀b o,H b=some o->∀u,s.heap.get? b=some u->h'.get? b=some u:=λb o hb u hu=>k1 b u hu (λz=>by rw[Xr b z]at hb;cases hb) (λz=>by rw[z,hn]at hb;cases hb) (λz=>by rw[(Xe b z).2]at hb;cases hb);have oldf:∀b o,s0.heap.get? b=some o->b∉we [envOfC qual scope s0.heap.objs.size f cd]:=λb o hb z=>by
  have:b=s0.heap.objs.size:=by have hz:b∈[s0.heap.objs.size]:=z;exact dz.mp hz
  rw[this]at hb;exact absurd (dA hb) (fi _)
 have fr:∀b,b∈we (envOfC qual scope s0.heap.objs.size f cd::outer)->b∈we [envOfC qual scope s0.heap.objs.size f cd]\/b∈we outer:=λb hb=>by
  have hb:b∈s0.heap.objs.size::we outer:=hb;rcases dg.mp hb with z|z
  .exact .inl (by rw[z];exact dG)
  .exact .inr z
 have Xb:Un (we outer) [] H0 H s0.heap s.heap:=I.base;refine⟨e,C,dx,H,T,rfl,q,I.os,I.bare,⟨λb o hb h0 nf ne=>?_,λb o hb h0 hf ne=>?_,Xb.free,λb o hb ne=>?_,Xb.nJ,Xb.nG,Xb.nL⟩,λb o hb=>?_,x',he,hT.1,hn,hT.2⟩
 .have hs:=Xb.keep b o hb h0 nf ne;refine k1 b o hs (λz=>?_) (λz=>by rw[z,he]at hb;cases hb) λz=>by rw[(Xe b z).1]at hb;cases hb
  rcases fr b z with z|z
  .exact oldf b o hb z
  .exact nf z
 .obtain⟨sl,hs⟩:=Xb.slot b o hb h0 hf ne;have:b∈we (envOfC qual scope s0.heap.objs.size f cd::outer):=dE _ hf;obtain⟨Ya,h2⟩:=k2 b _ hs this;exact⟨Ya,h2⟩
 .obtain⟨o',hs⟩:=Xb.there b o hb ne;by_cases z:b∈we (envOfC qual scope s0.heap.objs.size f cd::outer)
  .obtain⟨sl,h2⟩:=k2 b o' hs z;exact⟨_,h2⟩
  .exact⟨o',k1 b o' hs z (λz=>by rw[z,he]at hb;cases hb) λz=>by rw[(Xe b z).1]at hb;cases hb⟩
 .refine(I.mV b o hb).nz (λb' u Xz hu=>?_) (λ_ q=>q) λ_ _ q=>q;rcases Xz with z|z
  .subst z;exact WW b' o hb u hu
  .exact WW b' _ z u hu
def Uv{WH:QQY}{σ:St}{H:Hp}{s:Sd}{e C:Addr}{tb dx:Option Addr}(I:Inv (vp (Cr P w) P w K mg base N qual scope f cd A outer s0 H0 E) WH σ H s)(hx:P6 s.heap e (.ref C) dx tb)(he:s0.heap.get? e=none)(hT:∀T,tb=some T->s0.heap.get? T=none/\H T=none)(hn:H e=none)(q:E (.ref C) dx H):
  (vp (Cr P w) P w K mg base N qual scope f cd A outer s0 H0 E).xe (.ref e) s:=
 Oj (base:=base) (outer:=outer) I.ok.frames I.stack rfl hx λh' T tn k1 k2 x'=>LC I he hT hn q ⟨Gc (show Un (we outer) [] H0 H s0.heap s.heap from I.base) rfl tn,zx I.mV tn⟩ k1 k2 x'
end
section
variable {E:XK}
end
def OM(d:Addr)(f:Str)(v:V)(h:Heap):Prop:=∃u,h.Ns1 d (λy=>if y=f then some u else none)/\qJ v u
end L2
namespace L3
open L2
abbrev XR:=Addr->Option (Str×D)->Mp->Prop
abbrev FR:=List D->Mp->DK->XR->Prop
def S9(K:qu)(H:Hp)(dx:Option Addr)(y:Option (Str×D)):Prop:=(dx=none/\y=none)\/Ba λd f z v=>dx=some d/\y=some (f,z)/\H d=some (.ext (OM d f v))/\rN K H z v
def T5(K:qu)(R:XR)(E:XK):Prop:=∀C dx H M y,HM K H M->S9 K H dx y->R C y M->E (.ref C) dx H
def VE(K:qu)(sp:FR):Sp:=λvs H Q' E=>Ba λds M Q R=>qk K H ds vs/\HM K H M/\sp ds M Q R/\Up K H Q' Q/\T5 K R E
abbrev Rz(P:Pg)(w:Wo)(K:qu)(mg:QQZ)(base:Heap)(k:Nat)(f:Addr)(fd:FuncData)(ps:QQQ)(sp:FR):Prop:=xw P w K mg base (Cr P w) k f fd ps (VE K sp)
variable {X:Cx}{x:Str}{p pos np WO:Pos}{e:Expr}{es:List Expr}{t:xC}{k:Nat}{f C:Addr}{fd:FuncData}{ps:QQQ}{sp:FR}{R:XR}{E:XK}{P:Pg}{w:Wo}{K:qu}{mg:QQZ}{base:Heap}{N:QQQ}{qual:Str}{scope:Scope}{cd:Vl}{A:Ar}{outer:List Env}{s0:Sd}{H0:Hp}{ta:xC}
def Tc{x qual:Str}{st:Stmt}{f:Addr}{fd:FuncData}{N ps:QQQ}{k:Nat}{sp:FR}(F:PB K x qual st f fd)(S:s8 N ps (qd st))(len:∀ds M Q R,sp ds M Q R->ds.length=ps.length) (W2:∀(WQ:Vl) (A:Ar) (outer:List Env) (s:Sd) (H:Hp) (E:XK) (R:XR),r6 k (A.deeper (envOfC qual (qd st) s.heap.objs.size f WQ))->T5 K R E->
   ∃t,G6 (vp (Cr P w) P w K mg base N qual (qd st) f WQ A outer s H E) (rQ st) t/\∀ds M Q,sp ds M Q R->t {nx:=λ_ M'=>∃WL,qr WL M'/\Q .mS WL,rt:=λd M'=>∃WL,qr WL M'/\Q d WL} (xc N ds) M):Rz P w K mg base (k+1) f fd ps sp:=by
 obtain⟨oc,od,kV,Xl,pm,an,WQ,ct,XB,rfl,lk,XW⟩:=F.ex;refine K1 lk XW S (λvs H Q E h=>?_) λA outer s H vs Q' E hr h=>?_
 .obtain⟨ds,M,Q,R,hd,_,hs,_⟩:=h;rw[<-hd.length];exact len ds M Q R hs
 .obtain⟨ds,M,Q,R,hd,hm,hs,k,hR⟩:=h;obtain⟨t,ht,hb⟩:=W2 WQ A outer s H E R hr hR;exact⟨_,ht,xc N ds,M,_,DL hd,hm,hb ds M Q hs,λσ' H' δ' M' _ x2 x3 _ ⟨WL,y1,y2⟩=>k .mS H' .mS WL .mS (x2.sub y1) x3 y2,λv H' d M' x1 x2 x3 ⟨WL,y1,y2⟩=>k v H' d WL x1 (x2.sub y1) x3 y2,λ_ _ _ _ _ _ _ _ z=>z,λ_ _ _ _ _ _ _ _ z=>z⟩
end L3
namespace L2
def TKept(H H':Hp):Prop:=(∀b xs,H b=some (.tup xs)->H' b=some (.tup xs))/\∀b o u,H b=some (.frz o u)->H' b=some (.frz o u)
def VJ(X:Cx)(WH:QQY)(σ:St)(J:Hp->Prop)(E:XK)(ev:Vl)(s':Sd):Prop:=BO λH s=>J H/\Inv X WH σ H s/\Cr X.prog X.w X.stack H s E ev s'
def UB(X:Cx)(WH:QQY)(σ:St)(J:Hp->Prop)(E:XK)(ev:Vl)(s':Sd):Prop:=SV λa C dx H' tb H1 s1=>ev=.ref a/\E (.ref C) dx H'/\Inv X WH σ H' s'/\P6 s'.heap a (.ref C) dx (some tb)/\H' a=none/\H' tb=none/\J H1/\TKept H1 H'/\Inv X WH σ H1 s1/\s1.heap.get? a=none
def QU{X:Cx}{M:Model}{E₁ E₂:QQX}{WH:QQY}{σ:St}{J:Hp->Prop}{E:XK}{ev:Vl}{s':Sd}{outer:List Env}{L:Addr}(h:VJ X WH σ J E ev s')(W6:X.stack=X.env::outer)(hL:X.env.frame=some L):
  wpAny M X.A (noteFrame ev X.env) (λ_ s₂=>wpAny M X.A (setFlight ev none) (λ_ s₃=>UB X WH σ J E ev s₃) E₂ s₂) E₁ s':=by
 obtain⟨H,s,jH,I,e,C,dx,H',tb,rfl,q,os,bare,un,mV,x,he,ht,ne,nt⟩:=h;obtain⟨hh,g,d,t,Zs⟩:=s';obtain rfl:Zs=s.os:=os;have I':=I.call (h':=hh) (g':=g) (d':=d) (t':=t) (ch:=[]) un mV bare (λb z=>absurd z (by simp));have hF:=I'.stack;have Xr:=I'.nK;have YK:=I.ok.frames;rw[W6]at hF YK;refine IH (base:=X.base) (outer:=outer) YK hF hL x λh' T tn k1 k2 x'=>?_;have WW:∀b o,H' b=some o->∀u,hh.get? b=some u->h'.get? b=some u:=λb o hb u hu=>k1 b u hu (λz=>by rw[Xr b (by rw[W6];exact z)]at hb;cases hb) (λz=>by rw[z,ne]at hb;cases hb) (λz=>by cases z;rw[nt]at hb;cases hb);have un':Un (we X.stack) [] H H' s.heap h':=by
  refine⟨λb o hb h0 nf nx=>?_,λb o hb h0 hf nx=>?_,un.free,λb o hb nx=>?_,un.nJ,un.nG,un.nL⟩
  .exact k1 b o (un.keep b o hb h0 nf nx) (λz=>nf (by rw[W6];exact z)) (λz=>by rw[z,he]at hb;cases hb) λz=>by cases z;rw[ht]at hb;cases hb
  .obtain⟨sl,hs⟩:=un.slot b o hb h0 hf nx;obtain⟨Ya,h2⟩:=k2 b _ hs (by rw[<-W6];exact hf);exact⟨Ya,h2⟩
  .obtain⟨o',hs⟩:=un.there b o hb nx;by_cases z:b∈we (X.env::outer)
   .obtain⟨sl,h2⟩:=k2 b o' hs z;exact⟨_,h2⟩
   .exact⟨o',k1 b o' hs z (λz=>by rw[z,he]at hb;cases hb) λz=>by cases z;rw[ht]at hb;cases hb⟩
 have Zx:yl X.prog X.w H' h':=λb o hb=>(mV b o hb).nz (λb' u Xz hu=>by
  rcases Xz with z|z
  .subst z;exact WW b' o hb u hu
  .exact WW b' _ z u hu) (λ_ q=>q) λ_ _ q=>q
 have I3:Inv X WH σ H' {heap:=h',gens:=g,drawn:=d,toks:=t,os:=s.os}:=Inv.call (s:=s) (ch:=[]) I un' Zx bare (λb z=>absurd z (by simp));refine⟨e,C,dx,H',T,H,s,rfl,q,I3,x',ne,?_,jH,⟨un.nJ,un.nG⟩,I,he⟩;cases z:H' T with
 | none=>rfl
 | some o=>obtain⟨ob,hob⟩:=yj (mV T o z);have tn:hh.get? T=none:=tn;rw[hob]at tn;cases tn
variable {X:Cx}{WH:List (Addr × Obj)}{σ σ':St}{H H1:Hp}{s s1:Sd}{ev:Vl}{E':QQX}{a:Addr}
def Inv.adopt{o:HO}(I:Inv X WH σ H s)(I1:Inv X WH σ' H1 s1)(n1:s1.heap.get? a=none)(hn:H a=none)(ok:sd X.prog X.w (upd H a o) s.heap a o):Inv X WH σ (upd H a o) s:=by
 have ne:∀b ob,s1.heap.get? b=some ob->b≠a:=λb ob e z=>by rw[z,n1]at e;cases e
 have nh:∀b ob,H b=some ob->b≠a:=λb ob e z=>by rw[z,hn]at e;cases e
 refine⟨I.ok,I.os,I.bare,⟨I.base.keep,I.base.slot,λb o' e h0 hb=>?_,I.base.there,λb xs e=>?_,λb o' u e=>?_,λb ps e=>?_⟩,I.loc,I.cell,?_,λx c e=>?_,λp hp=>?_,λb ob e=>?_,I.len⟩
 .obtain⟨o2,e2⟩:=I1.base.there b o' e hb;rw[pW (ne b o2 e2)];exact I.base.free b o' e h0 hb
 .have:=I.base.nJ b xs e;rw[pW (nh b _ this)];exact this
 .have:=I.base.nG b o' u e;rw[pW (nh b _ this)];exact this
 .obtain⟨more,this⟩:=I.base.nL b ps e;exact⟨more,by rw[pW (nh b _ this)];exact this⟩
 .obtain⟨m,⟨o2,_,_,e2,_⟩,_⟩:=I1.loc;rw[pW (ne _ o2 e2)];exact I.free
 .obtain⟨v,o2,e2,_⟩:=I1.cell x c e;rw[pW (ne _ o2 e2)];exact I.m9 x c e
 .obtain⟨e1,e2,e3,e4,e5⟩:=I.pin p hp;exact⟨e1,by rw[pW (ne _ _ (I1.pin p hp).1)];exact e2,e3,e4,e5⟩
 .by_cases z:b=a
  .subst z;rw[qh]at e;cases e;exact ok
  .rw[pW z]at e;exact(I.mV b ob e).nz (λ_ _ _ q=>q) (λb' q=>by rw[pW (nh b' _ q)];exact q) λb' xs q=>by rw[pW (nh b' _ q)];exact q
def Cx.marked(X:Cx)(ev:Vl)(E:QQX):Cx:={X with A:=X.A.mark (some ev),calm:=false,xe:=E}
def Inv.mark(I:Inv X WH σ H s):Inv (X.marked ev E') WH σ H s:=
 ⟨⟨I.ok.mod,I.ok.kind,I.ok.glob,I.ok.blt,I.ok.above,I.ok.inj,I.ok.has,I.ok.oG,(λz=>by cases z),I.ok.frames,I.ok.oK,I.ok.oY,I.ok.bs,I.ok.oa,I.ok.nS,I.ok.nX,I.ok.nF,I.ok.oo⟩,I.os,I.bare,I.base,I.loc,I.cell,I.free,I.m9,I.pin,I.mV,I.len⟩
def Inv.unmark(ok:X.Ok)(I:Inv (X.marked ev E') WH σ H s):Inv X WH σ H s:=⟨ok,I.os,I.bare,I.base,I.loc,I.cell,I.free,I.m9,I.pin,I.mV,I.len⟩
def SP.unmark(ok:X.Ok){D:Ek}{f:Flow}(h:SP (X.marked ev E') WH D f s):SP X WH D f s:=by
 cases f with
 | next=>obtain⟨a,b,I,q⟩:=h;exact⟨a,b,I.unmark ok,q⟩
 | brk=>obtain⟨a,b,I,q⟩:=h;exact⟨a,b,I.unmark ok,q⟩
 | cont=>obtain⟨a,b,I,q⟩:=h;exact⟨a,b,I.unmark ok,q⟩
 | ret v=>obtain⟨a,b,c,I,q⟩:=h;exact⟨a,b,c,I.unmark ok,q⟩
def HS{M:Model}{h:Heap}{a:Addr}{o:Obj}(ho:h.get? a=some o):W.Looks M h (typeOf (.ref a)) o.cls:=by intro A Q E s k q;unfold typeOf;exact cW (wpAny_load (k a o ho) (dq q))
def F6{M:Model}{A:Ar}{E:QQX}{a C T:Addr}{Q:Unit->Sd->Prop}{dx:Option Addr}(x:P6 s.heap a (.ref C) dx (some T))(h:∀h':Heap,(∀b,h'.get? b=s.heap.get? b)->Q () {s with heap:=h'}):wpAny M A (setFlight (.ref a) none) Q E s:=by
 obtain⟨oe,vs,ho,hc,_,hd,h1,hv,hT⟩:=x;obtain⟨nTe,oT,ts,XT,Yk,h3,hn⟩:=hT T rfl;unfold setFlight;refine cW (fk ho hd hv ?_);rw[df (by rfl)];refine hZ XT Yk h3 (h _ λb=>?_);by_cases z:T=b
 .subst z;obtain⟨oc,od,ZL,XB⟩:=oT;obtain rfl:ZL=.fields ts:=Yk;rw[fL _ XT rfl,XT];show some (Obj.mk oc od (.fields (ts.setIfInBounds 3 .none)) XB)=_;have:ts.setIfInBounds 3 .none=ts:=by
   apply Array.ext
   .simp
   .intro i h1 h2;rw[Array.getElem_setIfInBounds];split
    .rename_i e;subst e;rw[Array.getElem?_eq_getElem h3]at hn;exact(dh hn).symm
    .rfl
  rw[this]
 .exact gg _ _ z
def SJ(X:Cx)(e:Expr)(t:St->Hp->VK->(Hp->Prop)->XK->Prop):Prop:=∀(WH:QQY) (s:Sd) (σ:St) (H:Hp) (Q:VK) (J:Hp->Prop) (E:XK),Inv X WH σ H s->t σ H Q J E->wpAny (model X.prog X.w) X.A (eval e X.env) (EP X WH σ Q) (VJ X WH σ J E) s
def Wb(X:Cx)(st:Stmt)(t:Ek->St->Hp->(Hp->Prop)->XK->Prop):Prop:=∀(WH:QQY) (s:Sd) (σ:St) (H:Hp) (D:Ek) (J:Hp->Prop) (E:XK),Inv X WH σ H s->t D σ H J E->wpAny (model X.prog X.w) X.A (exec st X.env) (SP X WH D) (VJ X WH σ J E) s
variable {k:Nat}{f C:Addr}{fd:FuncData}{ps:QQQ}{sp:Sp}{Xt:List V}{ds:List Vl}{m:Str}{p pos WK:Pos}{e o:Expr}{es:List Expr}{t:TA}
section
variable {x:Str}
def Mm(F:xw X.prog X.w X.K X.mg X.base (Cr X.prog X.w) k f fd ps sp)(hr:r6 k X.A)(hg:Gl X x)(hm:X.mg x=some (.ref f))(hk:W.keepIn X.K (.ref f)=true)(hb:uS X.K fd ps ds)(hd:qE Xt ds) (ha:PA (X.nZ λ_ _=>False) (e::es) t) (W0:yU x:=by decide) (he:Bb X e es:=by rfl) (WX:CH X pos es:=by rfl):
  SJ X (.Call (.Name x p) (e::es) [] pos) (λσ H Q J E=>t σ H λvs H1=>J H1/\sp (vs++Xt) H1 Q E):=by
 intro WH s σ H Q J E I h;refine fU (wV I hg hm ?_ W0);refine iO (h₀:=X.base) I.ok.mod.oC hk (eA (ha pos WH s σ H _ I.nZ h) (λus s1 ⟨vs,H1,I1,r,jH,q⟩=>⟨I1.nk,?_⟩) λ_ _ z=>z.elim) he WX;have I1:=I1.xeOf;have r2:qE (vs++Xt) (us++ds):=r.append hd;have hl:(us++ds).length=ps.length:=by rw[<-r2.length];exact F.len _ _ _ _ q
 refine iD (gm (F.run X.A X.stack s1 H1 ⟨us,[]⟩ (us++ds) (vs++Xt) Q E hr I1.oi (hb s1 us I1.nk hl) r2 q) λr s' hq=>?_);cases r with
 | error e=>exact⟨H1,s1,jH,I1,hq⟩
 | ok fl=>
  cases fl with
  | ret u=>exact I1.after hq
  | next=>exact False.elim hq
  | brk=>exact False.elim hq
  | cont=>exact False.elim hq
end
def PR{X:Cx}{st b₀:Stmt}{Xv:List Stmt}{cn:Str}{cnp YA pos:Pos}{Cc L:Addr}{outer:List Env}{t:Ek->St->Hp->(Hp->Prop)->XK->Prop}{th:TS}(hb:Wb X st t)(W6:X.stack=X.env::outer)(hL:X.env.frame=some L)(hg:Gl X cn)(hm:X.mg cn=some (.ref Cc))(hs:∀ev E',B6 (X.marked ev E') (b₀::Xv) th) (W0:yU cn:=by decide):
  PS X (.Try [st] [.ExceptHandler (some (.Name cn cnp)) none (b₀::Xv) YA] [] [] pos) (λD σ H=>∃(J:Hp->Prop) (E:XK),t D σ H J E/\∀C dx H1 H',J H1->TKept H1 H'->E (.ref C) dx H'->W.exmOne X.K (.ref C) (.ref Cc)=some true/\th D σ H'):=by
 intro WH s σ H D I ⟨J,E,h,hh⟩;refine wpAny_Try_except (eA (Q:=λf s'=>SP X WH D f s') (jA (sH (hb WH s σ H D J E I h) λf s1 q=>?_)) (λf s1 q=>?_) λev s1 x=>?_)
 .cases f with
  | next=>exact gS q
  | brk=>exact q
  | cont=>exact q
  | ret v=>exact q
 .cases f with
  | next=>exact gS q
  | brk=>exact q
  | cont=>exact q
  | ret v=>exact q
 .refine eA (QU x W6 hL) (λ_ s2 y=>sH y λ_ s3 z=>?_) λ_ _ z=>z;obtain⟨a,C,dx,H',tb,H1,s1,rfl,q,I3,x3,na,nt,jH,tk,I1,n1⟩:=z;obtain⟨WJ,h1⟩:=hh C dx H1 H' jH tk q;refine wpAny_handleBy_cons (codeAny_handlers_test (wV (X:=X.marked (.ref a) λ_ _=>False) I3.mark hg hm ?_ W0)) (by intro z;cases z);obtain⟨oe,vs,ho,hc,_⟩:=id x3;refine W.exm_one I3.nk (HS ho) (by rw[hc];exact WJ) _ _ _ _ (λ_ _ z=>z) ?_;refine codeAny_handlers_suite (F6 x3 λh' hh'=>?_);have I4:Inv X WH σ H' {s3 with heap:=h'}:=I3.kept (t':=s3.toks) λb u z=>by rw[hh' b];exact z
  refine eA (hs (.ref a) _ WH _ σ H' D I4.mark h1) (λf s5 q5=>SP.unmark I.ok q5) λ_ _ z=>z
structure Wc(K:qu)(C:Addr):Prop where
 hd:(W.clsIn K C).isSome=true
 ga:W.findIn K (.ref C) "__getattribute__"=some (some (.builtin "BaseException.__getattribute__"))
 gt:W.findIn K (.ref C) "__getattr__"=some none
 ha:W.findIn K (.ref C) "__class__"=some (some (.builtin "object.__class__"))
 hn:W.specialIn K (.builtin "object.__class__") "__get__"=some (some (.builtin "getset_descriptor.__get__"))
 htk:W.takesIn K (.builtin "object.__class__")=some true
 hm:W.mroIn K C (.type "object")=some true
 hb:W.mroIn K C (.type "BaseException")=some true
variable {prog:Pg}{w:Wo}{A:Ar}{E:QQX}{K:qu}{ox:Obj}
section
variable {x:Addr}
end
end L2
namespace L3
open L2
theorem _root_.L2.TKept.ext{K:qu}{H H':Hp}(h:TKept H H'):qQ K H H':=⟨λa xs q=>by
 rcases q with(q|⟨u,q⟩)|q
 .exact .inl (.inl (h.1 a xs q))
 .exact .inl (.inr ⟨u,h.2 a u _ q⟩)
 .exact .inr q,λa o xs q=>h.2 a o _ q⟩
abbrev Uu:=vo->Mp->DK->XR->Prop
def Wp(K:qu)(t:Uu):St->Hp->VK->(Hp->Prop)->XK->Prop:=λσ H Q' J E=>Ba λδ M Q R=>zL K H σ δ/\HM K H M/\t δ M Q R/\(∀v H' d M',rN K H' d v->HM K H' M'->qQ K H H'->Q d M'->Q' v H')/\(∀H1,qQ K H H1->J H1)/\T5 K R E
def V9(X:Cx)(e:Expr)(t:Uu):Prop:=SJ X e (Wp X.K t)
def SJ.mono{X:Cx}{e:Expr}{t t':St->Hp->VK->(Hp->Prop)->XK->Prop}(h:SJ X e t)(m:∀σ H Q J E,t' σ H Q J E->t σ H Q J E):SJ X e t':=λWH s σ H Q J E I q=>h WH s σ H Q J E I (m σ H Q J E q)
variable {X:Cx}{x:Str}{p pos np WO:Pos}{e:Expr}{es:List Expr}{t:xC}{k:Nat}{f C:Addr}{fd:FuncData}{ps:QQQ}{sp:FR}
def Ma(F:Rz X.prog X.w X.K X.mg X.base k f fd ps sp)(hr:r6 k X.A)(hg:Gl X x)(hm:X.mg x=some (.ref f))(hk:W.keepIn X.K (.ref f)=true)(hb:uS X.K fd ps [])(ha:A3 (X.nZ λ_ _=>False) (e::es) t) (W0:yU x:=by decide) (he:Bb X e es:=by rfl) (WX:CH X pos es:=by rfl):
  V9 X (.Call (.Name x p) (e::es) [] pos) (λδ M Q R=>t δ M λds M1=>sp ds M1 Q R):=SJ.mono (Mm F hr hg hm hk hb .nil ha W0 he WX) λσ H Q' J E ⟨δ,M,Q,R,hs,hm,ht,k,kJ,kR⟩=>
 ⟨δ,M,_,hs,hm,ht,λvs H1 ds M1 hd WJ e1 q1=>⟨kJ H1 e1,ds,M1,Q,R,by rw[eZ];exact hd,WJ,q1,vK e1 k,kR⟩⟩
variable {b₀:Stmt}{Xv:List Stmt}{cn n:Str}{cnp YA WK xpos:Pos}{Cc L:Addr}{outer:List Env}{i ix:Nat}{te:Uu}{th:xA}
end L3
namespace L2
def BE(es:Array DictEntry):Bool:=es.toList.all λe=>match e.key with|.str _ _=>true|_=>false
def Bs{es:Array DictEntry}(h:BE es=true):StrKeys es:=λe he=>by
 have:=eK.mp h e (km.mpr he);cases z:e.key with
 | str n t=>exact⟨n,t,rfl⟩
 | _=>rw[z]at this;cases this
abbrev L1:List Vl:=[.type "ValueError",.type "Exception",.type "BaseException",.type "object"]
def NZ{K:qu}{t:Vl}{C:Addr}{cd:ClassData}{b:Bool}(q0:W.subIn K (.ref C) (.type "BaseException")=some true)(q1:W.clsIn K C=some cd)(q2:W.typeIn K (.ref C)=some (.type "type"))(s:W.subIn K t (.ref C)=some b):W.exmOne K t (.ref C)=some b:=by unfold W.exmOne;rw[q0,df (by rfl)];unfold W.kitCls;simp only;rw[q1,q2,df (by rfl)];exact s
end L2
namespace L3
open L2
end L3
namespace L2
theorem B2(self:Vl):∀own:QXQ,refuseLoop self "__setattr__" (own.map Value.ref++L1)=pure ()
 | []=>jL.passes self
 | c::r=>by show refuseLoop self "__setattr__" (.ref c::(r.map Value.ref++L1))=pure ();rw[refuseLoop_ref];exact B2 self r
variable {prog:Pg}{w:Wo}{A:Ar}{s:Sd}{K:qu}{x C:Addr}{ox:Obj}{own:QXQ}{name:Str}{v:Vl}
section
variable {E:QQX}{cd:ClassData}
def NU{Q:Unit->Sd->Prop}(X:K.In s.heap)(I:W.InstAt s.heap x ox C none)(hs:W.findIn K (.ref C) "__setattr__"=some (some (.builtin "object.__setattr__")))(hc:W.clsIn K C=some cd)(hm:cd.mro=own.map Value.ref++L1)(ht:W.takerIn K C name=some none)(hd:cd.hasDict=true) (h:∀h' d t,(∀b o,b≠x->s.heap.get? b=some o->h'.get? b=some o)->h'.get? x=some {ox with dict:=some d}->s.heap.get? d=none->d≠x->h'.Ns1 d (λy=>if y=name then some v else none)->Q () {s with heap:=h',toks:=t}):wpAny (model prog w) A (setAttr (.ref x) name v) Q E s:=by
 refine W.set_plain X I hs ?_;have SF:=jL;have ne:cd.mro.isEmpty=false:=by rw[hm];cases own<;>rfl
 have has:cd.mro.contains (.type "object")=true:=by
  rw[hm,List.contains_eq_any_beq,jX];have:L1.any (Value.type "object"==·)=true:=by decide+kernel
  rw[this,kZ]
 have sub:W.Looks (model prog w) s.heap (isInstance (.ref x) (.type "object")) true:=I.type.andThen (W.looks_mroIn X (by unfold W.mroIn;rw[hc,lX,cZ (by rw[ne];decide),has]));refine iQ SF.slot.plain SF.entry (@PySem.W.check_slot (model prog w) _ _ {s with toks:=s.toks+1} "object.__setattr__" "object" "__setattr__" (.ref x) [.str name s.toks,v] [] _ SF.kind SF.split sub (SF.args (.ref x) (.str name s.toks) v) ?_);obtain⟨attr,ha,hr⟩:=Option.bind_eq_some_iff.mp ht;have ZC:W.Looks (model prog w) s.heap (mroOf (.ref C)) cd.mro:=(kA X hc).andThen .now;have L3':W.Looks (model prog w) s.heap (Builtin.ObjectAttr.storeTaker? attr) none:=by
  cases attr with
  | none=>exact .now
  | some a=>
   obtain⟨b,hb,hr⟩:=j6.mp hr;refine(W.looks_takesIn X hb).andThen ?_;cases b
   .exact .now
   .cases hr
 rw[W.osa_eq,refuse_eq];refine cW (cW (I.type.here (s:={s with toks:=s.toks+1}) (cW (ZC.here (s:={s with toks:=s.toks+1}) ?_))));rw[hm,B2];refine dq (cW (I.type.here (s:={s with toks:=s.toks+1}) (cW ((mi X ha).here (s:={s with toks:=s.toks+1}) (cW (L3'.here (s:={s with toks:=s.toks+1}) ?_))))));obtain⟨hx,Zg,hn,Zi⟩:=I;obtain⟨oc,odi,oda,XB⟩:=ox;dsimp only at Zg Zi;subst Zg;cases odi with
 | some _=>exact Zi.elim
 | none=>
  refine cW (dq (cW (cW (wpAny_loadPart hx (cW (mw (s:={s with toks:=s.toks+1}) (kA X hc) ?_))))));rw[hd];rw[cZ (by decide)];obtain⟨hh,g,dr,tk,os⟩:=s;dsimp only at hx h ⊢;rw[cZ (by simp[typeHasDict])];split
  .cases hn
  .have y1:(hh.push W.emptyDict).get? x=some ⟨.ref C,none,oda,XB⟩:=de _ hx;have nx:x≠hh.objs.size:=λz=>fi _ (z ▸ dA hx);refine cW (wpAny_alloc' (cW (wpAny_update' y1 (dq ?_))));have e0:((hh.push W.emptyDict).update x λo=>{o with dict:=some hh.objs.size}).Ns hh.objs.size (λ_=>none):=⟨W.emptyDict,#[],_,(iZ _ _ _ _ nx.symm).trans (dI hh rfl),rfl,λe he=>absurd he (by simp),λ_=>rfl⟩;refine cW (dq (cW (wpAny_nsSet1 (lq e0) λh' n1 sb=>?_)));obtain⟨oD,esD,epD,g1,g2,g3⟩:=n1.count (Within.cons name v Within.nil);refine cW (lL g1 (g2 ▸ lM (d6 g3 (by rw[dN,dO];decide))) (dq (h h' hh.objs.size _ (λb o hb z=>?_) ?_ (gJ (dv _)) nx.symm n1)))
   .exact(sb.2 b λy=>fi _ (y ▸ dA z)).trans ((iZ _ _ _ _ hb).trans (de _ z))
   .refine(sb.2 x nx).trans (fL _ y1 ?_);have fr:=(Heap.get?_some_iff.mp hx).2;cases oda with
    | _=>first|rfl|exact fr
end
variable {nm q:Str}{bs bm X8:List Vl}{hdct:Bool}{sn:QQQ}{sub:List Vl}{ab:Bool}{col:Option Bool}{dd:Option Addr}{k0 k1 k2 k3 k5:Option Vl}{B Bn newId nid Xd zq:String}{bmN:List Vl}{h:Heap}{g:Array GenState}{d:Drawn}{t:Nat}{os:OsState}
section
variable {E:QQX}{N:Addr}
abbrev NK(C t:Addr):Obj:={cls:=.ref C,data:=.fields #[.ref t,.none,.none,.none,.bool false,.none]}
def AW(Fn:ExcBaseFacts Bn newId zq bmN)(hBn:X8.contains (.type Bn)=true)(F:ExcBaseFacts B nid Xd X8)(T:OwnTail h X8 bm){mN:QQZ}{us:List Vl}{fI:Addr}{oI:Obj}{Q:PySem.Fin->Sd->Prop} (hC:h.get? C=some (excClassObj nm q C N bs bm hdct sn sub ab col dd k0 k1 k2 k3 k5 newId)) (hn:h.Ns N mN) (hi:mN "__init__"=some (.ref fI)) (hf:h.get? fI=some oI) (hfc:oI.cls=.type "function") (WN:us.length<=sizeLine) (hq:∀h' e,Heap.MadeExcOf h h' e (.ref C) us->wpAny (model prog w) A (call (.ref fI) (.ref e::us)) (λr s'=>r=.none/\Q (.done (.ret (.ref e))) s') E ⟨h',g,d,t,os⟩):
  wpAny (model prog w) A (Builtin.«type.__call__» ⟨.ref C::us,[]⟩) Q E ⟨h,g,d,t,os⟩:=by
 repeat (first|with_reducible refine g9 hC ?_|with_reducible refine wpAny_madeBy_exc hC ?_|wp_step)
 refine codeAny_call_builtin_code (iw _ Fn.quiet) (wpAny_check_new_subU Fn hBn T hC (codeAny_exc_new_subU Fn hBn F T hC ?_ WN));have kp:∀b o,h.get? b=some o->((h.push {cls:=.type "tuple",data:=.seq us.toArray}).push (NK C h.objs.size)).get? b=some o:=λb o z=>de _ (de _ z);have gE:((h.push {cls:=.type "tuple",data:=.seq us.toArray}).push (NK C h.objs.size)).get? (h.objs.size+1)=some (NK C h.objs.size):=by heap_get
 have hC2:=kp _ _ hC;have Zq:((h.push {cls:=.type "tuple",data:=.seq us.toArray}).push (NK C h.objs.size)).Ns N mN:=let⟨o,es,ep,e,r⟩:=hn;⟨o,es,ep,kp _ _ e,r⟩;have cC:(Value.ref C::bm).contains (.ref C)=true:=by rw[iz,fh,hU]
 have T2:=T.keeps kp;show wpAny _ _ _ _ _ _;unfold isInstance
 repeat (first|with_reducible refine g9 gE ?_|(with_reducible refine kH hC2 ?_;rw[cC])|wp_step)
 show wpAny _ _ (typeLookup (.ref C) _) _ _ _;refine wpAny_typeLookup_tail hC2 Zq T2 F.mroIs F.init.lookup ?_;rw[hi];refine eU (cW ?_);unfold bindSpecial;refine cW (jD (T:="function") ⟨_,kp _ _ hf,hfc⟩ ?_);rw[df (by decide)];refine dq (cW (eA (hq _ (h.objs.size+1) ⟨kp,gJ (gY _),h.objs.size,gE,gJ (dv _),de _ (Heap.get?_push_at rfl rfl)⟩) (λr s' hr=>?_) λ_ _ z=>z));obtain⟨rfl,hQ⟩:=hr
 wp_walk
 exact hQ
def HI(Fn:ExcBaseFacts Bn newId zq bmN)(hBn:X8.contains (.type Bn)=true)(F:ExcBaseFacts B nid Xd X8)(T:OwnTail h X8 bm){mN:QQZ}{us:List Vl}{fI:Addr}{oI:Obj}{Q:QQX} (hC:h.get? C=some (excClassObj nm q C N bs bm hdct sn sub ab col dd k0 k1 k2 k3 k5 newId)) (hn:h.Ns N mN) (hi:mN "__init__"=some (.ref fI)) (hf:h.get? fI=some oI) (hfc:oI.cls=.type "function") (WN:us.length<=sizeLine) (hq:∀h' e,Heap.MadeExcOf h h' e (.ref C) us->wpAny (model prog w) (A.under (.builtin "type.__call__" ⟨.ref C::us,[]⟩)) (call (.ref fI) (.ref e::us)) (λr s'=>r=.none/\Q (.ref e) s') E ⟨h',g,d,t,os⟩):
  wpAny (model prog w) A (call (.ref C) us) Q E ⟨h,g,d,t,os⟩:=by
 have f1:=tc_lookup;have f2:=tc_bind (.ref C);have hT:(⟨h,g,d,t,os⟩:Sd).TypeIs (.ref C) "type":=⟨_,hC,rfl⟩;refine iD (jU ?_);show wpAny _ _ (callAny (.ref C) _) _ _ _
 repeat (any_goals(first|assumption|with_reducible refine g9 hC ?_|wp_step))
 exact⟨rfl,codeAny_call_builtin_at (iw _ (by decide+kernel)) entry_typeCall (wpAny_check_type_call_sub hC (AW Fn hBn F T hC hn hi hf hfc WN hq))⟩
end
variable {M:Model}{env:Env}
section
variable {E:QQX}{N:Addr}
def Jy(h:Heap)(e C:Addr)(dx:Option Addr):Prop:=BO λt sl=>h.get? e=some ⟨.ref C,dx,.fields #[.ref t,.none,.none,.none,.bool false,.none],sl⟩
def Gx{x:Sem Vl}{Q:Flow->Sd->Prop}(WU:bm.contains (.type "BaseException")=true)(hh:A.handled=none) (h:wpAny M A x (λv s₁=>∃e dx,v=.ref e/\s₁.heap.get? C=some (excClassObj nm q C N bs bm hdct sn sub ab col dd k0 k1 k2 k3 k5 newId)/\Jy s₁.heap e C dx/\E (.ref e) s₁) E s):
  wpAny M A (raiseStmt env (some x) none) Q E s:=by
 have cB:(Value.ref C::bm).contains (.type "BaseException")=true:=by rw[iz,WU,kZ]
 unfold raiseStmt;refine cW (eA h (λv s₁ ⟨e,dx,ev,hC,⟨t,sl,he⟩,hE⟩=>?_) λ_ _ z=>z);subst ev;obtain⟨hp,g,d,tk,os⟩:=s₁
 repeat (first|with_reducible refine g9 he ?_|with_reducible refine g9 hC ?_|(with_reducible refine kH hC ?_;rw[cB])|wp_step)
 exact wpAny_raiseNew_none hh hE
def GP(Fn:ExcBaseFacts Bn newId zq bmN)(hBn:X8.contains (.type Bn)=true)(F:ExcBaseFacts B nid Xd X8){mN:QQZ}{fI:Addr}{x:Str}{np WO pos:Pos}{args:List Expr}{Q:Flow->Sd->Prop} (WU:bm.contains (.type "BaseException")=true) (hh:A.handled=none) (WY:(backTo WO (starEach args env)).any (·.1)=false) (hi:mN "__init__"=some (.ref fI)) (h:wpAny (model prog w) A (eval (.Name x np) env) (λf s₁=>f=.ref C/\wpAny (model prog w) A (evalArgs (.ref C) true (backTo WO (starEach args env)) []) (λa s₂=>a.kw=[]/\a.pos.length<=sizeLine/\s₂.heap.get? C=some (excClassObj nm q C N bs bm hdct sn sub ab col dd k0 k1 k2 k3 k5 newId)/\s₂.heap.Ns N mN/\OwnTail s₂.heap X8 bm/\(∃oI,s₂.heap.get? fI=some oI/\oI.cls=.type "function")/\
    ∀h' e,Heap.MadeExcOf s₂.heap h' e (.ref C) a.pos->wpAny (model prog w) (A.under (.builtin "type.__call__" ⟨.ref C::a.pos,[]⟩)) (call (.ref fI) (.ref e::a.pos))
     (λr s'=>r=.none/\∃dx,s'.heap.get? C=some (excClassObj nm q C N bs bm hdct sn sub ab col dd k0 k1 k2 k3 k5 newId)/\Jy s'.heap e C dx/\E (.ref e) s') E {s₂ with heap:=h'}) E s₁) E s):
  wpAny (model prog w) A (exec (.Raise (some (.Call (.Name x np) args [] WO)) none pos) env) Q E s:=by
 rw[arm_exec_Raise];refine cW (ie (Gx (C:=C) (nm:=nm) (q:=q) (N:=N) (bs:=bs) (bm:=bm) (hdct:=hdct) (sn:=sn) (sub:=sub) (ab:=ab) (col:=col) (dd:=dd) (k0:=k0) (k1:=k1) (k2:=k2) (k3:=k3) (k5:=k5) (newId:=newId) WU hh ?_));refine cW (eA (wpAny_Call_ofName (eA h (λf s₁ ⟨ef,h₁⟩=>?_) λ_ _ z=>z)) (λv s₃ h₃=>cW (ie (dq h₃))) λ_ _ z=>z);subst ef;unfold callWith;refine cW (eU (eA h₁ (λa s₂ h₂=>cW (ie ?_)) λ_ _ z=>z));obtain⟨WK,akw⟩:=a;obtain⟨hkw,WN,hC,hn,T,⟨oI,hf,hfc⟩,h₂⟩:=h₂;obtain rfl:akw=[]:=hkw;obtain⟨hp,g,d,tk,os⟩:=s₂;simp only[WY];refine cW (wpAny_keeperOf_exc hC (cW (HI Fn hBn F T hC hn hi hf hfc WN λh' e hm=>eA (h₂ h' e hm) (λr s' ⟨z,dx,c1,c2,c3⟩=>⟨z,cW (eU (wpAny_point (dq ⟨e,dx,rfl,c1,c2,c3⟩)))⟩) λ_ _ z=>z)))
end
def x0(a C:Addr)(h:Heap):Prop:=Jy h a C none
def x1(a C d:Addr)(h:Heap):Prop:=Jy h a C (some d)
structure yB(K:qu)(C:Addr)(f:Str):Prop where
 sa:W.findIn K (.ref C) "__setattr__"=some (some (.builtin "object.__setattr__"))
 cd:∃cd own,W.clsIn K C=some cd/\cd.mro=List.map Value.ref own++L1/\cd.hasDict=true
 tk:W.takerIn K C f=some none
variable {X:Cx}{WH:List (Addr × Obj)}{σ σ':St}{H H1:Hp}{s1:Sd}{a:Addr}
section
variable {f:Str}
def GI{A:Ar}{E:QQX}{y:V}{u:Vl}{Q:Unit->Sd->Prop}(I:Inv X WH σ H s)(e:H a=some (.ext (x0 a C)))(ry:qJ y u)(st:yB X.K C f)(h:∀d s',H d=none->d≠a->Inv X WH σ (upd (upd H a (.ext (x1 a C d))) d (.ext (OM d f y))) s'->Q () s'):wpAny (model X.prog X.w) A (setAttr (.ref a) f u) Q E s:=by obtain⟨⟨t,sl,ho⟩,_,_⟩:=I.mV a _ e;obtain⟨cd,own,c1,c2,c3⟩:=st.cd;refine NU I.nk ⟨ho,rfl,rfl,trivial⟩ st.sa c1 c2 st.tk c3 λh' d tk k1 k2 dn da n1=>h d _ (zx I.mV dn) da ?_;have I2:=I.write (t':=tk) (x:=a) (e:=a) (o:=.ext (x1 a C d)) (by rw[e];exact True.intro) (.inl rfl) k1 ⟨_,k2⟩ ⟨⟨t,sl,k2⟩,⟨_,k2⟩,λh1 h2 ⟨t',Ya,z⟩ kk=>⟨t',Ya,kk _ z⟩⟩;refine I2.adopt I dn (by rw[pW da];exact zx I.mV dn) ⟨⟨u,n1,ry⟩,?_,λh1 h2 ⟨u,n,r⟩ kk=>⟨u,n.at kk,r⟩⟩;obtain⟨o,_,_,z,_⟩:=n1;exact⟨o,z⟩
def Inv.drop{φ:Heap->Prop}(I:Inv X WH σ H s)(ea:H a=some (.ext φ)):Inv X WH σ (λb=>if b=a then none else H b) s:=by
 have less:∀b,H b=none->(if b=a then none else H b)=none:=λb e=>by split<;>first|rfl|exact e
 have keep:∀b o,H b=some o->(∀φ,o≠.ext φ)->(if b=a then none else H b)=some o:=λb o e n=>by
  rw[cZ]
  .exact e
  .intro z;rw[z,ea]at e;exact n φ (dh e).symm
 refine⟨I.ok,I.os,I.bare,⟨I.base.keep,I.base.slot,λb o e h0 hb=>less b (I.base.free b o e h0 hb),I.base.there,λb xs e=>keep b _ (I.base.nJ b xs e) (λ_ z=>nomatch z),λb o u e=>keep b _ (I.base.nG b o u e) (λ_ z=>nomatch z),λb ps e=>?_⟩,I.loc,I.cell,less _ I.free,λx c e=>less _ (I.m9 x c e),λp hp=>⟨(I.pin p hp).1,less _ (I.pin p hp).2.1,(I.pin p hp).2.2⟩,λb ob e=>?_,I.len⟩
 .obtain⟨more,z⟩:=I.base.nL b ps e;exact⟨more,keep b _ z (λ_ z=>nomatch z)⟩
 .have e':H b=some ob:=by
   by_cases z:b=a
   .rw[df z]at e;cases e
   .rw[cZ z]at e;exact e
  exact(I.mV b ob e').nz (λ_ _ _ q=>q) (λb' q=>keep b' _ q (λ_ z=>nomatch z)) λb' xs q=>keep b' _ q (λ_ z=>nomatch z)
end
def K4(K:qu)(ta tv:TE)(f:Str):TS:=λD σ H=>tv σ H λy H1=>ta σ H1 λx H2=>∃a C,x=.ref a/\H2 a=some (.ext (x0 a C))/\yB K C f/\∀d,H2 d=none->d≠a->D.nx σ (upd (upd H2 a (.ext (x1 a C d))) d (.ext (OM d f y)))
def Pi{X:Cx}{o value:Expr}{f:Str}{pos WT:Pos}{ta tv:TE}(ha:PE X o ta)(hv:PE X value tv)(hs:swapsWith value (some (.Attribute o f WT)) pos.line X.env=pure false:=by rfl):PS X (.Assign [.Attribute o f WT] value pos) (K4 X.K ta tv f):=by intro WH s σ H D I h;refine iN (sH (hv WH s σ H _ I h) λu s1 zz=>x5 zz λy H1 I1 ry q=>sH (ha WH s1 σ H1 _ I1 q) λov s2 zz=>?_) hs;obtain⟨x,H2,I2,rx,a,C,ex,ea,st,q2⟩:=zz;subst ex;obtain rfl:ov=Value.ref a:=rx;exact GI I2 ea ry st λd s3 dn da I3=>⟨σ,_,I3,q2 d dn da⟩
def wk(K:qu)(f:Str):Sp:=λvs H Q _=>CQ λe C y=>vs=[.ref e,y]/\H e=some (.ext (x0 e C))/\yB K C f/\∀d,H d=none->d≠e->Q .mS (upd (upd H e (.ext (x1 e C d))) d (.ext (OM d f y)))
variable {qual:Str}{scope:Scope}{outer:List Env}{s0:Sd}{H0:Hp}{P:Pg}{mg:QQZ}{base:Heap}
section
def Nz{x qual y1 y2 fl:Str}{st:Stmt}{f:Addr}{fd:FuncData}(F:PB K x qual st f fd)(S:s8 [y1,y2] [y1,y2] (qd st)) (hb:∀(WQ:Vl) (A:Ar) (outer:List Env) (s:Sd) (H:Hp) (E:XK),B6 (vp (Cr P w) P w K mg base [y1,y2] qual (qd st) f WQ A outer s H E) (rQ st) (K4 K (Hi 0) (Hi 1) fl)):xw P w K mg base (Cr P w) 1 f fd [y1,y2] (wk K fl):=by
 obtain⟨oc,od,kV,Xl,pm,an,WQ,ct,XB,rfl,lk,XW⟩:=F.ex;refine K1 lk XW S (λvs H Q E h=>?_) λA outer s H vs Q' E hr h=>⟨_,hb WQ A outer s H E,?_⟩
 .obtain⟨e,C,y,rfl,_⟩:=h;rfl
 .obtain⟨e,C,y,rfl,h1,h2,q⟩:=h;exact⟨y,rfl,.ref e,rfl,e,C,rfl,h1,h2,q⟩
def Jq(K:qu)(C fI:Addr):Prop:=
 ∃nm q N bs bm X8 hdct sn sub ab col dd k0 k1 k2 k3 k5,∃B Bn newId nid Xd zq:String,∃bmN,∃mN:QQZ,ExcBaseFacts Bn newId zq bmN/\X8.contains (Value.type Bn)=true/\ExcBaseFacts B nid Xd X8/\bm.contains (Value.type "BaseException")=true/\mN "__init__"=some (.ref fI)/\
  ∀h:Heap,K.In h->h.get? C=some (excClassObj nm q C N bs bm hdct sn sub ab col dd k0 k1 k2 k3 k5 newId)/\h.Ns N mN/\OwnTail h X8 bm/\∃oI,h.get? fI=some oI/\oI.cls=.type "function"
variable {N:QQQ}{f:Addr}{cd:Vl}{E:XK}
def J6{X:Cx}(hX:X=vp (Cr P w) P w K mg base N qual scope f cd A outer s0 H0 E){C fI:Addr}{fdI:FuncData}{ps:QQQ}{fl:Str}{k:Nat}{x:Str}{np WO pos:Pos}{e:Expr}{ta:TA}(hC:Jq X.K C fI)(F:xw X.prog X.w X.K X.mg X.base (Cr X.prog X.w) k fI fdI ps (wk X.K fl))(hr:r6 (k+1) X.A)(hb:uS X.K fdI ps [])(st:yB X.K C fl) (hg:Gl X x) (hm:X.mg x=some (.ref C)) (ha:PA X [e] ta) (hs:starEach [e] X.env=[(false,eval e X.env)]:=by rfl) (W0:yU x:=by decide):
  PS X (.Raise (some (.Call (.Name x np) [e] [] WO)) none pos) (λ_ σ H=>ta σ H λvs H1=>∃y,vs=[y]/\∀d,H1 d=none->E (.ref C) (some d) (upd H1 d (.ext (OM d fl y)))):=by
 intro WH s σ H D I h;obtain⟨nm,q,N',bs,bm,X8,hdct,sn,sub,ab,col,dd,k0,k1,k2,k3,k5,B,Bn,newId,nid,Xd,zq,bmN,mN,f1,f2,f3,f4,f5,YG⟩:=hC;have hcalm:X.A.handled=none:=I.ok.hd (by rw[hX];rfl);refine GP (nm:=nm) (q:=q) (N:=N') (bs:=bs) (hdct:=hdct) (sn:=sn) (sub:=sub) (ab:=ab) (col:=col) (dd:=dd) (k0:=k0) (k1:=k1) (k2:=k2) (k3:=k3) (k5:=k5) f1 f2 f3 f4 hcalm (by rw[hs];rfl) f5 (wV I hg hm ⟨rfl,?_⟩ W0);rw[hs];refine evalArgs_kwB rfl ?_;have Yi:=ha WO WH s σ H _ I h;rw[hs]at Yi;refine sH Yi λus s1 zz=>?_;obtain⟨vs,H1,I1,r1,y,ey,q1⟩:=zz;subst ey;obtain⟨u,rfl,ru⟩:=xl r1;refine wpAny_evalAll_nil ?_;obtain⟨c1,c2,c3,c4⟩:=YG s1.heap I1.nk;refine⟨rfl,by show 1<=sizeLine;rw[dN];decide,c1,c2,c3,c4,λh' e' md=>?_⟩;obtain⟨mk,mn,t,mt,_⟩:=md;have hn:H1 e'=none:=zx I1.mV mn;have I2:Inv X WH σ H1 {s1 with heap:=h'}:=I1.kept (t':=s1.toks) mk;have I3:Inv X WH σ (upd H1 e' (.ext (x0 e' C))) {s1 with heap:=h'}:=I2.adopt I1 mn hn ⟨⟨t,_,mt⟩,⟨_,mt⟩,λh1 h2 ⟨t',Ya,z⟩ kk=>⟨t',Ya,kk _ z⟩⟩;have r2:qE [V.ref e',y] [Value.ref e',u]:=.cons rfl (.cons ru .nil);have Yb:wk X.K fl [V.ref e',y] (upd H1 e' (.ext (x0 e' C))) (λv H2=>v=.mS/\∃d,d≠e'/\H1 d=none/\H2=upd (upd H1 e' (.ext (x1 e' C d))) d (.ext (OM d fl y))) (λ_ _ _=>False):=⟨e',C,y,rfl,qh,st,λd dn da=>⟨rfl,d,da,by rw[pW da]at dn;exact dn,by rw[PU]⟩⟩;have hl:([Value.ref e',u]:List Vl).length=ps.length:=by rw[<-r2.length];exact F.len _ _ _ _ Yb
 refine iD (gm (F.run _ X.stack _ _ ⟨[Value.ref e',u],[]⟩ [Value.ref e',u] _ _ _ (hr.make C [u] []) (I3.oi.make C [u] []) (hb _ [Value.ref e',u] I3.nk hl) r2 Yb) λr s' Yp=>?_);cases r with
 | error ev=>obtain⟨_,_,_,_,_,_,z,_⟩:=Yp;exact z.elim
 | ok fw=>
  cases fw with
  | ret uv=>
   obtain⟨v,H',I4,rv,ev,d,da,dn,eH⟩:=I3.after Yp;subst ev eH;obtain⟨⟨t',Ya,md⟩,_,_⟩:=I4.mV e' _ (by rw[pW (dP da)];exact qh);have I5:Inv X WH σ (upd H1 d (.ext (OM d fl y))) _:=(funext λb=>by
    by_cases z:b=e'
    .subst z;rw[df rfl,pW (dP da),hn]
    .rw[cZ z];by_cases z2:b=d
     .subst z2;rw[qh,qh]
     .rw[pW z2,pW z2,pW z]:(λb=>if b=e' then none else upd (upd H1 e' (.ext (x1 e' C d))) d (.ext (OM d fl y)) b)=upd H1 d (.ext (OM d fl y))) ▸ I4.drop (a:=e') (φ:=x1 e' C d) (by rw[pW (dP da)];exact qh)
   refine⟨rv,some d,(YG s'.heap I4.nk).1,⟨t',Ya,md⟩,?_⟩;subst hX;have Xb:Un (we outer) [] H0 H1 s0.heap s1.heap:=I1.base;exact Uv I5 (tb:=none) ⟨_,_,md,rfl,rfl,rfl,(by show 1<6;decide),rfl,λT z=>by cases z⟩ (Gc Xb rfl mn) (λT z=>by cases z) (by rw[pW (dP da)];exact hn) (q1 d dn)
  | next=>exact False.elim Yp
  | brk=>exact False.elim Yp
  | cont=>exact False.elim Yp
end
end L2
namespace L3
open L2
variable {P:Pg}{w:Wo}{K:qu}{mg:QQZ}{base:Heap}{N:QQQ}{qual:Str}{scope:Scope}{f:Addr}{cd:Vl}{A:Ar}{outer:List Env}{s0:Sd}{H0:Hp}{E:XK}{x:Str}{np WO pos:Pos}{e:Expr}{C fI:Addr}{fdI:FuncData}{ps:QQQ}{fl:Str}{k:Nat}{R:XR}{ta:xC}
def Of(C:Addr)(R:XR)(f:Str)(ta:xC):xA:=λ_ δ M=>ta δ M λds M1=>∃z,ds=[z]/\R C (some (f,z)) M1
def Kn(hC:Jq K C fI)(F:xw P w K mg base (Cr P w) k fI fdI ps (wk K fl))(hr:r6 (k+1) (vp (Cr P w) P w K mg base N qual scope f cd A outer s0 H0 E).A)(hb:uS K fdI ps [])(st:yB K C fl)(_:W.findIn K (.ref C) "__init__"=some (some (.ref fI)))(hg:Gl (vp (Cr P w) P w K mg base N qual scope f cd A outer s0 H0 E) x)(hm:mg x=some (.ref C))(hR:T5 K R E)(ha:A3 (vp (Cr P w) P w K mg base N qual scope f cd A outer s0 H0 E) [e] ta) (hs:starEach [e] (vp (Cr P w) P w K mg base N qual scope f cd A outer s0 H0 E).env=[(false,eval e (vp (Cr P w) P w K mg base N qual scope f cd A outer s0 H0 E).env)]:=by rfl) (W0:yU x:=by decide):
  S3 (vp (Cr P w) P w K mg base N qual scope f cd A outer s0 H0 E) (.Raise (some (.Call (.Name x np) [e] [] WO)) none pos) (Of C R fl ta):=
 PS.mono (J6 rfl hC F hr hb st hg hm ha hs W0) λD' σ H ⟨δ,M,D,hs,hm,ht,_⟩=>⟨δ,M,_,hs,hm,ht,λvs H1 ds M1 hd WJ e1 q1=>by
  obtain⟨z,rfl,r⟩:=q1;obtain⟨v,rfl,hv⟩:=rO hd;exact⟨v,rfl,λd dn=>hR C (some d) _ M1 _ (WJ.add dn) (.inr ⟨d,fl,z,v,rfl,rfl,qh,hv.mono (.new dn)⟩) r⟩⟩
variable {X:Cx}{b₀:Stmt}{Xv:List Stmt}{cn:Str}{cnp YA Y2:Pos}{Cc L:Addr}{te:Uu}{th:xA}
def Mt{t:St->Hp->VK->(Hp->Prop)->XK->Prop}(he:SJ X e t)(hs:swapsWith e none Y2.line X.env=pure false:=by rfl):Wb X (.Expr e Y2) (λD σ H J E=>t σ H (λ_ H'=>D.nx σ H') J E):=by intro WH s σ H D J E I h;exact wpAny_Expr_any (sH (he WH s σ H _ J E I h) λv s1 zz=>x5 zz λy H1 I1 r1 q1=>⟨σ,H1,I1,q1⟩) I.quiet hs
def UA(K:qu)(Cc:Addr)(te:Uu)(th:xA):xA:=λD δ M=>∃R,te δ M (λ_ M1=>D.nx δ M1) R/\∀C y M',R C y M'->W.exmOne K (.ref C) (.ref Cc)=some true/\th D δ M'
def Pq(he:V9 X e te)(W6:X.stack=X.env::outer)(hL:X.env.frame=some L)(hg:Gl X cn)(hm:X.mg cn=some (.ref Cc)) (hs:∀ev E',G6 (X.marked ev E') (b₀::Xv) th) (W0:yU cn:=by decide) (Yd:swapsWith e none Y2.line X.env=pure false:=by rfl):
  S3 X (.Try [.Expr e Y2] [.ExceptHandler (some (.Name cn cnp)) none (b₀::Xv) YA] [] [] pos) (UA X.K Cc te th):=
 PS.nR (PR (th:=US X.K th) (Mt he Yd) W6 hL hg hm hs W0) λD' σ H hl ⟨δ,M,D,hs,hm,⟨R,ht,hh⟩,k1,k2,k3,k4⟩=>by
  refine⟨λH1=>qQ X.K H H1,λcv d H'=>∃C M' y,cv=.ref C/\HM X.K H' M'/\S9 X.K H' d y/\R C y M',⟨δ,M,_,R,hs,hm,ht,λv H1 d M1 hd WJ e1 q1=>?_,λ_ z=>z,λC dx H' M' y h1 h0 h2=>⟨C,M',y,rfl,h1,h0,h2⟩⟩,λC dx H1 H' jH tk ⟨C',M',y,ec,Ye,Zi,r⟩=>?_⟩
  .exact k1 _ H1 _ M1 (hs.mono e1) WJ e1 rfl q1
  .cases ec;obtain⟨r1,r2⟩:=hh C y M' r;have e1:qQ X.K H H':=jH.trans (L2.TKept.ext tk);refine⟨r1,δ,M',D,hs.mono e1,Ye,r2,λσ2 H2 δ2 M2 y1 y2 y3 y4 y5=>?_,λv H2 d M2 y1 y2 y3 y5=>?_,λσ2 H2 δ2 M2 y1 y2 y3 y4 y5=>?_,λσ2 H2 δ2 M2 y1 y2 y3 y4 y5=>?_⟩
   .exact k1 _ H2 _ M2 y1 y2 (e1.trans y3) y4 y5
   .exact k2 _ H2 _ M2 y1 y2 (e1.trans y3) y5
   .exact k3 _ H2 _ M2 y1 y2 (e1.trans y3) y4 y5
   .exact k4 _ H2 _ M2 y1 y2 (e1.trans y3) y4 y5
end L3
namespace L2
def NB{K:qu}{C C2 N fI:Addr}{nm q:Str}{bs sub:List Vl}{hdct ab:Bool}{sn:QQQ}{col:Option Bool}{dd od1 od2 dd2:Option Addr}{k0 k1 k2 k3 k5:Option Vl}{oc1 oc2 c0:Vl}{es1 es2:Array DictEntry}{ep1 ep2:Nat}{sl1 sl2 Vo:Array (Option Vl)}{cd2:ClassData}{oI:Obj} (l1:K.lookup C=some (excClassObj nm q C N bs (.ref C2::L1) hdct sn sub ab col dd k0 k1 k2 k3 k5 "ValueError.__new__")) (n1:K.lookup N=some ⟨oc1,od1,.dict es1 ep1,sl1⟩) (s1:BE es1=true) (i1:nsFind es1 "__init__"=some (.ref fI)) (l2:K.lookup C2=some ⟨c0,dd2,.cls cd2,Vo⟩) (n2:K.lookup cd2.ns=some ⟨oc2,od2,.dict es2 ep2,sl2⟩) (s2:BE es2=true) (i2:nsFind es2 "__init__"=none) (l3:K.lookup fI=some oI) (hf:W.isFn K (.ref fI)=true):Jq K C fI:=by
 have hc:oI.cls=.type "function":=by have hf:=fj.mp hf;unfold W.typeIn at hf;simp only at hf;rw[l3]at hf;exact dh hf
 refine⟨nm,q,N,bs,.ref C2::L1,L1,hdct,sn,sub,ab,col,dd,k0,k1,k2,k3,k5,"ValueError","ValueError","ValueError.__new__","ValueError.__new__","ValueError.__init__","ValueError.__init__",L1,λn=>nsFind es1 n,ku,by decide+kernel,ku,?_,i1,λh X=>⟨X C _ l1,⟨_,es1,ep1,X N _ n1,rfl,Bs s1,λ_=>rfl⟩,.own (X C2 _ l2) ⟨_,es2,ep2,X _ _ n2,rfl,Bs s2,λ_=>rfl⟩ i2 .base,oI,X fI _ l3,hc⟩⟩;rw[iz];have:L1.contains (.type "BaseException")=true:=by decide+kernel
 rw[this,kZ]
def Ki{K:qu}{C C2 N:Addr}{nm q f:Str}{bs sub:List Vl}{ab:Bool}{sn:QQQ}{col:Option Bool}{dd:Option Addr}{k0 k1 k2 k3 k5:Option Vl}(l1:K.lookup C=some (excClassObj nm q C N bs (.ref C2::L1) true sn sub ab col dd k0 k1 k2 k3 k5 "ValueError.__new__"))(sa:W.findIn K (.ref C) "__setattr__"=some (some (.builtin "object.__setattr__")))(tk:W.findIn K (.ref C) f=some none):yB K C f:=by refine⟨sa,⟨_,[C,C2],by unfold W.clsIn;rw[l1],rfl,rfl⟩,?_⟩;unfold W.takerIn;rw[tk];rfl
end L2
namespace L3
open L2
variable {X:Cx}{pos WK:Pos}{o e:Expr}{es:List Expr}{ta:T3}{t:xC}
structure FA where
 f:Addr
 d:FuncData
 p:QQQ
structure DG(K:qu)(st:Stmt)(py qual:Str)(ps:QQQ)(x:FA):Prop where
 pe:x.p=ps
 fn:PB K py qual st x.f x.d
 b:uS K x.d x.p []
 ty:W.isFn K (.ref x.f)=true
structure TG(K:qu)(mg:QQZ)(st:Stmt)(py:Str)(ps:QQQ)(x:FA):Prop extends DG K st py py ps x where
 mg:mg py=some (.ref x.f)
structure MG(K:qu)(C:Addr)(st:Stmt)(py qual:Str)(ps:QQQ)(x:FA):Prop extends DG K st py qual ps x where
 at_:W.findIn K (.ref C) py=some (some (.ref x.f))
structure CG(K:qu)(mg:QQZ)(nm:Str)(C:Addr):Prop extends Cls K C where
 mg:mg nm=some (.ref C)
def DG.kp{K:qu}{st:Stmt}{py qual:Str}{ps:QQQ}{x:FA}(h:DG K st py qual ps x):W.keepIn K (.ref x.f)=true:=h.fn.kp
def MG.ny{K:qu}{C:Addr}{st:Stmt}{py qual:Str}{ps:QQQ}{x:FA}(h:MG K C st py qual ps x):vF K C py x.f:=⟨h.at_,h.ty,h.toDG.kp⟩
def zG(K:qu)(C:Addr)(fs:QQQ):Prop:=∀f,fs.contains f=true->uh K C f
def tJ{K:qu}{C:Addr}:zG K C []:=λf h=>by simp at h
def pR{K:qu}{C:Addr}{g:Str}{fs:QQQ}(h:W.findIn K (.ref C) g=some none)(r:zG K C fs):zG K C (g::fs):=λf q=>by
 rw[iz,gW]at q;rcases q with q|q
 .rw[eq_of_beq q];exact h
 .exact r f q
abbrev Fq(P:Pg)(w:Wo)(K:qu)(mg:QQZ)(base:Heap)(k:Nat)(x:FA)(sp:rf):Prop:=SS P w K mg base k x.f x.d x.p sp
abbrev Vm(P:Pg)(w:Wo)(K:qu)(mg:QQZ)(base:Heap)(k:Nat)(x:FA)(sp:FR):Prop:=Rz P w K mg base k x.f x.d x.p sp
def SN(N P:QQQ)(sc:Scope):Bool:=sc.kind==.function&&(!sc.isCoroutine&&(!sc.isGenerator&&(decide N.Nodup&&(decide (N.take P.length=P)&&((P.all λx=>sc.names.lookup x==some .local||sc.names.lookup x==some .cell)&&sc.names.all λy=>!(y.2==.free))))))
def Wx{N P:QQQ}{sc:Scope}(h:SN N P sc=true):s8 N P sc:=by
 unfold SN at h;simp only[dU,gI,fj,eB]at h;obtain⟨h1,h2,h3,h4,h5,h6,h7⟩:=h;refine⟨h1,h2,h3,h4,h5,λx hx=>?_,λy hy e=>?_⟩
 .have:=eK.mp h6 x hx
  simpa using this
 .have:=eK.mp h7 y hy;rw[e]at this;simp at this
variable {P:Pg}{w:Wo}{K:qu}{mg:QQZ}{base:Heap}
def Vt{x qual:Str}{st:Stmt}{fa:FA}{N ps:QQQ}{k:Nat}{sp:rf}(F:DG K st x qual ps fa)(S:s8 N ps (qd st))(len:∀ds M Q,sp ds M Q->ds.length=ps.length) (W2:∀(WQ:Vl) (A:Ar) (outer:List Env) (s:Sd) (H:Hp) (E:XK),r6 k (A.deeper (envOfC qual (qd st) s.heap.objs.size fa.f WQ))->
   ∃t,G6 (vp NF P w K mg base N qual (qd st) fa.f WQ A outer s H E).ow (rQ st) t/\∀ds M Q,sp ds M Q->t {nx:=λ_ M'=>∃WL,qr WL M'/\Q .mS WL,rt:=λd M'=>∃WL,qr WL M'/\Q d WL} (xc N ds) M):Fq P w K mg base (k+1) fa sp:=by
 unfold Fq;rw[F.pe];exact S5 F.fn S len W2
def Uq{x qual:Str}{st:Stmt}{fa:FA}{N ps:QQQ}{k:Nat}{sp:FR}(F:DG K st x qual ps fa)(S:s8 N ps (qd st))(len:∀ds M Q R,sp ds M Q R->ds.length=ps.length) (W2:∀(WQ:Vl) (A:Ar) (outer:List Env) (s:Sd) (H:Hp) (E:XK) (R:XR),r6 k (A.deeper (envOfC qual (qd st) s.heap.objs.size fa.f WQ))->T5 K R E->
   ∃t,G6 (vp (Cr P w) P w K mg base N qual (qd st) fa.f WQ A outer s H E) (rQ st) t/\∀ds M Q,sp ds M Q R->t {nx:=λ_ M'=>∃WL,qr WL M'/\Q .mS WL,rt:=λd M'=>∃WL,qr WL M'/\Q d WL} (xc N ds) M):Vm P w K mg base (k+1) fa sp:=by
 unfold Vm;rw[F.pe];exact Tc F.fn S len W2
variable {k n:Nat}{f C:Addr}{fa:FA}{st:Stmt}{qual:Str}{ps:QQQ}{sp:rf}{x m:Str}{p:Pos}
def pI(F:Fq X.prog X.w X.K X.mg X.base k fa sp)(hr:r6 n X.A)(T:TG X.K X.mg st x ps fa)(ha:A3 X (e::es) t)(hn:k<=n:=by first|decide|omega)(hg:Gl X x:=by rfl)
  (W0:yU x:=by decide) (he:Bb X e es:=by rfl) (WX:CH X pos es:=by rfl):
  E3 X (.Call (.Name x p) (e::es) [] pos) (yt sp t):=Qa F (hr.mono hn) hg T.mg T.toDG.kp T.b ha W0 he WX
def vk(F:Fq X.prog X.w X.K X.mg X.base k fa sp)(hr:r6 n X.A)(c:CG X.K X.mg x C)(i:Mk X.K C fa.f)(T:DG X.K st m qual ps fa)(ha:A3 X (e::es) t)(hn:k+1<=n:=by first|decide|omega)(hg:Gl X x:=by rfl)
  (W0:yU x:=by decide) (he:Bb X e es:=by rfl) (WX:CH X pos es:=by rfl):
  E3 X (.Call (.Name x p) (e::es) [] pos) (QF C sp t):=Qg c.toCls i F (hr.mono hn) hg c.mg T.b ha W0 he WX
def pX{pl:Sem Bool}(he:E3 X o ta)(c:Cls X.K C)(T:MG X.K C st m qual ps fa)(F:Fq X.prog X.w X.K X.mg X.base k fa sp)(hr:r6 n X.A)(ha:A3 X (e::es) t)(hn:k<=n:=by first|decide|omega)
  (W6:Bb X e es:=by rfl) (WX:CH X pos es:=by rfl)
  (ht:eval (.Call (.Attribute o m WK) (e::es) [] pos) X.env=(do
   let ov<-eval o X.env
   standAt WK.atName
   let(f,first)<-holding [ov] (getMethod ov m pl)
   callWith pos f first (backTo pos (starEach (e::es) X.env)) (backToKw pos (keywordEach [] X.env))):=by rfl):
  E3 X (.Call (.Attribute o m WK) (e::es) [] pos) (AB m (λD s=>D=C/\s=sp) ta t):=
 vL (R:=λD s=>D=C/\s=sp) he (λD s ⟨e1,e2⟩=>by subst e1 e2;exact⟨c,_,_,_,T.ny,F,T.b⟩) (hr.mono hn) ha W6 WX ht
def ya{pl:Sem Bool}(he:E3 X o ta)(c:Cls X.K C)(T:MG X.K C st m qual ps fa)(F:Fq X.prog X.w X.K X.mg X.base k fa sp)(hr:r6 n X.A)(hn:k<=n:=by first|decide|omega)
  (ht:eval (.Call (.Attribute o m WK) [] [] pos) X.env=(do
   let ov<-eval o X.env
   standAt WK.atName
   let(f,first)<-holding [ov] (getMethod ov m pl)
   callWith pos f first (backTo pos (starEach [] X.env)) (backToKw pos (keywordEach [] X.env))):=by rfl):
  E3 X (.Call (.Attribute o m WK) [] [] pos) (AB m (λD s=>D=C/\s=sp) ta uT):=
 Cu (R:=λD s=>D=C/\s=sp) he (λD s ⟨e1,e2⟩=>by subst e1 e2;exact⟨c,_,_,_,T.ny,F,T.b⟩) (hr.mono hn) ht
def yC{pl:Sem Bool}(cm:MV X.K C m fa.f)(F:Fq X.prog X.w X.K X.mg X.base k fa sp)(hr:r6 n X.A)(c:CG X.K X.mg x C)(T:DG X.K st m qual ps fa)(ha:A3 X (e::es) t)(hn:k<=n:=by first|decide|omega)(hg:Gl X x:=by rfl)
  (W0:yU x:=by decide) (W6:Bb X e es:=by rfl) (WX:CH X pos es:=by rfl)
  (ht:eval (.Call (.Attribute (.Name x p) m WK) (e::es) [] pos) X.env=(do
   let ov<-eval (.Name x p) X.env
   standAt WK.atName
   let(f,first)<-holding [ov] (getMethod ov m pl)
   callWith pos f first (backTo pos (starEach (e::es) X.env)) (backToKw pos (keywordEach [] X.env))):=by rfl):
  E3 X (.Call (.Attribute (.Name x p) m WK) (e::es) [] pos) (yt sp t):=Oy cm F (hr.mono hn) hg c.mg T.kp T.b ha W0 W6 WX ht
variable {h:Heap}{py:Str}{od an:Option Addr}{sl:Array (Option Vl)}{kv dc pm cd ct:Vl}
def I0{fd:FuncData}{oc:Vl}(l:K.lookup f=some ⟨oc,od,.func fd,sl⟩):W.keepIn K (.ref f)=true:=by unfold W.keepIn;simp only;rw[l]
def Ob{fd:FuncData}(l:K.lookup f=some ⟨.type "function",od,.func fd,sl⟩):W.isFn K (.ref f)=true:=by unfold W.isFn W.typeIn;simp only;rw[l];rfl
abbrev nq(py qual:Str)(st:Stmt)(ps:QQQ):Prop:=∀(kV Xl pm:Vl) (an:Option Addr) (WQ ct:Vl) (us:List Vl),us.length=ps.length->bindArgs (W.fnOf py qual (uA st) (rQ st) (qd st) .none kV Xl pm an WQ ct) ⟨us,[]⟩=pure (ps.zip us)
def Qx(l:K.lookup f=some ⟨.type "function",od,.func (W.fnOf py qual (uA st) (rQ st) (qd st) .none kv dc pm an cd ct),sl⟩)(k:W.codeIn K cd qual=true)(hb:nq py qual st ps):
  DG K st py qual ps ⟨f,W.fnOf py qual (uA st) (rQ st) (qd st) .none kv dc pm an cd ct,ps⟩:=⟨rfl,KW l k (I0 l),(KW l k (I0 l)).binds hb,Ob l⟩
def qm(X:K.In h)(G:h.Ns mainGlobals mg)(a:W.nsIn K mainGlobals py=some (some (.ref f)))(l:K.lookup f=some ⟨.type "function",od,.func (W.fnOf py py (uA st) (rQ st) (qd st) .none kv dc pm an cd ct),sl⟩)(k:W.codeIn K cd py=true)(hb:nq py py st ps):
  TG K mg st py ps ⟨f,W.fnOf py py (uA st) (rQ st) (qd st) .none kv dc pm an cd ct,ps⟩:=⟨Qx l k hb,W.mg_of X G a⟩
def qa(a:W.findIn K (.ref C) py=some (some (.ref f)))(l:K.lookup f=some ⟨.type "function",od,.func (W.fnOf py qual (uA st) (rQ st) (qd st) .none kv dc pm an cd ct),sl⟩)(k:W.codeIn K cd qual=true)(hb:nq py qual st ps):
  MG K C st py qual ps ⟨f,W.fnOf py qual (uA st) (rQ st) (qd st) .none kv dc pm an cd ct,ps⟩:=⟨Qx l k hb,a⟩
def wA(X:K.In h)(G:h.Ns mainGlobals mg)(a:W.nsIn K mainGlobals py=some (some (.ref C)))(h1:W.plainGet K C Str.empty=true)(h2:W.hasDictIn K C=true)(h3:W.plainOver K C=true)(h4:W.findIn K (.ref C) "__setattr__"=some (some (.builtin "object.__setattr__"))):CG K mg py C:=⟨⟨h1,h2,h3,h4⟩,W.mg_of X G a⟩
def Pu{x:Str}{a:Addr}{es:List DictEntry}{ep:Nat}{T:List (Str×QQQ)}(h:mg x=some (.ref a))(s:(a==sysModules)=false)(l:K.lookup a=some ⟨.type "dict",none,.dict es.toArray ep,#[]⟩) (r:KTD.Rows (λ(ss:QQQ) v=>∃t,v=Value.ref t/\ve K (λ_=>none) t (ss.map V.str)) es T):Mg K mg x T:=⟨a,_,_,_,h,s,l,⟨rfl,rfl,rfl⟩,rfl,by simpa using r⟩
def Nf{P:Pg}{w:Wo}{base:Heap}{x qual y1 y2 fl:Str}{st:Stmt}{fa:FA}(F:DG K st x qual [y1,y2] fa)(S:s8 [y1,y2] [y1,y2] (qd st)) (hb:∀(WQ:Vl) (A:Ar) (outer:List Env) (s:Sd) (H:Hp) (E:XK),B6 (vp (Cr P w) P w K mg base [y1,y2] qual (qd st) fa.f WQ A outer s H E) (rQ st) (K4 K (Hi 0) (Hi 1) fl)):xw P w K mg base (Cr P w) 1 fa.f fa.d fa.p (wk K fl):=by
 rw[F.pe];exact Nz F.fn S hb
def Um(ds:List D)(M:Mp)(Q:DK):Prop:=match ds with
 | [.ref a]=>(oM M a).elim False λes=>(F2 es).elim False λbs=>Q (.bl (bs.any id)) M
 | _=>False
def QZ(hc:X.calm=true):C3 X (.builtin "any") Um:=by
 intro WH s σ H vs us Q' I rv h;obtain⟨ds,M,Q,hd,hm,q,k⟩:=h;unfold Um at q;split at q
 .rename_i a;obtain⟨v,rfl,hv⟩:=rO hd;obtain⟨es,e0,q⟩:=qX q;obtain⟨bs,e1,q⟩:=qX q;cases hv.mM;obtain⟨u,rfl,ru⟩:=xl rv;cases ru;obtain⟨xs,h1,h2,_⟩:=qy hm e0;obtain⟨its,r,pl,hz⟩:=I.list h1;have ZI:=FI e1 h2 r;subst ZI;have W8:a≠s.heap.objs.size:=by obtain⟨o,_,e,_⟩:=pl;exact dM (dA e)
  refine call_any_walk (gZ pl.isList ?_);refine⟨s.heap.objs.size,_,_,_,_,_,λi=>(bs[i]?).getD false,rfl,kr (A:=X.A.in1) (I.ok.hd hc) _ a W8 (bs.map Value.bool).toArray,⟨⟨_,dI _ rfl,rfl,rfl⟩,?_⟩,λi v s' Q E hP hQ=>?_,λh' tk hk=>?_⟩
  .obtain⟨o,n,e,c,d,q⟩:=pl;exact⟨o,de _ e,c,n,q⟩
  .simp only[iM,dD]at hP;cases e2:bs[i]? with
   | none=>rw[e2]at hP;cases hP
   | some b=>rw[e2]at hP;cases hP;have hQ:Q ((bs[i]?).getD false) s':=hQ;rw[e2]at hQ;exact fm hQ
  .have ea:(List.range (bs.map Value.bool).toArray.size).any (λi=>(bs[i]?).getD false)=bs.any id:=by
    rw[dw,cV];rw[gp,gz,gz];constructor
    .rintro ⟨i,hi,z⟩
     have X7:=gj.mp hi;rw[cX X7]at z;exact⟨_,ib X7,z⟩
    .rintro ⟨b,hb,z⟩
     obtain⟨i,hi,e⟩:=fS hb;refine⟨i,gj.mpr hi,?_⟩;rw[cX hi,e];exact z
   rw[ea];refine⟨.bl (bs.any id),H,?_,rfl,k _ _ _ _ .bl hm .refl q⟩;exact I.kept (h':=h') (t':=tk) λb o e=>hk b o (by simpa using dM (dA e)) (de _ e)
 .exact q.elim
def RY:bootBuiltins "any"=some (.builtin "any"):=by decide+kernel
variable {a b:Expr}{tb:T3}
def T7(n:Bool)(x y:D)(M:Mp)(Q:DK):Prop:=match x,y with
 | .bl i,.bl j=>Q (.bl (n ^^ (i==j))) M
 | _,_=>False
def Lo(i j:Bool):((Value.bool i==Value.bool j):Bool)=(i==j):=by cases i<;>cases j<;>rfl
def RP:xp X (compareOp .Is) (R3 X.K (T7 false)):=by
 intro WH s σ H vx vy v u Q' I rx ry h;obtain⟨x,y,M,Q,hx,hy,hm,q,k⟩:=h;unfold T7 at q;split at q
 .cases hx.mP;cases hy.mP;cases rx;cases ry;refine wpAny_is_plain rfl ?_;rw[Lo];rw[Bool.false_xor]at q;exact⟨.bl _,H,I,rfl,k _ _ _ _ .bl hm .refl q⟩
 .exact q.elim
def Po:xp X (compareOp .IsNot) (R3 X.K (T7 true)):=by
 intro WH s σ H vx vy v u Q' I rx ry h;obtain⟨x,y,M,Q,hx,hy,hm,q,k⟩:=h;unfold T7 at q;split at q
 .cases hx.mP;cases hy.mP;cases rx;cases ry;refine wpAny_isNot_plain rfl ?_;rw[Lo];rw[Bool.true_xor]at q;exact⟨.bl _,H,I,rfl,k _ _ _ _ .bl hm .refl q⟩
 .exact q.elim
def T8(n:Bool)(ta tb:T3):T3:=λδ M Q=>ta δ M λx M1=>tb δ M1 λy M2=>T7 n x y M2 Q
def MU(ha:E3 X a ta)(hb:E3 X b tb)(hm:behindInMarks .Is b=false:=by first|exact BZ _|with_unfolding_all rfl):E3 X (.Compare a [.Is] [b] pos) (T8 false ta tb):=PE.mono (Fk RP ha hb hm) EA
def Oi(ha:E3 X a ta)(hb:E3 X b tb)(hm:behindInMarks .IsNot b=false:=by first|exact BZ _|with_unfolding_all rfl):B3 X (.Compare a [.IsNot] [b] pos) (b3 (T8 true ta tb)):=PT.mono (D4 Po ha hb hm) λσ H Q' zz=>x7 zz λδ M Q hs hm ht k=>
 EA σ H _ ⟨δ,M,_,hs,hm,ht,λv H1 d M1 hd WJ e1 q1=>by
  cases d with
  | bl c=>exact⟨c,hd.mP,k c H1 M1 WJ e1 q1⟩
  | _=>exact q1.elim⟩
end L3
namespace L3
open L2
def KI(i:Nat){X:Cx}{pos:Pos}{x:Str}(h1:X.N[i]?=some x:=by rfl)(h2:Ud X.env.scope x:=by first|exact Or.inl rfl|exact Or.inr (Or.inl rfl)|exact Or.inr (Or.inr rfl))(h3:yU x:=by decide)(h4:(x==("__classdict__":Str))=false:=by decide):E3 X (.Name x pos) (v3 i):=SK i (pv i h1 h2 h3 h4)
variable {X:Cx}{pos:Pos}
def WE{N:QQQ}(h:decide N.Nodup=true):N.Nodup:=fK h
def pL(i:Nat){x:Str}{e:Expr}{te:T3}{WT:Pos}{ps:QQQ}{sc:Scope}(S:s8 X.N ps sc)(he:E3 X e te)(hi:X.N[i]?=some x:=by rfl)(hx:Lc X.env.scope x:=by first|exact Or.inl rfl|exact Or.inr rfl)(Yd:swapsWith e (some (.Name x WT)) pos.line X.env=pure false:=by rfl)(hf:Nq X x:=by first|exact .inl rfl|exact .inr rfl|assumption):S3 X (.Assign [.Name x WT] e pos) (Ab te (sP i)):=Si S.nd hi hx he Yd hf
def rh(i:Nat){x:Str}{ps:QQQ}{sc:Scope}(S:s8 X.N ps sc)(hi:X.N[i]?=some x:=by rfl)(hx:Lc X.env.scope x:=by first|exact Or.inl rfl|exact Or.inr rfl)(hf:Nq X x:=by first|exact .inl rfl|exact .inr rfl|assumption):G3 X (.Name x pos) (sP i):=Jf S.nd hi hx hf
def qG(i:Nat){x:Str}(hN:decide X.N.Nodup=true:=by kernel_rfl)(hi:X.N[i]?=some x:=by rfl)(hx:Lc X.env.scope x:=by first|exact Or.inl rfl|exact Or.inr rfl)(hf:Nq X x:=by first|exact .inl rfl|exact .inr rfl|assumption):G3 X (.Name x pos) (sP i):=Jf (WE hN) hi hx hf
abbrev Sc(n:Nat)(N:QQQ)(s:Stmt):=s8 N (N.take n) (qd s)
def sk{n:Nat}{N:QQQ}{s:Stmt}(h:SN N (N.take n) (qd s)=true:=by decide+kernel):Sc n N s:=Wx h
def qe{X:Cx}{e0:Expr}{t0:T3}(h0:E3 X e0 t0)(g0:starEach [e0] X.env=(false,eval e0 X.env)::starEach [] X.env:=by rfl):A3 X [e0] (sf t0 uT):=(pV h0 sX g0)
def rX{X:Cx}{e0 e1:Expr}{t0 t1:T3}(h0:E3 X e0 t0)(h1:E3 X e1 t1)(g0:starEach [e0,e1] X.env=(false,eval e0 X.env)::starEach [e1] X.env:=by rfl)(g1:starEach [e1] X.env=(false,eval e1 X.env)::starEach [] X.env:=by rfl):A3 X [e0,e1] (sf t0 (sf t1 uT)):=(pV h0 (pV h1 sX g1) g0)
def rb{X:Cx}{e0 e1 e2:Expr}{t0 t1 t2:T3}(h0:E3 X e0 t0)(h1:E3 X e1 t1)(h2:E3 X e2 t2)(g0:starEach [e0,e1,e2] X.env=(false,eval e0 X.env)::starEach [e1,e2] X.env:=by rfl)(g1:starEach [e1,e2] X.env=(false,eval e1 X.env)::starEach [e2] X.env:=by rfl)(g2:starEach [e2] X.env=(false,eval e2 X.env)::starEach [] X.env:=by rfl):A3 X [e0,e1,e2] (sf t0 (sf t1 (sf t2 uT))):=(pV h0 (pV h1 (pV h2 sX g2) g1) g0)
abbrev v0:=@KI 0
abbrev U1:=@KI 1
abbrev U2:=@KI 2
abbrev U3:=@KI 3
abbrev v5:=@KI 5
abbrev v4:=@KI 4
abbrev v6:=@KI 6
abbrev v7:=@KI 7
abbrev v8:=@KI 8
abbrev v9:=@KI 9
abbrev WD:=@KI 10
abbrev Wv:=@KI 11
variable {P:Pg}{w:Wo}{K:qu}{mg:QQZ}{base:Heap}
def fq{x qual:Str}{st:Stmt}{fa:FA}{N ps:QQQ}{k:Nat}{sp:rf}(F:DG K st x qual ps fa)(S:s8 N ps (qd st)) (hb:∀{WQ:Vl} {A:Ar} {outer:List Env} {s:Sd} {H:Hp} {E:XK},r6 k (A.deeper (envOfC qual (qd st) s.heap.objs.size fa.f WQ))->(A.deeper (envOfC qual (qd st) s.heap.objs.size fa.f WQ)).units+9<cLine->
   ∃t,G6 (vp NF P w K mg base N qual (qd st) fa.f WQ A outer s H E).ow (rQ st) t/\∀ds M Q,sp ds M Q->t {nx:=λ_ M'=>∃WL,qr WL M'/\Q .mS WL,rt:=λd M'=>∃WL,qr WL M'/\Q d WL} (xc N ds) M) (len:∀ds M Q,sp ds M Q->ds.length=ps.length:=by walk_at "l"):Fq P w K mg base (k+1) fa sp:=Vt F S len λ_ _ _ _ _ _ h=>hb h (V4 h)
def xy{X:Cx}{scope:Scope}{ix:List (Option Nat)}{N':QQQ}(h:G9 X.env.scope X.N scope ix N'=true:=by kernel_rfl):sr X scope ix N':=Ua h
end L3
namespace Z
open L2 L3
def qY(i:Nat):Stmt:=PySem.Challenge.pw_callboard_k14_busy_and_wait.main.body.getD i (.Pass ⟨0,0,0,0⟩)
abbrev tm(i j:Nat):Stmt:=Pb (qY i) j
def G':Sc 3 ["board","caller","target"] (qY 5):=sk
def BY:Sc 1 ["told","word"] (qY 16):=sk
def zR:Sc 1 ["answers"] (qY 18):=sk
def FP:Sc 2 ["call","word"] (qY 20):=sk
def Dd:Sc 2 ["call","phone"] (qY 21):=sk
def xB:Sc 2 ["call","event","word"] (qY 22):=sk
def xo:Sc 1 ["call","lists"] (qY 24):=sk
def Cq:Sc 1 ["board","calls"] (qY 25):=sk
def BA:Sc 3 ["board","caller","target","wishes"] (qY 27):=sk
def tD:Sc 3 ["board","caller","target","free","members","place","in_turn"] (qY 28):=sk
def vc:Sc 3 ["board","caller","target","phones"] (qY 29):=sk
def zX:Sc 2 ["wanted","target"] (qY 30):=sk
def wm:Sc 4 ["board","caller","target","way","come_to","steps","fits","wanted"] (qY 31):=sk
def yJ:Sc 2 ["board","phone"] (qY 33):=sk
def wg:Sc 3 ["board","phone","target","word"] (qY 34):=sk
def KN:Sc 3 ["word","phone","calls"] (qY 35):=sk
def tU:Sc 4 ["board","word","phone","numbers","calls","due"] (qY 36):=sk
def yG:Sc 3 ["board","word","number"] (qY 37):=sk
def BX:Sc 2 ["board","deed","word"] (qY 38):=sk
def tY:Sc 3 ["board","number","steps","last","target","fits"] (qY 39):=sk
def uJ:Sc 4 ["board","number","target","phones","members","place"] (qY 40):=sk
def xH:Sc 3 ["board","number","target","talk","members"] (qY 41):=sk
def xO:Sc 3 ["board","number","end","word"] (qY 42):=sk
def wj:Sc 2 ["board","number","call","told","end","steps","last"] (qY 43):=sk
def zv:Sc 3 ["board","phone","target","number"] (qY 44):=sk
def Cm:Sc 3 ["board","phone","number","call"] (qY 45):=sk
def yq:Sc 2 ["board","call","wishes"] (qY 46):=sk
def Cv:Sc 3 ["board","number","fits","wish"] (qY 47):=sk
def tM:Sc 1 ["board","number","call","fits"] (qY 48):=sk
def tE:Sc 2 ["board","deed","word","phone","number","call","kept","others"] (qY 49):=sk
def Mc:Sc 2 ["board","deed","word"] (qY 50):=sk
def Ho:Sc 2 ["board","deed","word","begun"] (qY 51):=sk
def N8:Sc 2 ["holds","words"] (qY 66):=sk
def He:Sc 1 ["text"] (qY 67):=sk
def Dn:Sc 1 ["things"] (qY 68):=sk
def EB:Sc 3 ["chosen","known","most"] (qY 69):=sk
def uf:Sc 1 ["phones","name","lines","rank"] (qY 70):=sk
def ue:Sc 2 ["groups","phone_names","name","manner","members"] (qY 71):=sk
def Dj:Sc 4 ["kind","part","phone_names","names"] (qY 72):=sk
def ua:Sc 3 ["wish","phone_names","names","form","parts","kind","part"] (qY 73):=sk
def uX:Sc 3 ["wishes","phone_names","names","on","wish"] (qY 74):=sk
def wb:Sc 3 ["phones","groups","wishes","phone_names","names"] (qY 75):=sk
def JX:Sc 2 ["_law_script","_law_k"] (qY 78):=sk
def Gg:Sc 3 ["_law_cell","_law_factor","_law_many"] (qY 79):=sk
def um:Sc 2 ["_law_seed","_law_which","_law_letters","_law_size","_law_place","_law_rest","_law_sign"] (qY 80):=sk
def xS:Sc 3 ["_law_row","_law_cell","_law_most","_law_first","_law_size"] (qY 81):=sk
def uO:Sc 2 ["_law_seed","_law_most","_law_phones_here","_law_k","_law_lines"] (qY 82):=sk
def uP:Sc 2 ["_law_seed","_law_own","_law_groups_here","_law_g","_law_manner"] (qY 83):=sk
def tz:Sc 3 ["_law_cell","_law_own","_law_names","_law_a","_law_place","_law_b","_law_c","_law_pick","_law_first"] (qY 84):=sk
def sC:Sc 2 ["_law_script","_law_most","_law_seed","_law_phones_here","_law_own","_law_groups_here","_law_names","_law_wishes","_law_k","_law_cell"] (qY 85):=sk
def Dk:Sc 1 ["_law_call"] (qY 86):=sk
def AS:Sc 2 ["_law_board","_law_states"] (qY 87):=sk
def rD:Sc 4 ["_law_board","_law_cell","_law_word_here","_law_states","_law_some_here","_law_k","_law_people_here","_law_a","_law_m"] (qY 88):=sk
def uK:Sc 4 ["_law_cell","_law_own","_law_names","_law_many","_law_a","_law_b","_law_k","_law_m","_law_some_here"] (qY 89):=sk
def rC:Sc 4 ["_law_board","_law_cell","_law_own","_law_names","_law_word_here","_law_states","_law_found","_law_a"] (qY 90):=sk
def xK:Sc 2 ["_law_board","_law_deed_here","_law_fine"] (qY 91):=sk
def Ku:Sc 2 ["_law_call","_law_phone"] (qY 92):=sk
def rc:Sc 4 ["_law_board","_law_made","_law_caller","_law_target","_law_members","_law_name","_law_manner","_law_some_here","_law_lines","_law_rank"] (qY 93):=sk
def Gh:Sc 2 ["_law_found","_law_due"] (qY 94):=sk
def E5:Sc 2 ["_law_board","_law_phone"] (qY 95):=sk
def rP:Sc 4 ["_law_board","_law_made","_law_own","_law_names","_law_target","_law_busy","_law_silent","_law_caller","_law_full","_law_due","_law_one","_law_other"] (qY 96):=sk
def wK:Sc 1 ["_law_script","_law_made","_law_whole","_law_own","_law_names","_law_board","_law_k","_law_cell","_law_before"] (qY 97):=sk
def Cg:Sc 2 ["self","word"] (tm 3 0):=sk
def E9:Sc 4 ["self","phones","groups","wishes"] (tm 76 0):=sk
def CU:Sc 3 ["self","plan","hour"] (tm 23 0):=sk
def Gj:Sc 2 ["self","told"] (tm 7 0):=sk
def FZ:Sc 4 ["self","board","caller","target"] (tm 7 2):=sk
def FJ:Sc 2 ["self","told"] (tm 8 0):=sk
def Em:Sc 4 ["self","board","caller","target"] (tm 8 2):=sk
def A8:Sc 2 ["self","told"] (tm 9 0):=sk
def B1:Sc 4 ["self","board","caller","target"] (tm 10 0):=sk
def CO:Sc 2 ["self","told"] (tm 11 0):=sk
def CW:Sc 4 ["self","board","caller","target"] (tm 11 2):=sk
def EL:Sc 4 ["self","board","caller","target"] (tm 12 0):=sk
def Bq:Sc 2 ["self","told"] (tm 13 0):=sk
def Cp:Sc 4 ["self","board","caller","target"] (tm 13 1):=sk
def FD:Sc 2 ["self","told"] (tm 14 0):=sk
def FE:Sc 4 ["self","board","caller","target"] (tm 14 2):=sk
def B5:Sc 2 ["self","told"] (tm 15 0):=sk
def vv:Sc 4 ["self","board","caller","target","talk","members"] (tm 15 3):=sk
def z9:Sc 2 ["self","phone"] (tm 23 3):=sk
def Ff:Sc 2 ["self","told"] (tm 6 0):=sk
def zc:Sc 2 ["self","hour"] (tm 11 1):=sk
def zA:Sc 1 ["self"] (tm 23 8):=sk
def yV:Sc 2 ["self","phone"] (tm 23 6):=sk
def yk:Sc 1 ["self"] (tm 76 2):=sk
def vq:Sc 3 ["self","plan","members","rank"] (tm 15 2):=sk
def xI:Sc 2 ["self","event","word"] (tm 23 12):=sk
def zu:Sc 3 ["self","caller","target"] (tm 23 7):=sk
def EV:Sc 2 ["self","phone"] (tm 76 4):=sk
def CY:Sc 1 ["self"] (tm 76 1):=sk
def Ak:Sc 2 ["self","phone"] (tm 23 2):=sk
def El:Sc 2 ["self","caller"] (tm 19 0):=sk
def yE:Sc 2 ["self","phone"] (tm 19 2):=sk
def yS:Sc 2 ["self","phone"] (tm 19 5):=sk
def ym:Sc 2 ["self","phone"] (tm 19 4):=sk
def zO:Sc 2 ["self","leg"] (tm 23 10):=sk
def xG:Sc 4 ["self","merged","kept","members","call"] (tm 23 11):=sk
def vt:Sc 1 ["self","call"] (tm 23 9):=sk
def yM:Sc 2 ["self","phone"] (tm 19 8):=sk
def zI:Sc 2 ["self","name"] (tm 76 5):=sk
def Cn:Sc 2 ["self","phone"] (tm 23 4):=sk
def An:Sc 2 ["self","phone"] (tm 23 5):=sk
def Dc:Sc 2 ["self","phone"] (tm 23 1):=sk
def C9:Sc 2 ["self","phone"] (tm 76 3):=sk
def xg:Sc 2 ["self","phone"] (tm 19 7):=sk
def C4:Sc 2 ["self","phone"] (tm 19 6):=sk
def Bv:Sc 2 ["self","call"] (tm 6 4):=sk
def Ac:Sc 2 ["self","call"] (tm 13 2):=sk
def Eo:Sc 1 ["self"] (tm 6 1):=sk
def CS:Sc 2 ["self","phone"] (tm 19 3):=sk
def GU:Sc 2 ["self","phone"] (tm 19 1):=sk
def EG:Sc 1 ["self"] (tm 7 1):=sk
def Dm:Sc 1 ["self"] (tm 8 1):=sk
def zU:Sc 1 ["self"] (tm 9 1):=sk
def CZ:Sc 1 ["self"] (tm 14 1):=sk
def A6:Sc 1 ["self"] (tm 15 1):=sk
def Cw:Sc 2 ["self","name"] (tm 76 6):=sk
noncomputable def Kv:List (Str×QQQ):=[("bar",["phone","names"]),("shut",["name","phones"]),("always",["name","name"]),("night",["name","name","hour","hour"]),("busy",["name","name"]),("silent",["name","name","turns"]),("wait",["phone"]),("breaks",["phone"])]
set_option genInjectivity false in
structure Ad where
 (L F M aa aQ aR aS ab aT aU aV aW aX ac aY aZ a0 a1 a2 a3 a4 a5 a6 ad a7 a8 a9 ba bb bc bd N m ae af O be bf bg bh bi bj P i ag Q bk bl bm bn bo bp bq br bs bt bu bv ah bw bx ai I aj ak al am an ao B ap aq ar au av aw ax ay az aA R H bz bA bB S bC k aB aC bD T aD U aE V bE bF bG aF X bH bI bJ bK bL aG q aH l bM bN aI aJ A aK aL aM:FA)
 (C r t Y w n x u v o e c h b3 J:Addr)
structure Gl(K:qu)(mg:QQZ)(a:Ad):Prop where
 C:CG K mg "Wish" a.C
 r:CG K mg "Bar" a.r
 t:CG K mg "Shut" a.t
 Y:CG K mg "Forward" a.Y
 w:CG K mg "Always" a.w
 n:CG K mg "Night" a.n
 x:CG K mg "Busy" a.x
 u:CG K mg "Silent" a.u
 v:CG K mg "Wait" a.v
 o:CG K mg "Breaks" a.o
 e:CG K mg "Call" a.e
 c:CG K mg "Board" a.c
 h:CG K mg "Plan" a.h
 cU:mg "CallError"=some (.ref a.b3)
 bW:mg "NoDeed"=some (.ref a.J)
 L:TG K mg (qY 5) "is_busy" ["board","caller","target"] a.L
 F:TG K mg (qY 16) "wish_of" ["told"] a.F
 M:TG K mg (qY 18) "place_of_true" ["answers"] a.M
 aa:TG K mg (qY 20) "end_call" ["call","word"] a.aa
 aQ:TG K mg (qY 21) "drop_phone" ["call","phone"] a.aQ
 aR:TG K mg (qY 22) "change_call" ["call","event"] a.aR
 aS:TG K mg (qY 24) "call_picture" ["call"] a.aS
 ab:TG K mg (qY 25) "picture" ["board"] a.ab
 aT:TG K mg (qY 27) "fitting" ["board","caller","target"] a.aT
 aU:TG K mg (qY 28) "rung_phones" ["board","caller","target"] a.aU
 aV:TG K mg (qY 29) "end_without_wish" ["board","caller","target"] a.aV
 aW:TG K mg (qY 30) "end_as_wanted" ["wanted","target"] a.aW
 aX:TG K mg (qY 31) "route" ["board","caller","target","way"] a.aX
 ac:TG K mg (qY 33) "word_for_idling" ["board","phone"] a.ac
 aY:TG K mg (qY 34) "word_for_call" ["board","phone","target"] a.aY
 aZ:TG K mg (qY 35) "suits" ["word","phone","calls"] a.aZ
 a0:TG K mg (qY 36) "word_for_numbers" ["board","word","phone","numbers"] a.a0
 a1:TG K mg (qY 37) "word_for_switch" ["board","word","number"] a.a1
 a2:TG K mg (qY 38) "refusal" ["board","deed"] a.a2
 a3:TG K mg (qY 39) "take_steps" ["board","number","steps"] a.a3
 a4:TG K mg (qY 40) "start_ringing" ["board","number","target","phones"] a.a4
 a5:TG K mg (qY 41) "break_in" ["board","number","target"] a.a5
 a6:TG K mg (qY 42) "come_to_end" ["board","number","end"] a.a6
 ad:TG K mg (qY 43) "go_on" ["board","number"] a.ad
 a7:TG K mg (qY 44) "make_call" ["board","phone","target"] a.a7
 a8:TG K mg (qY 45) "hang_up" ["board","phone","number"] a.a8
 a9:TG K mg (qY 46) "due_wishes" ["board","call"] a.a9
 ba:TG K mg (qY 47) "send_on" ["board","number","fits"] a.ba
 bb:TG K mg (qY 48) "let_turn_pass" ["board"] a.bb
 bc:TG K mg (qY 49) "event_of" ["board","deed"] a.bc
 bd:TG K mg (qY 50) "act" ["board","deed"] a.bd
 N:TG K mg (qY 51) "do" ["board","deed"] a.N
 m:TG K mg (qY 66) "need" ["holds","words"] a.m
 ae:TG K mg (qY 67) "is_name" ["text"] a.ae
 af:TG K mg (qY 68) "all_unlike" ["things"] a.af
 O:TG K mg (qY 69) "is_choice" ["chosen","known","most"] a.O
 be:TG K mg (qY 70) "check_phones" ["phones"] a.be
 bf:TG K mg (qY 71) "check_groups" ["groups","phone_names"] a.bf
 bg:TG K mg (qY 72) "part_holds" ["kind","part","phone_names","names"] a.bg
 bh:TG K mg (qY 73) "check_wish" ["wish","phone_names","names"] a.bh
 bi:TG K mg (qY 74) "check_wishes" ["wishes","phone_names","names"] a.bi
 bj:TG K mg (qY 75) "check_plan" ["phones","groups","wishes"] a.bj
 P:TG K mg (qY 78) "_law_at" ["_law_script","_law_k"] a.P
 i:TG K mg (qY 79) "_law_draw" ["_law_cell","_law_factor","_law_many"] a.i
 ag:TG K mg (qY 80) "_law_word" ["_law_seed","_law_which"] a.ag
 Q:TG K mg (qY 81) "_law_some" ["_law_row","_law_cell","_law_most"] a.Q
 bk:TG K mg (qY 82) "_law_phones" ["_law_seed","_law_most"] a.bk
 bl:TG K mg (qY 83) "_law_groups" ["_law_seed","_law_own"] a.bl
 bm:TG K mg (qY 84) "_law_wish" ["_law_cell","_law_own","_law_names"] a.bm
 bn:TG K mg (qY 85) "_law_plan" ["_law_script","_law_most"] a.bn
 bo:TG K mg (qY 86) "_law_people" ["_law_call"] a.bo
 bp:TG K mg (qY 87) "_law_of_state" ["_law_board","_law_states"] a.bp
 bq:TG K mg (qY 88) "_law_on_call" ["_law_board","_law_cell","_law_word_here","_law_states"] a.bq
 br:TG K mg (qY 89) "_law_any" ["_law_cell","_law_own","_law_names","_law_many"] a.br
 bs:TG K mg (qY 90) "_law_deed" ["_law_board","_law_cell","_law_own","_law_names"] a.bs
 bt:TG K mg (qY 91) "_law_done" ["_law_board","_law_deed_here"] a.bt
 bu:TG K mg (qY 92) "_law_in" ["_law_call","_law_phone"] a.bu
 bv:TG K mg (qY 93) "_law_is_busy" ["_law_board","_law_made","_law_caller","_law_target"] a.bv
 ah:TG K mg (qY 94) "_law_flag" ["_law_found","_law_due"] a.ah
 bw:TG K mg (qY 95) "_law_waits" ["_law_board","_law_phone"] a.bw
 bx:TG K mg (qY 96) "_law_right" ["_law_board","_law_made","_law_own","_law_names"] a.bx
 ai:TG K mg (qY 97) "law" ["_law_script"] a.ai
 I:MG K a.J (tm 3 0) "__init__" "NoDeed.__init__" ["self","word"] a.I
 aj:MG K a.h (tm 76 0) "__init__" "Plan.__init__" ["self","phones","groups","wishes"] a.aj
 ak:MG K a.c (tm 23 0) "__init__" "Board.__init__" ["self","plan","hour"] a.ak
 al:MG K a.r (tm 7 0) "__init__" "Bar.__init__" ["self","told"] a.al
 am:MG K a.r (tm 7 2) "fits" "Bar.fits" ["self","board","caller","target"] a.am
 an:MG K a.t (tm 8 0) "__init__" "Shut.__init__" ["self","told"] a.an
 ao:MG K a.t (tm 8 2) "fits" "Shut.fits" ["self","board","caller","target"] a.ao
 B:MG K a.Y (tm 9 0) "__init__" "Forward.__init__" ["self","told"] a.B
 ap:MG K a.w (tm 10 0) "fits" "Always.fits" ["self","board","caller","target"] a.ap
 aq:MG K a.n (tm 11 0) "__init__" "Night.__init__" ["self","told"] a.aq
 ar:MG K a.n (tm 11 2) "fits" "Night.fits" ["self","board","caller","target"] a.ar
 au:MG K a.x (tm 12 0) "fits" "Busy.fits" ["self","board","caller","target"] a.au
 av:MG K a.u (tm 13 0) "__init__" "Silent.__init__" ["self","told"] a.av
 aw:MG K a.u (tm 13 1) "fits" "Silent.fits" ["self","board","caller","target"] a.aw
 ax:MG K a.v (tm 14 0) "__init__" "Wait.__init__" ["self","told"] a.ax
 ay:MG K a.v (tm 14 2) "fits" "Wait.fits" ["self","board","caller","target"] a.ay
 az:MG K a.o (tm 15 0) "__init__" "Breaks.__init__" ["self","told"] a.az
 aA:MG K a.o (tm 15 3) "fits" "Breaks.fits" ["self","board","caller","target"] a.aA
 R:MG K a.c (tm 23 3) "talk_of" "Board.talk_of" ["self","phone"] a.R
 H:MG K a.C (tm 6 0) "__init__" "Wish.__init__" ["self","told"] a.H
 bz:MG K a.n (tm 11 1) "has_hour" "Night.has_hour" ["self","hour"] a.bz
 bA:MG K a.c (tm 23 8) "hour_now" "Board.hour_now" ["self"] a.bA
 bB:MG K a.c (tm 23 6) "waits_at" "Board.waits_at" ["self","phone"] a.bB
 S:MG K a.h (tm 76 2) "phone_names" "Plan.phone_names" ["self"] a.S
 bC:MG K a.o (tm 15 2) "outranks" "Breaks.outranks" ["self","plan","members"] a.bC
 k:MG K a.c (tm 23 12) "apply" "Board.apply" ["self","event"] a.k
 aB:MG K a.c (tm 23 7) "ringable" "Board.ringable" ["self","caller","target"] a.aB
 aC:MG K a.h (tm 76 4) "rank" "Plan.rank" ["self","phone"] a.aC
 bD:MG K a.h (tm 76 1) "names" "Plan.names" ["self"] a.bD
 T:MG K a.c (tm 23 2) "is_free" "Board.is_free" ["self","phone"] a.T
 aD:MG K a.e (tm 19 0) "__init__" "Call.__init__" ["self","caller"] a.aD
 U:MG K a.e (tm 19 2) "talks_with" "Call.talks_with" ["self","phone"] a.U
 aE:MG K a.e (tm 19 5) "waits_with" "Call.waits_with" ["self","phone"] a.aE
 V:MG K a.e (tm 19 4) "is_tried_by" "Call.is_tried_by" ["self","phone"] a.V
 bE:MG K a.c (tm 23 10) "add_leg" "Board.add_leg" ["self","leg"] a.bE
 bF:MG K a.c (tm 23 11) "merge" "Board.merge" ["self","merged","kept","members"] a.bF
 bG:MG K a.c (tm 23 9) "pass_turn" "Board.pass_turn" ["self"] a.bG
 aF:MG K a.e (tm 19 8) "other_than" "Call.other_than" ["self","phone"] a.aF
 X:MG K a.h (tm 76 5) "phones_of" "Plan.phones_of" ["self","name"] a.X
 bH:MG K a.c (tm 23 4) "bound" "Board.bound" ["self","phone"] a.bH
 bI:MG K a.c (tm 23 5) "calling" "Board.calling" ["self","phone"] a.bI
 bJ:MG K a.c (tm 23 1) "used" "Board.used" ["self","phone"] a.bJ
 bK:MG K a.h (tm 76 3) "lines" "Plan.lines" ["self","phone"] a.bK
 bL:MG K a.e (tm 19 7) "can_be_left_by" "Call.can_be_left_by" ["self","phone"] a.bL
 aG:MG K a.e (tm 19 6) "pairs" "Call.pairs" ["self","phone"] a.aG
 q:MG K a.C (tm 6 4) "is_due" "Wish.is_due" ["self","call"] a.q
 aH:MG K a.u (tm 13 2) "is_due" "Silent.is_due" ["self","call"] a.aH
 l:MG K a.C (tm 6 1) "told" "Wish.told" ["self"] a.l
 bM:MG K a.e (tm 19 3) "binds" "Call.binds" ["self","phone"] a.bM
 bN:MG K a.e (tm 19 1) "has" "Call.has" ["self","phone"] a.bN
 aI:MG K a.r (tm 7 1) "wants" "Bar.wants" ["self"] a.aI
 aJ:MG K a.t (tm 8 1) "wants" "Shut.wants" ["self"] a.aJ
 A:MG K a.Y (tm 9 1) "wants" "Forward.wants" ["self"] a.A
 aK:MG K a.v (tm 14 1) "wants" "Wait.wants" ["self"] a.aK
 aL:MG K a.o (tm 15 1) "wants" "Breaks.wants" ["self"] a.aL
 aM:MG K a.h (tm 76 6) "manner" "Plan.manner" ["self","name"] a.aM
 b4:Jq K a.J a.I.f
 b5:yB K a.J "word"
 b6:W.exmOne K (.ref a.J) (.ref a.J)=some true
 b7:Mk K a.h a.aj.f
 b8:Mk K a.c a.ak.f
 b9:Mk K a.r a.al.f
 ca:Mk K a.t a.an.f
 cb:Mk K a.w a.B.f
 cc:Mk K a.n a.aq.f
 cd:Mk K a.x a.B.f
 ce:Mk K a.u a.av.f
 cf:Mk K a.v a.ax.f
 cg:Mk K a.o a.az.f
 ch:Mk K a.e a.aD.f
 ci:vF K a.r "is_due" a.q.f
 cj:vF K a.t "is_due" a.q.f
 ck:vF K a.w "is_due" a.q.f
 cl:vF K a.n "is_due" a.q.f
 cm:vF K a.x "is_due" a.q.f
 cn:vF K a.v "is_due" a.q.f
 co:vF K a.o "is_due" a.q.f
 cp:vF K a.r "told" a.l.f
 cq:vF K a.t "told" a.l.f
 cr:vF K a.w "told" a.l.f
 cs:vF K a.n "told" a.l.f
 ct:vF K a.x "told" a.l.f
 cu:vF K a.u "told" a.l.f
 cv:vF K a.v "told" a.l.f
 cw:vF K a.o "told" a.l.f
 cx:vF K a.w "wants" a.A.f
 cy:vF K a.n "wants" a.A.f
 cz:vF K a.x "wants" a.A.f
 cA:vF K a.u "wants" a.A.f
 aN:MV K a.C "__init__" a.H.f
 bX:MV K a.Y "__init__" a.B.f
 Z:zG K a.h ["phones","groups","wishes","on","phone_rows","group_rows"]
 E:zG K a.c ["plan","hour","turn","calls","legs","nexts","on","log"]
 bR:zG K a.r ["form","phone","targets"]
 bS:zG K a.t ["form","target","callers"]
 bT:zG K a.w ["form","target","goal"]
 aO:zG K a.n ["form","target","goal","first","last"]
 bU:zG K a.x ["form","target","goal"]
 bO:zG K a.u ["form","target","goal","turns"]
 bY:zG K a.v ["form","phone"]
 bZ:zG K a.o ["form","phone"]
 j:zG K a.e ["state","caller","way","at","members","holder","since","word"]
 cB:W.kitOne K (.type "bool") (.type "bool")=some true
 bP:mg "enumerate"=none
 g:mg "len"=none
 y:mg "list"=none
 aP:mg "range"=none
 bV:mg "dict"=none
 z:mg "tuple"=none
 cC:mg "sorted"=none
 b0:mg "int"=none
 cD:mg "isinstance"=none
 cE:mg "bool"=none
 cF:mg "min"=none
 cG:mg "set"=none
 bQ:mg "all"=none
 cH:mg "zip"=none
 cI:mg "any"=none
 cJ:KD K mg "MOST_PHONES" (.int 8)
 cK:KD K mg "MOST_LINES" (.int 3)
 cL:KD K mg "MOST_RANK" (.int 9)
 cM:KD K mg "MOST_GROUPS" (.int 3)
 cN:KD K mg "MANNERS" (.tup ((["all","turns"]:QQQ).map D.str))
 cO:KD K mg "MOST_MEMBERS" (.int 4)
 cP:KD K mg "MOST_WISHES" (.int 16)
 cQ:KD K mg "MOST_SIGNS" (.int 6)
 cR:KD K mg "LETTERS" (.str "abcdefghijklmnopqrstuvwxyz")
 b1:Mg K mg "FORMS" Kv
 b2:KD K mg "MOST_LISTED" (.int 6)
 cS:KD K mg "LAST_HOUR" (.int 23)
 cT:KD K mg "MOST_TURNS" (.int 9)
noncomputable def qA(c f m:Int):Int:=(c % 2147483647+5)*f % 2147483629 / 89 % m
def qU{c f m:Int}(h:0<m):0<=qA c f m:=eP _ (by omega)
def qL{c f m:Int}(h:0<m):qA c f m<m:=eM _ h
def Iu:rf:=λds M Q=>CQ λc f m=>ds=[.int c,.int f,.int m]/\0<m/\Q (.int (qA c f m)) M
noncomputable def uu:Str:="abcdefghijklmnopqrstuvwxyz"
noncomputable def ug(i:Int):Str:=⟨#[97+i.toNat]⟩
noncomputable def size(s:Int):Int:=1+s % 6
noncomputable def ux(s:Int):Int:=s / 6 % size s
noncomputable def x8(s v:Int):Str:=yy (ug (s / 36 % 26)) (ux s)++ug ((s / 936+v) % 26)++yy (ug (s / 36 % 26)) (size s - 1 - ux s)
def Pa:rf:=λds M Q=>BO λs v=>ds=[.int s,.int v]/\Q (.str (x8 s v)) M
noncomputable def cell(ns:List Int)(i:Int):Int:=if 0<=i/\i<ns.length then ns.getD i.toNat 0 else 0
def TL:rf:=λds M Q=>BO λns i=>ds=[.rl (ns.map D.int),.int i]/\Q (.int (cell ns i)) M
def Gi(c:Int):0<size c:=by unfold size;have:=eP c (show(6:Int)≠0 by decide);omega
def IG(c:Int):size c<=6:=by unfold size;have:=eM c (show(0:Int)<6 by decide);omega
def FT(i n:Int):(yy (ug i) n).length=n.toNat:=by show((List.replicate n.toNat (ug i).cps).foldl (·++·) #[]:Array Nat).size=n.toNat;rw[Jd];show n.toNat*1=n.toNat;omega
def AC:uu.length<=sizeLine:=by decide+kernel
variable {P:Pg}{w:Wo}{K:qu}{mg:QQZ}{base:Heap}{a:Ad}(G:Gl K mg a)
def qK:Fq P w K mg base 1 a.i Iu:=by
 refine fq G.i.toDG Gg (λr u=>⟨_,(pk (pD (pU (pU (pU (pU (pU (pU v0 pz) pz) U1) pz) pz) U2))),?_⟩)
 rintro ds M Q ⟨c,f,m,rfl,hm,q⟩
 refine⟨by decide,.inl ?_,by decide,⟨by decide,by decide⟩,hm,M,.refl,q⟩;have h1:0<=c % 2147483647:=eP _ (by decide);have h2:c % 2147483647<2147483647:=eM _ (by decide);exact⟨by omega,by omega⟩
def DM{i:Int}(h0:0<=i)(h1:i<26):vC uu.cps.toList i=some (97+i.toNat):=by
 obtain⟨n,rfl⟩:=eC h0;have hn:n<26:=by omega
 have key:∀n:_root_.Fin 26,vC uu.cps.toList ((n.val:Nat):Int)=some (97+n.val):=by decide+kernel
 exact key ⟨n,hn⟩
def IZ:Fq P w K mg base 1 a.ag Pa:=by
 refine fq G.ag.toDG um (λr u=>⟨_,(pj (pL 2 um pA)
 (pj (pL 3 um (pU pz (pU v0 pz)))
 (pj (pL 4 um (pU (pU v0 pz) U3))
 (pj (pL 5 um (pK U2 (pU (pU v0 pz) pz)))
 (pj (pL 6 um (pK U2 (pU (pU (pU v0 pz) U1) pz)))
 (pk (pD (pU (pU (pU v5 v4) v6) (pU v5 (pU (pU U3 pz) v4)))))))))),?_⟩)
 rintro ds M Q ⟨c,v,rfl,q⟩
 have hs:=Gi c;have hs6:=IG c;have hp0:0<=ux c:=eP _ (by omega);have X9:ux c<size c:=eM _ hs;have l1:=FT (c / 36 % 26) (ux c);have l2:=FT (c / 36 % 26) (size c - 1 - ux c);have hz:=dN;refine⟨by decide,⟨by decide,by decide⟩,hs,⟨by decide,by decide⟩,by decide,AC,i' (DM (eP _ (by decide)) (eM _ (by decide))) ?_⟩;refine⟨⟨by decide,by decide⟩,by decide,AC,i' (DM (eP _ (by decide)) (eM _ (by decide))) ?_⟩;refine⟨⟨?_,?_,?_⟩,?_,⟨?_,?_,?_⟩,?_,M,.refl,q⟩
 .show ux c<4096;omega
 .show -4096<ux c;omega
 .show(1:Nat)<4096;decide
 .show(yy (ug (c / 36 % 26)) (ux c)).length+1<=sizeLine;omega
 .show size c - 1 - ux c<4096;omega
 .show -4096<size c - 1 - ux c;omega
 .show(1:Nat)<4096;decide
 .show(yy (ug (c / 36 % 26)) (ux c)++ug ((c / 936+v) % 26)).length+(yy (ug (c / 36 % 26)) (size c - 1 - ux c)).length<=sizeLine;rw[PySem.size_cat];have:(ug ((c / 936+v) % 26)).length=1:=rfl;omega
def KZ:Fq P w K mg base 1 a.P TL:=by
 refine fq G.P.toDG JX (λr u=>⟨_,(pj (pQ (Gv u pz U1 (pS qx rfl G.g qv (qe v0)))
 (pk (pD (pK v0 U1)))
 pJ)
 (pk (pD pz))),?_⟩)
 rintro ds M Q ⟨ns,i,rfl,q⟩
 refine qD (λh0=>?_) (λh0=>?_)
 .have h0:0<=i:=fK h0;refine qD (λh1=>?_) (λh1=>?_)
  .have h1:i<((ns.map D.int).length:Int):=fK h1;rw[cV]at h1;have hi:i.toNat<ns.length:=by omega
   have e:vC (ns.map D.int) i=some (D.int (ns.getD i.toNat 0)):=by
    obtain⟨n,rfl⟩:=eC h0;have hn:n<ns.length:=by omega
    refine ur ?_;rw[dD,cX hn];simp[hn]
   refine i' e ⟨M,.refl,?_⟩;have:cell ns i=ns.getD i.toNat 0:=by unfold cell;rw[df ⟨h0,h1⟩]
   rw[<-this];exact q
  .have h1:¬i<((ns.map D.int).length:Int):=λz=>h1 (dW z);rw[cV]at h1;refine⟨M,.refl,?_⟩;have:cell ns i=0:=by unfold cell;rw[cZ (λz=>h1 z.2)]
   rw[<-this];exact q
 .have h0:¬0<=i:=λz=>h0 (dW z);refine⟨M,.refl,?_⟩;have:cell ns i=0:=by unfold cell;rw[cZ (λz=>h0 z.1)]
  rw[<-this];exact q
inductive Wi where
 | bar (x:Str) (ns:QQQ)|shut (x:Str) (ns:QQQ)|always (x y:Str)|night (x y:Str) (f l:Int)|busy (x y:Str)|silent (x y:Str) (n:Int)|wait (x:Str)|breaks (x:Str)
abbrev names(ns:QQQ):D:=.tup (ns.map D.str)
noncomputable def Wi.told:Wi->List D
 | .bar x ns=>[.str "bar",.str x,names ns]
 | .shut x ns=>[.str "shut",.str x,names ns]
 | .always x y=>[.str "always",.str x,.str y]
 | .night x y f l=>[.str "night",.str x,.str y,.int f,.int l]
 | .busy x y=>[.str "busy",.str x,.str y]
 | .silent x y n=>[.str "silent",.str x,.str y,.int n]
 | .wait x=>[.str "wait",.str x]
 | .breaks x=>[.str "breaks",.str x]
noncomputable def Wi.cls(a:Ad):Wi->Addr
 | .bar _ _=>a.r
 | .shut _ _=>a.t
 | .always _ _=>a.w
 | .night _ _ _ _=>a.n
 | .busy _ _=>a.x
 | .silent _ _ _=>a.u
 | .wait _=>a.v
 | .breaks _=>a.o
noncomputable def Wi.more:Wi->List (Str×D)
 | .bar x ns=>[("phone",.str x),("targets",names ns)]
 | .shut x ns=>[("target",.str x),("callers",names ns)]
 | .always x y=>[("target",.str x),("goal",.str y)]
 | .night x y f l=>[("target",.str x),("goal",.str y),("first",.int f),("last",.int l)]
 | .busy x y=>[("target",.str x),("goal",.str y)]
 | .silent x y n=>[("target",.str x),("goal",.str y),("turns",.int n)]
 | .wait x=>[("phone",.str x)]
 | .breaks x=>[("phone",.str x)]
noncomputable def Wi.m8(v:Wi):List (Str×D):=("form",.tup v.told)::v.more
abbrev Cs(ns:QQQ)(i:Int):Str:=ns.getD i.toNat Str.empty
noncomputable def xm(row:QQQ)(c m:Int):Nat:=(1+qA c 40692 (if (row.length:Int)<m then(row.length:Int)else m)).toNat
noncomputable def S'(row:QQQ)(c:Int)(j:Nat):Str:=Cs row ((qA c 69621 row.length+(0+(j:Nat))) % row.length)
noncomputable def vR(row:QQQ)(c m:Int):QQQ:=(List.range (xm row c m)).map (S' row c)
def NR:rf:=λds M Q=>Ba λr c m row=>ds=[.ref r,.int c,.int m]/\oM M r=some (row.map D.str)/\row≠[]/\0<m/\row.length<=64/\Q (names (vR row c m)) M
def Jt{row:QQQ}(h:row≠[])(x:Int):vC (row.map D.str) (x % row.length)=some (D.str (Cs row (x % row.length))):=by
 have hl:0<row.length:=fC.mpr h;have h0:0<=x % row.length:=eP _ (by omega);have h1:x % row.length<row.length:=eM _ (by omega);obtain⟨n,hn⟩:=eC h0;rw[hn]at h1 ⊢;have YF:n<row.length:=by omega
 refine ur ?_;rw[dD,cX YF];simp[Cs,YF]
def yj:Fq P w K mg base 2 a.Q NR:=by
 refine fq G.Q.toDG xS (λr u=>⟨_,(pj (pL 3 xS (pI (qK G) r G.i (rb U1 pz (pS qx rfl G.g qv (qe v0)))))
 (pj (pL 4 xS (pU pz (pI (qK G) r G.i (rb U1 pz (pS (Q3 rfl) rfl G.cF RZ (rX U2 (pS qx rfl G.g qv (qe v0))))))))
 (pk (pD (pY sy rfl G.z sA (qe (qH rfl (xy (ix:=[none,some 0,some 3]) (N':=["_law_j","_law_row","_law_first"])) (wu rfl G.aP (qe v4)) (qG 0) rS (pK U1 (pU (pU U2 v0) (pS qx rfl G.g qv (qe U1))))))))))),?_⟩)
 rintro ds M Q ⟨r,c,m,row,rfl,hl,W8,hm,h64,q⟩
 have WN:0<row.length:=fC.mpr W8;have hz:=dN;have el:((row.map D.str).length:Int)=row.length:=by rw[cV]
 refine i' hl ⟨c,69621,_,rfl,by rw[el];omega,?_⟩;refine i' hl ⟨c,40692,_,rfl,by rw[el];split<;>omega,?_⟩;rw[el];have d0:=qU (c:=c) (f:=40692) (m:=if (row.length:Int)<m then(row.length:Int)else m) (by split<;>omega);have d1:=qL (c:=c) (f:=40692) (m:=if (row.length:Int)<m then(row.length:Int)else m) (by split<;>omega);have d2:qA c 40692 (if (row.length:Int)<m then(row.length:Int)else m)<row.length+1:=by refine Int.lt_of_lt_of_le d1 ?_;split<;>omega
 refine⟨rfl,⟨?_,?_⟩,qZ (f:=λd=>match d with|.int j=>D.str (Cs row ((qA c 69621 row.length+j) % row.length))|_=>.mS) trivial _ [] _ ?_ (λd hd k hk=>?_) λp hp=>?_⟩
 .show -(2 ^ 62)<=1+qA c 40692 (if (row.length:Int)<m then(row.length:Int)else m);omega
 .show 1+qA c 40692 (if (row.length:Int)<m then(row.length:Int)else m)<2 ^ 62;omega
 .rw[cV,eD];show 0+xm row c m<=sizeLine;unfold xm;omega
 .obtain⟨j,_,rfl⟩:=dC.mp hd;refine i' hl ⟨by rw[el];omega,i' hl ?_⟩;rw[el];exact i' (Jt W8 _) hk
 .refine i' (x:=(vR row c m).map D.str) ?_ ⟨M,.new hp,q⟩;unfold oM;rw[pP];show some ([]++((List.range (xm row c m)).map λi=>D.int (0+(i:Nat))).map _)=_;rw[dZ,eh];unfold vR;rw[eh];rfl
noncomputable def wz(c:Int)(own all:QQQ):Wi:=
 let x:=Cs own (qA c 16807 own.length);let pl:=qA c 39373 all.length;let y:=Cs all pl;let z:=Cs all ((pl+1+qA c 742938285 ((all.length:Int) - 1)) % all.length);let k:=qA c 1226874159 12
 if k=0 then .bar x (vR all c 3)
 else if k=1 then .shut y (vR own c 3)
 else if k=2 then .always y z
 else if k<5 then .night y z (qA c 22695477 24) ((qA c 22695477 24+1+qA c 48271 23) % 24)
 else if k<7 then .busy y z
 else if k<9 then .silent y z ([1,1,2,3,9].getD (qA c 950706376 5).toNat 0)
 else if k=9 then .wait x
 else .breaks x
def Px:rf:=λds M Q=>G7 λc o n own all=>ds=[.int c,.ref o,.ref n]/\oM M o=some (own.map D.str)/\oM M n=some (all.map D.str)/\own≠[]/\2<=all.length/\own.length<=64/\all.length<=64/\Q (.tup (wz c own all).told) M
def Hl{row:QQQ}{x:Int}(h0:0<=x)(h1:x<row.length):vC (row.map D.str) x=some (D.str (Cs row x)):=by
 obtain⟨n,rfl⟩:=eC h0;have YF:n<row.length:=by omega
 refine ur ?_;rw[dD,cX YF];simp[Cs,YF]
def Oo:Fq P w K mg base 3 a.bm Px:=by
 refine fq G.bm.toDG tz (λr u=>⟨_,(pj (pL 3 tz (pK U1 (pI (qK G) r G.i (rb v0 pz (pS qx rfl G.g qv (qe U1))))))
 (pj (pL 4 tz (pI (qK G) r G.i (rb v0 pz (pS qx rfl G.g qv (qe U2)))))
 (pj (pL 5 tz (pK U2 v4))
 (pj (pL 6 tz (pK U2 (pU (pU (pU v4 pz) (pI (qK G) r G.i (rb v0 pz (pU (pS qx rfl G.g qv (qe U2)) pz)))) (pS qx rfl G.g qv (qe U2)))))
 (pj (pL 7 tz (pI (qK G) r G.i (rb v0 pz pz)))
 (pj (pQ (pG u v7 pz)
 (pk (pD (pM (rb pA U3 (pI (yj G) r G.Q (rb U2 v0 pz))))))
 pJ)
 (pj (pQ (pG u v7 pz)
 (pk (pD (pM (rb pA v5 (pI (yj G) r G.Q (rb U1 v0 pz))))))
 pJ)
 (pj (pQ (pG u v7 pz)
 (pk (pD (pM (rb pA v5 v6))))
 pJ)
 (pj (pQ (pG u v7 pz)
 (pj (pL 8 tz (pI (qK G) r G.i (rb v0 pz pz)))
 (pk (pD (pM (pV pA (pV v5 (rb v6 v8 (pU (pU (pU v8 pz) (pI (qK G) r G.i (rb v0 pz pz))) pz))))))))
 pJ)
 (pj (pQ (pG u v7 pz)
 (pk (pD (pM (rb pA v5 v6))))
 pJ)
 (pj (pQ (pG u v7 pz)
 (pk (pD (pM (pV pA (rb v5 v6 (pK (pM (pV pz (pV pz (rb pz pz pz)))) (pI (qK G) r G.i (rb v0 pz pz))))))))
 pJ)
 (pj (pQ (pG u v7 pz)
 (pk (pD (pM (rX pA U3))))
 pJ)
 (pk (pD (pM (rX pA U3)))))))))))))))),?_⟩)
 rintro ds M Q ⟨c,o,n,own,all,rfl,ho,hn,W8,h2,l1,l2,q⟩
 have WN:0<own.length:=fC.mpr W8;have hne2:all≠[]:=λz=>by rw[z]at h2;simp at h2
 have e1:((own.map D.str).length:Int)=own.length:=by rw[cV]
 have e2:((all.map D.str).length:Int)=all.length:=by rw[cV]
 have p1:(0:Int)<own.length:=by omega
 have p2:(0:Int)<all.length:=by omega
 have p3:(0:Int)<(all.length:Int) - 1:=by omega
 refine i' ho ⟨c,_,_,rfl,by rw[e1];exact p1,?_⟩;rw[e1];refine i' ho (i' (Hl (qU p1) (qL p1)) ?_);refine i' hn ⟨c,_,_,rfl,by rw[e2];exact p2,?_⟩;rw[e2];refine i' hn (i' (Hl (qU p2) (qL p2)) ?_);refine i' hn ⟨c,_,_,rfl,by rw[e2];exact p3,?_⟩;rw[e2];refine i' hn ⟨by rw[e2];exact p2,?_⟩;rw[e2];refine i' hn (i' (Jt hne2 _) ?_);refine⟨c,_,_,rfl,by decide,?_⟩;have WM:∀t:List D,(wz c own all).told=t->∃WL,qr WL M/\Q (.tup t) WL:=λt e=>⟨M,.refl,e ▸ q⟩;have k0:0<=qA c 1226874159 12:=qU (by decide);refine qD (λh=>?_) (λh=>?_)
 .have h:qA c 1226874159 12=0:=by simpa using h
  refine⟨n,c,3,all,rfl,hn,hne2,by decide,l2,pb rfl,WM _ ?_⟩;simp only[wz,df h,Wi.told]
 have h:¬qA c 1226874159 12=0:=by simpa using h
 refine qD (λg=>?_) (λg=>?_)
 .have g:qA c 1226874159 12=1:=by simpa using g
  refine⟨o,c,3,own,rfl,ho,W8,by decide,l1,pb rfl,WM _ ?_⟩;simp only[wz,cZ h,df g,Wi.told]
 have g:¬qA c 1226874159 12=1:=by simpa using g
 refine qD (λi=>?_) (λi=>?_)
 .have i:qA c 1226874159 12=2:=by simpa using i
  refine⟨pb rfl,WM _ ?_⟩;simp only[wz,cZ h,cZ g,df i,Wi.told]
 have i:¬qA c 1226874159 12=2:=by simpa using i
 refine qD (λj=>?_) (λj=>?_)
 .have j:qA c 1226874159 12<5:=fK j;refine⟨c,_,_,rfl,by decide,c,_,_,rfl,by decide,by decide,pb rfl,WM _ ?_⟩;simp only[wz,cZ h,cZ g,cZ i,df j,Wi.told]
 have j:¬qA c 1226874159 12<5:=λz=>j (dW z);refine qD (λl=>?_) (λl=>?_)
 .have l:qA c 1226874159 12<7:=fK l;refine⟨pb rfl,WM _ ?_⟩;simp only[wz,cZ h,cZ g,cZ i,cZ j,df l,Wi.told]
 have l:¬qA c 1226874159 12<7:=λz=>l (dW z);refine qD (λm=>?_) (λm=>?_)
 .have m:qA c 1226874159 12<9:=fK m;have d0:0<=qA c 950706376 5:=qU (by decide);have d1:qA c 950706376 5<5:=qL (by decide);have e:vC [D.int 1,.int 1,.int 2,.int 3,.int 9] (qA c 950706376 5)=some (D.int ([1,1,2,3,9].getD (qA c 950706376 5).toNat 0)):=by
   obtain⟨t,ht⟩:=eC d0;rw[ht]at d1 ⊢;have:t<5:=by omega
   match t,this with
   | 0,_=>rfl
   | 1,_=>rfl
   | 2,_=>rfl
   | 3,_=>rfl
   | 4,_=>rfl
  refine⟨pb rfl,c,_,_,rfl,by decide,i' e ⟨pb rfl,WM _ ?_⟩⟩;simp only[wz,cZ h,cZ g,cZ i,cZ j,cZ l,df m,Wi.told]
 have m:¬qA c 1226874159 12<9:=λz=>m (dW z);refine qD (λr=>?_) (λr=>?_)
 .have r:qA c 1226874159 12=9:=by simpa using r
  refine⟨pb rfl,WM _ ?_⟩;simp only[wz,cZ h,cZ g,cZ i,cZ j,cZ l,cZ m,df r,Wi.told]
 have r:¬qA c 1226874159 12=9:=by simpa using r
 refine⟨pb rfl,WM _ ?_⟩;simp only[wz,cZ h,cZ g,cZ i,cZ j,cZ l,cZ m,cZ r,Wi.told]
def Lf(K:qu):rf:=λds M Q=>CQ λp d C=>ds=[.ref p,d]/\M p=some (.ins C [])/\uh K C "form"/\Q .mS (pF M p (.ins C [("form",d)]))
def Mn(K:qu):rf:=λds M Q=>G7 λp t x y C=>ds=[.ref p,.tup t]/\vC t 1=some x/\vC t 2=some y/\M p=some (.ins C [])/\uh K C "form"/\uh K C "target"/\uh K C "goal"/\Q .mS (pF M p (.ins C [("form",.tup t),("target",x),("goal",y)]))
def x9(a:Ad)(k:Wi->Prop):rf:=λds M Q=>BO λp v=>ds=[.ref p,.tup (Wi.told v)]/\k v/\M p=some (.ins (v.cls a) [])/\Q .mS (pF M p (.ins (v.cls a) v.m8))
def xP:Fq P w K mg base 1 a.H (Lf K):=by
 refine fq G.H.toDG Ff (λr u=>⟨_,(pk (qc v0 U1)),?_⟩)
 rintro ds M Q ⟨p,d,C,rfl,hp,na,q⟩
 exact pq hp ⟨na,by decide,_,.refl,q⟩
def zk:Fq P w K mg base 2 a.B (Mn K):=by
 refine fq G.B.toDG A8 (λr u=>⟨_,(pj (pO (yC G.aN (xP G) r G.C G.H.toDG (rX v0 U1)))
 (pj (qc v0 (pK U1 pz))
 (pk (qc v0 (pK U1 pz))))),?_⟩)
 rintro ds M Q ⟨p,t,x,y,C,rfl,e1,e2,hp,n1,n2,n3,q⟩
 refine⟨p,_,C,rfl,hp,n1,i' e1 (pq pP ⟨n2,by show 1<1000;decide,?_⟩)⟩;refine i' e2 (pq pP ⟨n3,by show 2<1000;decide,_,?_,q⟩);rw[rH,rH];exact .refl
def Ra:Fq P w K mg base 2 a.al (x9 a λv=>∃x ns,v=.bar x ns):=by
 refine fq G.al.toDG Gj (λr u=>⟨_,(pj (pO (yC G.aN (xP G) r G.C G.H.toDG (rX v0 U1)))
 (pj (qc v0 (pK U1 pz))
 (pk (qc v0 (pK U1 pz))))),?_⟩)
 rintro ds M Q ⟨p,v,rfl,⟨x,ns,rfl⟩,hp,q⟩
 refine⟨p,_,_,rfl,hp,(G.bR "form" rfl),pq pP ⟨(G.bR "phone" rfl),by show 1<1000;decide,?_⟩⟩;refine pq pP ⟨(G.bR "targets" rfl),by show 2<1000;decide,_,?_,q⟩;rw[rH,rH];exact .refl
def P8:Fq P w K mg base 2 a.an (x9 a λv=>∃x ns,v=.shut x ns):=by
 refine fq G.an.toDG FJ (λr u=>⟨_,(pj (pO (yC G.aN (xP G) r G.C G.H.toDG (rX v0 U1)))
 (pj (qc v0 (pK U1 pz))
 (pk (qc v0 (pK U1 pz))))),?_⟩)
 rintro ds M Q ⟨p,v,rfl,⟨x,ns,rfl⟩,hp,q⟩
 refine⟨p,_,_,rfl,hp,(G.bS "form" rfl),pq pP ⟨(G.bS "target" rfl),by show 1<1000;decide,?_⟩⟩;refine pq pP ⟨(G.bS "callers" rfl),by show 2<1000;decide,_,?_,q⟩;rw[rH,rH];exact .refl
def Mu:Fq P w K mg base 3 a.aq (x9 a λv=>∃x y f l,v=.night x y f l):=by
 refine fq G.aq.toDG CO (λr u=>⟨_,(pj (pO (yC G.bX (zk G) r G.Y G.B.toDG (rX v0 U1)))
 (pj (qc v0 (pK U1 pz))
 (pk (qc v0 (pK U1 pz))))),?_⟩)
 rintro ds M Q ⟨p,v,rfl,⟨x,y,f,l,rfl⟩,hp,q⟩
 refine⟨p,_,_,_,_,rfl,rfl,rfl,hp,(G.aO "form" rfl),(G.aO "target" rfl),(G.aO "goal" rfl),pq pP ⟨(G.aO "first" rfl),by show 3<1000;decide,?_⟩⟩;refine pq pP ⟨(G.aO "last" rfl),by show 4<1000;decide,_,?_,q⟩;rw[rH,rH];exact .refl
def JM:Fq P w K mg base 3 a.av (x9 a λv=>∃x y n,v=.silent x y n):=by
 refine fq G.av.toDG Bq (λr u=>⟨_,(pj (pO (yC G.bX (zk G) r G.Y G.B.toDG (rX v0 U1)))
 (pk (qc v0 (pK U1 pz)))),?_⟩)
 rintro ds M Q ⟨p,v,rfl,⟨x,y,n,rfl⟩,hp,q⟩
 refine⟨p,_,_,_,_,rfl,rfl,rfl,hp,(G.bO "form" rfl),(G.bO "target" rfl),(G.bO "goal" rfl),pq pP ⟨(G.bO "turns" rfl),by show 3<1000;decide,_,?_,q⟩⟩;rw[rH];exact .refl
def Py:Fq P w K mg base 2 a.ax (x9 a λv=>∃x,v=.wait x):=by
 refine fq G.ax.toDG FD (λr u=>⟨_,(pj (pO (yC G.aN (xP G) r G.C G.H.toDG (rX v0 U1)))
 (pk (qc v0 (pK U1 pz)))),?_⟩)
 rintro ds M Q ⟨p,v,rfl,⟨x,rfl⟩,hp,q⟩
 refine⟨p,_,_,rfl,hp,(G.bY "form" rfl),pq pP ⟨(G.bY "phone" rfl),by show 1<1000;decide,_,?_,q⟩⟩;rw[rH];exact .refl
def Jz:Fq P w K mg base 2 a.az (x9 a λv=>∃x,v=.breaks x):=by
 refine fq G.az.toDG B5 (λr u=>⟨_,(pj (pO (yC G.aN (xP G) r G.C G.H.toDG (rX v0 U1)))
 (pk (qc v0 (pK U1 pz)))),?_⟩)
 rintro ds M Q ⟨p,v,rfl,⟨x,rfl⟩,hp,q⟩
 refine⟨p,_,_,rfl,hp,(G.bZ "form" rfl),pq pP ⟨(G.bZ "phone" rfl),by show 1<1000;decide,_,?_,q⟩⟩;rw[rH];exact .refl
def Hj(a:Ad):rf:=λds M Q=>∃v:Wi,ds=[.tup v.told]/\∀p,M p=none->Q (.ref p) (pF M p (.ins (v.cls a) v.m8))
def Jm(a:Ad):rf:=λds M Q=>BO λp (v:Wi)=>ds=[.ref p]/\M p=some (.ins (v.cls a) v.m8)/\Q (.tup v.told) M
def HZ:rf:=λds M Q=>∃p,ds=[.ref p]/\Q (.tup [.str "end"]) M
def MH:rf:=λds M Q=>∃p,ds=[.ref p]/\Q (.tup [.str "break"]) M
def Qq:rf:=λds M Q=>Ba λp C fs y=>ds=[.ref p]/\M p=some (.ins C fs)/\fs.lookup ("goal":Str)=some y/\Q (.tup [.str "to",y]) M
def QB:rf:=λds M Q=>Ba λp C fs y=>ds=[.ref p]/\M p=some (.ins C fs)/\fs.lookup ("phone":Str)=some y/\Q (.tup [.str "wait",y]) M
def MS(a:Ad):Addr->rf->Prop:=λC sp=>(∃v:Wi,C=v.cls a)/\sp=Jm a
def IK(a:Ad):Addr->rf->Prop:=λC sp=>((C=a.r\/C=a.t)/\sp=HZ)\/((C=a.w\/C=a.n\/C=a.x\/C=a.u)/\sp=Qq)\/(C=a.v/\sp=QB)\/(C=a.o/\sp=MH)
def uN:Fq P w K mg base 5 a.F (Hj a):=by
 refine fq G.F.toDG BY (λr u=>⟨_,(pj (pL 1 BY (pK v0 pz))
 (pj (pQ (pG u U1 pA)
 (pk (pD (vk (Ra G) r G.r G.b9 G.al.toDG (qe v0))))
 pJ)
 (pj (pQ (pG u U1 pA)
 (pk (pD (vk (P8 G) r G.t G.ca G.an.toDG (qe v0))))
 pJ)
 (pj (pQ (pG u U1 pA)
 (pk (pD (vk (zk G) r G.w G.cb G.B.toDG (qe v0))))
 pJ)
 (pj (pQ (pG u U1 pA)
 (pk (pD (vk (Mu G) r G.n G.cc G.aq.toDG (qe v0))))
 pJ)
 (pj (pQ (pG u U1 pA)
 (pk (pD (vk (zk G) r G.x G.cd G.B.toDG (qe v0))))
 pJ)
 (pj (pQ (pG u U1 pA)
 (pk (pD (vk (JM G) r G.u G.ce G.av.toDG (qe v0))))
 pJ)
 (pj (pQ (pG u U1 pA)
 (pk (pD (vk (Py G) r G.v G.cf G.ax.toDG (qe v0))))
 pJ)
 (pj (pQ (pG u U1 pA)
 (pk (pD (vk (Jz G) r G.o G.cg G.az.toDG (qe v0))))
 pJ)
 (pk FX)))))))))),?_⟩)
 rintro ds M Q ⟨v,rfl,q⟩
 have WM:∀(x:Addr) (c0 c1:uW) (C:Addr) (fs:List (Str×D)),M x=none->Q (.ref x) (pF M x c1)->∃WL,qr WL (pF (pF M x c0) x c1)/\Q (.ref x) WL:=λx c0 c1 C fs hx q=>⟨_,by rw[rH];exact .refl,q⟩;cases v with
 | bar x ns=>exact λp hp=>⟨p,.bar x ns,rfl,⟨_,_,rfl⟩,pP,rfl,WM p _ _ 0 [] hp (q p hp)⟩
 | shut x ns=>exact λp hp=>⟨p,.shut x ns,rfl,⟨_,_,rfl⟩,pP,rfl,WM p _ _ 0 [] hp (q p hp)⟩
 | always x y=>exact λp hp=>⟨p,_,_,_,_,rfl,rfl,rfl,pP,(G.bT "form" rfl),(G.bT "target" rfl),(G.bT "goal" rfl),rfl,WM p _ _ 0 [] hp (q p hp)⟩
 | night x y f l=>exact λp hp=>⟨p,.night x y f l,rfl,⟨_,_,_,_,rfl⟩,pP,rfl,WM p _ _ 0 [] hp (q p hp)⟩
 | busy x y=>exact λp hp=>⟨p,_,_,_,_,rfl,rfl,rfl,pP,(G.bU "form" rfl),(G.bU "target" rfl),(G.bU "goal" rfl),rfl,WM p _ _ 0 [] hp (q p hp)⟩
 | silent x y n=>exact λp hp=>⟨p,.silent x y n,rfl,⟨_,_,_,rfl⟩,pP,rfl,WM p _ _ 0 [] hp (q p hp)⟩
 | wait x=>exact λp hp=>⟨p,.wait x,rfl,⟨_,rfl⟩,pP,rfl,WM p _ _ 0 [] hp (q p hp)⟩
 | breaks x=>exact λp hp=>⟨p,.breaks x,rfl,⟨_,rfl⟩,pP,rfl,WM p _ _ 0 [] hp (q p hp)⟩
def NN:Fq P w K mg base 1 a.l (Jm a):=by
 refine fq G.l.toDG Eo (λr u=>⟨_,(pk (pD (pC v0))),?_⟩)
 rintro ds M Q ⟨p,v,rfl,hp,q⟩
 exact pq hp (i' rfl ⟨M,.refl,q⟩)
def Oh:Fq P w K mg base 1 a.aI HZ:=by
 refine fq G.aI.toDG EG (λr u=>⟨_,(pk (pD (pM (qe pA)))),?_⟩)
 rintro ds M Q ⟨p,rfl,q⟩
 exact⟨pb rfl,M,.refl,q⟩
def Me:Fq P w K mg base 1 a.aJ HZ:=by
 refine fq G.aJ.toDG Dm (λr u=>⟨_,(pk (pD (pM (qe pA)))),?_⟩)
 rintro ds M Q ⟨p,rfl,q⟩
 exact⟨pb rfl,M,.refl,q⟩
def vO:Fq P w K mg base 1 a.A Qq:=by
 refine fq G.A.toDG zU (λr u=>⟨_,(pk (pD (pM (rX pA (pC v0))))),?_⟩)
 rintro ds M Q ⟨p,C,fs,y,rfl,hp,e,q⟩
 exact pq hp (i' e ⟨pb rfl,M,.refl,q⟩)
def Nl:Fq P w K mg base 1 a.aK QB:=by
 refine fq G.aK.toDG CZ (λr u=>⟨_,(pk (pD (pM (rX pA (pC v0))))),?_⟩)
 rintro ds M Q ⟨p,C,fs,y,rfl,hp,e,q⟩
 exact pq hp (i' e ⟨pb rfl,M,.refl,q⟩)
def Hc:Fq P w K mg base 1 a.aL MH:=by
 refine fq G.aL.toDG A6 (λr u=>⟨_,(pk (pD (pM (qe pA)))),?_⟩)
 rintro ds M Q ⟨p,rfl,q⟩
 exact⟨pb rfl,M,.refl,q⟩
def RJ:∀C sp,MS a C sp->xM P w K mg base 1 "told" C (NI K sp):=by
 rintro C sp ⟨⟨v,rfl⟩,rfl⟩
 have F:=NN (P:=P) (w:=w) (base:=base) G;cases v with
 | bar _ _=>exact⟨G.r.toCls,_,_,_,G.cp,F,G.l.b⟩
 | shut _ _=>exact⟨G.t.toCls,_,_,_,G.cq,F,G.l.b⟩
 | always _ _=>exact⟨G.w.toCls,_,_,_,G.cr,F,G.l.b⟩
 | night _ _ _ _=>exact⟨G.n.toCls,_,_,_,G.cs,F,G.l.b⟩
 | busy _ _=>exact⟨G.x.toCls,_,_,_,G.ct,F,G.l.b⟩
 | silent _ _ _=>exact⟨G.u.toCls,_,_,_,G.cu,F,G.l.b⟩
 | wait _=>exact⟨G.v.toCls,_,_,_,G.cv,F,G.l.b⟩
 | breaks _=>exact⟨G.o.toCls,_,_,_,G.cw,F,G.l.b⟩
def OJ:∀C sp,IK a C sp->xM P w K mg base 1 "wants" C (NI K sp):=by
 rintro C sp (⟨rfl|rfl,rfl⟩|⟨rfl|rfl|rfl|rfl,rfl⟩|⟨rfl,rfl⟩|⟨rfl,rfl⟩)
 .exact⟨G.r.toCls,_,_,_,G.aI.ny,Oh G,G.aI.b⟩
 .exact⟨G.t.toCls,_,_,_,G.aJ.ny,Me G,G.aJ.b⟩
 .exact⟨G.w.toCls,_,_,_,G.cx,vO G,G.A.b⟩
 .exact⟨G.n.toCls,_,_,_,G.cy,vO G,G.A.b⟩
 .exact⟨G.x.toCls,_,_,_,G.cz,vO G,G.A.b⟩
 .exact⟨G.u.toCls,_,_,_,G.cA,vO G,G.A.b⟩
 .exact⟨G.v.toCls,_,_,_,G.aK.ny,Nl G,G.aK.b⟩
 .exact⟨G.o.toCls,_,_,_,G.aL.ny,Hc G,G.aL.b⟩
noncomputable def uC(x:Str):Bool:=decide ((1:Int)<=x.length)&&(decide ((x.length:Int)<=6)&&x.cps.toList.all λc=>CK ⟨#[c]⟩ uu)
def HA:rf:=λds M Q=>∃x:Str,ds=[.str x]/\x.length<=1000/\Q (.bl (uC x)) M
def Jl:rf:=λds M Q=>∃w,ds=[.bl true,w]/\Q .mS M
noncomputable def w9(ss:QQQ):Bool:=((sV ss).length:Int)==(ss.length:Int)
def QW(M:Mp)(x:D)(ss:QQQ):Prop:=x=.tup (ss.map D.str)\/∃a,x=.ref a/\oM M a=some (ss.map D.str)
def J5:rf:=λds M Q=>BO λx ss=>ds=[x]/\QW M x ss/\ss.length<4000/\Q (.bl (w9 ss)) M
def ze{α:Type}(f:α->Bool)(l:List α):(l.map f).all id=l.all f:=by rw[jG];rfl
def rZ(x:Str)(ss:QQQ):inD (.str x) (ss.map D.str)=ss.any (·==x):=by unfold inD;rw[jM];rfl
theorem ql:∀ss:QQQ,(ss.map D.str).all va=true
 | []=>rfl
 | _::r=>by rw[dX,eW,ql r];rfl
noncomputable def sG(cs ks:QQQ)(m:Int):Bool:=decide ((1:Int)<=cs.length)&&(decide ((cs.length:Int)<=m)&&(w9 cs&&cs.all λc=>ks.any (·==c)))
def JA:rf:=λds M Q=>Ba λcs ks k m=>ds=[.tup (cs.map D.str),.ref k,.int m]/\oM M k=some (ks.map D.str)/\cs.length<4000/\Q (.bl (sG cs ks m)) M
def BN:Fq P w K mg base 1 a.ae HA:=by
 refine fq G.ae.toDG He (λr u=>⟨_,(pk (pD (sF (uz u pz (pS qx rfl G.g qv (qe v0)) (sI rfl G.cQ)) (rY (pS (EC rfl) rfl G.bQ E4 (qe (qH rfl (xy (ix:=[none]) (N':=["sign"])) (qF v0) (qG 0) rS (pZ u v0 (sI rfl G.cR))))))))),?_⟩)
 rintro ds M Q ⟨x,rfl,hl,q⟩
 have hz:=dN;refine⟨by omega,qD (λh1=>?_) (λh1=>?_)⟩
 .refine qD (λh2=>?_) (λh2=>?_)
  .refine qZ (f:=λd=>match d with|.str z=>D.bl (CK z uu)|_=>.mS) trivial _ [] _ ?_ (λd hd k hk=>?_) λp hp=>?_
   .rw[cV];have:x.cps.toList.length=x.length:=by simp[Str.length]
    simp only[dJ];omega
   .obtain⟨c,_,rfl⟩:=dC.mp hd;exact hk
   .refine i' pE ?_;have e:([]++(x.cps.toList.map λc=>D.str ⟨#[c]⟩).map λd=>match d with|.str z=>D.bl (CK z uu)|_=>.mS)=x.cps.toList.map λc=>D.bl (CK ⟨#[c]⟩ uu):=by rw[dZ,eh];rfl
    rw[e];refine i' (yh (λc=>CK ⟨#[c]⟩ uu) x.cps.toList) ⟨M,.new hp,?_⟩;rw[ze];have:uC x=x.cps.toList.all λc=>CK ⟨#[c]⟩ uu:=by unfold uC;rw[h1,h2];rfl
    rw[<-this];exact q
  .refine⟨M,.refl,?_⟩;have:uC x=false:=by
    unfold uC;have h2:decide ((x.length:Int)<=6)=false:=by simpa using h2
    rw[h2];simp
   rw[<-this];exact q
 .refine⟨M,.refl,?_⟩;have:uC x=false:=by
   unfold uC;have h1:decide ((1:Int)<=x.length)=false:=by simpa using h1
   rw[h1];rfl
  rw[<-this];exact q
def sR:Fq P w K mg base 1 a.m Jl:=by
 refine fq G.m.toDG N8 (λr u=>⟨_,(pk (pQ (vT (uI v0))
 (pk FX)
 pJ)),?_⟩)
 rintro ds M Q ⟨x,rfl,q⟩
 exact⟨M,.refl,q⟩
def DS:Fq P w K mg base 1 a.af J5:=by
 refine fq G.af.toDG Dn (λr u=>⟨_,(pk (pD (pZ u (J4 rfl v0 rfl G.g rfl G.cG qv RI) (pS qx rfl G.g qv (qe v0))))),?_⟩)
 rintro ds M Q ⟨x,ss,rfl,hx,hl,q⟩
 have key:((ss.map D.str).length:Int)=ss.length:=by rw[cV]
 rcases hx with rfl|⟨b,rfl,hb⟩
 .refine i' (L3.B9 ss) ⟨hl,M,.refl,?_⟩;rw[key];exact q
 .refine i' hb (i' (L3.B9 ss) ⟨hl,i' hb ⟨M,.refl,?_⟩⟩);rw[key];exact q
def Am:Fq P w K mg base 2 a.O JA:=by
 refine fq G.O.toDG EB (λr u=>⟨_,(pk (pD (sF (uz u pz (pS qx rfl G.g qv (qe v0)) U2) (sF (pI (DS G) r G.af (qe v0)) (rY (pS (EC rfl) rfl G.bQ E4 (qe (qH rfl (xy (ix:=[none,some 1]) (N':=["name","known"])) (qF v0) (qG 0) rS (pZ u v0 U1))))))))),?_⟩)
 rintro ds M Q ⟨cs,ks,k,m,rfl,hk,hl,q⟩
 have hz:=dN;have key:((cs.map D.str).length:Int)=cs.length:=by rw[cV]
 have ZM:∀b:Bool,sG cs ks m=b->∃WL,qr WL M/\Q (.bl b) WL:=λb e=>⟨M,.refl,e ▸ q⟩;refine qD (λh1=>?_) (λh1=>?_)
 .have h1:decide ((1:Int)<=cs.length)=true:=by rw[<-key];exact h1
  refine qD (λh2=>?_) (λh2=>?_)
  .have h2:decide ((cs.length:Int)<=m)=true:=by rw[<-key];exact h2
   refine⟨_,cs,rfl,.inl rfl,hl,qD (λh3=>?_) (λh3=>?_)⟩
   .refine qZ (f:=λd=>match d with|.str z=>D.bl (ks.any (·==z))|_=>.mS) trivial _ [] _ ?_ (λd hd k0 hk0=>?_) λp hp=>?_
    .rw[cV];simp only[dJ];omega
    .obtain⟨c,_,rfl⟩:=dC.mp hd;refine i' hk ⟨rfl,ql ks,?_⟩;show k0 (.bl (inD (.str c) (ks.map D.str))) M;rw[rZ];exact hk0
    .refine i' pE ?_;have e:([]++(cs.map D.str).map λd=>match d with|.str z=>D.bl (ks.any (·==z))|_=>.mS)=cs.map λc=>D.bl (ks.any (·==c)):=by rw[dZ,eh];rfl
     rw[e];refine i' (yh (λc=>ks.any (·==c)) cs) ⟨M,.new hp,?_⟩;rw[ze];have:sG cs ks m=cs.all λc=>ks.any (·==c):=by unfold sG;rw[h1,h2,h3];rfl
     rw[<-this];exact q
   .refine ZM _ ?_;unfold sG;have h3:w9 cs=false:=by simpa using h3
    rw[h3];simp
  .refine ZM _ ?_;unfold sG;have h2:decide ((cs.length:Int)<=m)=false:=by
    rw[<-key]
    simpa using h2
   rw[h2];simp
 .refine ZM _ ?_;unfold sG;have h1:decide ((1:Int)<=cs.length)=false:=by
   rw[<-key]
   simpa using h1
  rw[h1];rfl
abbrev ui:=Str×Int×Int
abbrev uj:=Str×Str×QQQ
abbrev vB:=Bool×Wi
noncomputable def qM(p:ui):D:=.tup [.str p.1,.int p.2.1,.int p.2.2]
noncomputable def qT(g:uj):D:=.tup [.str g.1,.str g.2.1,names g.2.2]
noncomputable def xn(w:vB):D:=.tup [.bl w.1,.tup w.2.told]
structure FL(p:ui):Prop where
 len:p.1.length<=1000
 nm:uC p.1=true
 l1:1<=p.2.1
 l2:p.2.1<=3
 r1:0<=p.2.2
 r2:p.2.2<=9
structure Es(pn:QQQ)(g:uj):Prop where
 len:g.1.length<=1000
 nm:uC g.1=true
 man:g.2.1="all"\/g.2.1="turns"
 pb:g.2.2.length<4000
 mem:sG g.2.2 pn 4=true
def xt(ss:QQQ)(x:Str):Prop:=ss.any (·==x)=true
def zY(pn nm:QQQ):Wi->Prop
 | .bar x ns=>xt pn x/\ns.length<4000/\sG ns nm 6=true
 | .shut x ns=>xt nm x/\ns.length<4000/\sG ns pn 6=true
 | .always x y=>xt nm x/\xt nm y/\x≠y
 | .night x y f l=>xt nm x/\xt nm y/\x≠y/\(0<=f/\f<=23)/\(0<=l/\l<=23)/\f≠l
 | .busy x y=>xt nm x/\xt nm y/\x≠y
 | .silent x y n=>xt nm x/\xt nm y/\x≠y/\1<=n/\n<=9
 | .wait x=>xt pn x
 | .breaks x=>xt pn x
inductive xY(pn nm:QQQ):Str->D->Prop
 | ng (x:Str) (h:xt pn x):xY pn nm "phone" (.str x)
 | name (x:Str) (h:xt nm x):xY pn nm "name" (.str x)
 | mL (cs:QQQ) (l:cs.length<4000) (h:sG cs pn 6=true):xY pn nm "phones" (names cs)
 | names (cs:QQQ) (l:cs.length<4000) (h:sG cs nm 6=true):xY pn nm "names" (names cs)
 | hour (i:Int) (h0:0<=i) (h1:i<=23):xY pn nm "hour" (.int i)
 | turns (i:Int) (h0:1<=i) (h1:i<=9):xY pn nm "turns" (.int i)
def Jg:rf:=λds M Q=>Ky λk d pl nl (pn nm:QQQ)=>ds=[.str k,d,.ref pl,.ref nl]/\oM M pl=some (pn.map D.str)/\oM M nl=some (nm.map D.str)/\xY pn nm k d/\Q (.bl true) M
def AH:rf:=λds M Q=>BO λr (ps:List ui)=>ds=[.ref r]/\oM M r=some (ps.map qM)/\1<=ps.length/\ps.length<=8/\(∀p∈ps,FL p)/\Q .mS M
def AV:rf:=λds M Q=>Ba λr (gs:List uj) pl (pn:QQQ)=>ds=[.ref r,.ref pl]/\oM M r=some (gs.map qT)/\oM M pl=some (pn.map D.str)/\gs.length<=3/\(∀g∈gs,Es pn g)/\Q .mS M
def C5:rf:=λds M Q=>G7 λv pl nl (pn nm:QQQ)=>ds=[.tup (Wi.told v),.ref pl,.ref nl]/\oM M pl=some (pn.map D.str)/\oM M nl=some (nm.map D.str)/\zY pn nm v/\Q .mS M
def AR:rf:=λds M Q=>Ky λr (ws:List vB) pl nl (pn nm:QQQ)=>ds=[.ref r,.ref pl,.ref nl]/\oM M r=some (ws.map xn)/\oM M pl=some (pn.map D.str)/\oM M nl=some (nm.map D.str)/\ws.length<=16/\(∀w∈ws,zY pn nm w.2)/\Q .mS M
def Wl{ss:QQQ}{x:Str}(h:xt ss x):inD (.str x) (ss.map D.str)=true:=by rw[rZ];exact h
def OR:Fq P w K mg base 3 a.bg Jg:=by
 refine fq G.bg.toDG Dj (λr u=>⟨_,(pj (pQ (pG u v0 pA)
 (pk (pD (pZ u U1 U2)))
 pJ)
 (pj (pQ (pG u v0 pA)
 (pk (pD (pZ u U1 U3)))
 pJ)
 (pj (pQ (pG u v0 pA)
 (pk (pD (pI (Am G) r G.O (rb U1 U2 (sI rfl G.b2)))))
 pJ)
 (pj (pQ (pG u v0 pA)
 (pk (pD (pI (Am G) r G.O (rb U1 U3 (sI rfl G.b2)))))
 pJ)
 (pj (pQ (pG u v0 pA)
 (pk (pD (uz u pz U1 (sI rfl G.cS))))
 pJ)
 (pk (pD (uz u pz U1 (sI rfl G.cT))))))))),?_⟩)
 rintro ds M Q ⟨k,d,pl,nl,pn,nm,rfl,hp,hn,ok,q⟩
 cases ok with
 | ng x h=>refine i' hp ⟨rfl,ql pn,M,.refl,?_⟩;show Q (.bl (inD (.str x) (pn.map D.str))) M;rw[Wl h];exact q
 | name x h=>refine i' hn ⟨rfl,ql nm,M,.refl,?_⟩;show Q (.bl (inD (.str x) (nm.map D.str))) M;rw[Wl h];exact q
 | mL cs l h=>exact⟨cs,pn,pl,6,rfl,hp,l,M,.refl,by rw[h];exact q⟩
 | names cs l h=>exact⟨cs,nm,nl,6,rfl,hn,l,M,.refl,by rw[h];exact q⟩
 | hour i h0 h1=>refine AX (c:=decide (0<=i)) (dW h0) ⟨M,.refl,?_⟩;show Q (.bl (decide (i<=23))) M;rw[dW h1];exact q
 | turns i h0 h1=>refine AX (c:=decide (1<=i)) (dW h0) ⟨M,.refl,?_⟩;show Q (.bl (decide (i<=9))) M;rw[dW h1];exact q
def AK:Fq P w K mg base 2 a.be AH:=by
 refine fq G.be.toDG uf (λr u=>⟨_,(pj (pO (pI (sR G) r G.m (rX (uz u pz (pS qx rfl G.g qv (qe v0)) (sI rfl G.cJ)) pA)))
 (pk (uk eQ rfl (qF v0) (uL (n:=3) rfl (qp (rh 1 uf) (qp (rh 2 uf) (qp (rh 3 uf) tN))))
 (pj (pO (pI (sR G) r G.m (rX (pI (BN G) r G.ae (qe U1)) pA)))
 (pj (pO (pI (sR G) r G.m (rX (uz u pz U2 (sI rfl G.cK)) pA)))
 (pk (pO (pI (sR G) r G.m (rX (uz u pz U3 (sI rfl G.cL)) pA))))))))),?_⟩)
 rintro ds M Q ⟨r,ps,rfl,Xq,h1,h8,mV,q⟩
 have el:((ps.map qM).length:Int)=ps.length:=by rw[cV]
 refine i' Xq (AX (c:=decide ((1:Int)<=(ps.map qM).length)) (dW (by omega)) ⟨_,by rw[dW (show((ps.map qM).length:Int)<=8 by omega)],i' Xq ?_⟩);refine Bd (λδ M'=>M=M'/\∃x y z,δ=[some (.ref r),x,y,z]) (λδ M' j=>by rw[<-j.1];exact Xq) _ _ _ ⟨rfl,none,none,none,rfl⟩ ?_ ?_
 .rintro d hd δ M' ⟨rfl,x,y,z,rfl⟩ nx WS
  obtain⟨p,hp,rfl⟩:=dC.mp hd;have o:=mV p hp;refine⟨rfl,⟨p.1,rfl,o.len,_,by rw[o.nm],?_⟩⟩;refine AX (c:=decide ((1:Int)<=p.2.1)) (dW o.l1) ⟨_,by rw[dW (show p.2.1<=3 from o.l2)],?_⟩;refine AX (c:=decide ((0:Int)<=p.2.2)) (dW o.r1) ⟨_,by rw[dW (show p.2.2<=9 from o.r2)],?_⟩;exact WS _ _ ⟨rfl,_,_,_,rfl⟩
 .rintro δ M' ⟨rfl,x,y,z,rfl⟩
  exact⟨M,.refl,q⟩
def A7:Fq P w K mg base 3 a.bf AV:=by
 refine fq G.bf.toDG ue (λr u=>⟨_,(pj (pO (pI (sR G) r G.m (rX (pZ u (pS qx rfl G.g qv (qe v0)) (sI rfl G.cM)) pA)))
 (pk (uk eQ rfl (qF v0) (uL (n:=3) rfl (qp (rh 2 ue) (qp (rh 3 ue) (qp (rh 4 ue) tN))))
 (pj (pO (pI (sR G) r G.m (rX (pI (BN G) r G.ae (qe U2)) pA)))
 (pj (pO (pI (sR G) r G.m (rX (pZ u U3 (sI rfl G.cN)) pA)))
 (pk (pO (pI (sR G) r G.m (rX (pI (Am G) r G.O (rb v4 U1 (sI rfl G.cO))) pA))))))))),?_⟩)
 rintro ds M Q ⟨r,gs,pl,pn,rfl,Xq,hp,h3,mV,q⟩
 have el:((gs.map qT).length:Int)=gs.length:=by rw[cV]
 refine i' Xq ⟨_,by rw[dW (show((gs.map qT).length:Int)<=3 by omega)],i' Xq ?_⟩;refine Bd (λδ M'=>M=M'/\∃x y z,δ=[some (.ref r),some (.ref pl),x,y,z]) (λδ M' j=>by rw[<-j.1];exact Xq) _ _ _ ⟨rfl,none,none,none,rfl⟩ ?_ ?_
 .rintro d hd δ M' ⟨rfl,x,y,z,rfl⟩ nx WS
  obtain⟨g,hg,rfl⟩:=dC.mp hd;have o:=mV g hg;refine⟨rfl,⟨g.1,rfl,o.len,_,by rw[o.nm],?_⟩⟩;have hm:inD (.str g.2.1) [.str "all",.str "turns"]=true:=by rcases o.man with e|e<;>(rw[e];rfl)
  refine⟨rfl,rfl,.str "a group's manner is all or turns",eX (λb=>[D.bl b,D.str "a group's manner is all or turns"]) hm,?_⟩;refine⟨g.2.2,pn,pl,4,rfl,hp,o.pb,_,by rw[o.mem],?_⟩;exact WS _ _ ⟨rfl,_,_,_,rfl⟩
 .rintro δ M' ⟨rfl,x,y,z,rfl⟩
  exact⟨M,.refl,q⟩
def C6:Fq P w K mg base 4 a.bh C5:=by
 refine fq G.bh.toDG ua (λr u=>⟨_,(pj (pO (pI (sR G) r G.m (rX (K8 G.b1 rfl (pK v0 pz)) pA)))
 (pj (pL 3 ua (J9 G.b1 rfl (pK v0 pz)))
 (pj (pL 4 ua (rW v0 (sS pz) sT))
 (pj (pO (pI (sR G) r G.m (rX (pZ u (pS qx rfl G.g qv (qe v4)) (pS qx rfl G.g qv (qe U3))) pA)))
 (pj (uk eQ rfl (Sa rfl G.cH (rX U3 v4)) (uL (n:=2) rfl (qp (rh 5 ua) (qp (rh 6 ua) tN)))
 (pk (pO (pI (sR G) r G.m (rX (pI (OR G) r G.bg (pV v5 (rb v6 U1 U2))) pA)))))
 (pj (pQ (pG u (rW U3 sT (sS pz)) (pM (rX pA pA)))
 (pk (pO (pI (sR G) r G.m (rX (pZ u (pK v4 pz) (pK v4 pz)) pA))))
 pJ)
 (pk (pQ (pG u (rW U3 (sS pz) sT) (pM (rX pA pA)))
 (pk (pO (pI (sR G) r G.m (rX (pZ u (pK v4 pz) (pK v4 pz)) pA))))
 pJ)))))))),?_⟩)
 rintro ds M Q ⟨v,pl,nl,pn,nm,rfl,hp,hn,ok,q⟩
 have part:∀{k:Str} {d:D} {C:DK},xY pn nm k d->C (.bl true) M->Jg [.str k,d,.ref pl,.ref nl] M C:=λo c=>⟨_,_,pl,nl,pn,nm,rfl,hp,hn,o,c⟩;have need:∀{x:D} {C:DK},C .mS M->Jl [.bl true,x] M C:=λc=>⟨_,rfl,c⟩;have ne:∀{x y:Str},x≠y->(!(x==y))=true:=λh=>by simpa using h
 have nei:∀{x y:Int},x≠y->(!(x==y))=true:=λh=>by simpa using h
 have WM:∃WL,qr WL M/\Q .mS WL:=⟨M,.refl,q⟩;cases v with
 | bar x ns=>obtain⟨h1,h2,h3⟩:=ok;refine⟨_,rfl,_,rfl,?_⟩;refine⟨rfl,_,_,pl,nl,pn,nm,rfl,hp,hn,.ng x h1,_,rfl,trivial,⟨rfl,_,_,pl,nl,pn,nm,rfl,hp,hn,.names ns h2 h3,_,rfl,trivial,?_⟩⟩;exact⟨pb rfl,pb rfl,WM⟩
 | shut x ns=>obtain⟨h1,h2,h3⟩:=ok;refine⟨_,rfl,_,rfl,?_⟩;refine⟨rfl,_,_,pl,nl,pn,nm,rfl,hp,hn,.name x h1,_,rfl,trivial,⟨rfl,_,_,pl,nl,pn,nm,rfl,hp,hn,.mL ns h2 h3,_,rfl,trivial,?_⟩⟩;exact⟨pb rfl,pb rfl,WM⟩
 | always x y=>obtain⟨h1,h2,h3⟩:=ok;refine⟨_,rfl,_,rfl,?_⟩;refine⟨rfl,_,_,pl,nl,pn,nm,rfl,hp,hn,.name x h1,_,rfl,trivial,⟨rfl,_,_,pl,nl,pn,nm,rfl,hp,hn,.name y h2,_,rfl,trivial,?_⟩⟩;refine⟨pb rfl,⟨_,by rw[ne h3],?_⟩⟩;exact⟨pb rfl,WM⟩
 | night x y f l=>obtain⟨h1,h2,h3,h4,h5,h6⟩:=ok;refine⟨_,rfl,_,rfl,?_⟩;refine⟨rfl,_,_,pl,nl,pn,nm,rfl,hp,hn,.name x h1,_,rfl,trivial,⟨rfl,_,_,pl,nl,pn,nm,rfl,hp,hn,.name y h2,_,rfl,trivial,⟨rfl,_,_,pl,nl,pn,nm,rfl,hp,hn,.hour f h4.1 h4.2,_,rfl,trivial,⟨rfl,_,_,pl,nl,pn,nm,rfl,hp,hn,.hour l h5.1 h5.2,_,rfl,trivial,?_⟩⟩⟩⟩;refine⟨pb rfl,⟨_,by rw[ne h3],?_⟩⟩;refine⟨pb rfl,⟨_,by rw[nei h6],?_⟩⟩;exact WM
 | busy x y=>obtain⟨h1,h2,h3⟩:=ok;refine⟨_,rfl,_,rfl,?_⟩;refine⟨rfl,_,_,pl,nl,pn,nm,rfl,hp,hn,.name x h1,_,rfl,trivial,⟨rfl,_,_,pl,nl,pn,nm,rfl,hp,hn,.name y h2,_,rfl,trivial,?_⟩⟩;refine⟨pb rfl,⟨_,by rw[ne h3],?_⟩⟩;exact⟨pb rfl,WM⟩
 | silent x y n=>obtain⟨h1,h2,h3,h4,h5⟩:=ok;refine⟨_,rfl,_,rfl,?_⟩;refine⟨rfl,_,_,pl,nl,pn,nm,rfl,hp,hn,.name x h1,_,rfl,trivial,⟨rfl,_,_,pl,nl,pn,nm,rfl,hp,hn,.name y h2,_,rfl,trivial,⟨rfl,_,_,pl,nl,pn,nm,rfl,hp,hn,.turns n h4 h5,_,rfl,trivial,?_⟩⟩⟩;refine⟨pb rfl,⟨_,by rw[ne h3],?_⟩⟩;exact⟨pb rfl,WM⟩
 | wait x=>refine⟨_,rfl,_,rfl,?_⟩;refine⟨rfl,_,_,pl,nl,pn,nm,rfl,hp,hn,.ng x ok,_,rfl,trivial,?_⟩;exact⟨pb rfl,pb rfl,WM⟩
 | breaks x=>refine⟨_,rfl,_,rfl,?_⟩;refine⟨rfl,_,_,pl,nl,pn,nm,rfl,hp,hn,.ng x ok,_,rfl,trivial,?_⟩;exact⟨pb rfl,pb rfl,WM⟩
def AF:Fq P w K mg base 5 a.bi AR:=by
 refine fq G.bi.toDG uX (λr u=>⟨_,(pj (pO (pI (sR G) r G.m (rX (pZ u (pS qx rfl G.g qv (qe v0)) (sI rfl G.cP)) pA)))
 (pk (uk eQ rfl (qF v0) (uL (n:=2) rfl (qp (rh 3 uX) (qp (rh 4 uX) tN)))
 (pk (pO (pI (C6 G) r G.bh (rb v4 U1 U2))))))),?_⟩)
 rintro ds M Q ⟨r,ws,pl,nl,pn,nm,rfl,Xq,hp,hn,h16,mV,q⟩
 have el:((ws.map xn).length:Int)=ws.length:=by rw[cV]
 refine i' Xq ⟨_,by rw[dW (show((ws.map xn).length:Int)<=16 by omega)],i' Xq ?_⟩;refine Bd (λδ M'=>M=M'/\∃x y,δ=[some (.ref r),some (.ref pl),some (.ref nl),x,y]) (λδ M' j=>by rw[<-j.1];exact Xq) _ _ _ ⟨rfl,none,none,rfl⟩ ?_ ?_
 .rintro d hd δ M' ⟨rfl,x,y,rfl⟩ nx WS
  obtain⟨v,hv,rfl⟩:=dC.mp hd;exact⟨rfl,⟨v.2,pl,nl,pn,nm,rfl,hp,hn,mV v hv,WS _ _ ⟨rfl,_,_,rfl⟩⟩⟩
 .rintro δ M' ⟨rfl,x,y,rfl⟩
  exact⟨M,.refl,q⟩
structure pH where
 mL:List ui
 groups:List uj
 mO:List vB
noncomputable def pH.pn(l:pH):QQQ:=l.mL.map (·.1)
noncomputable def pH.gn(l:pH):QQQ:=l.groups.map (·.1)
noncomputable def pH.nm(l:pH):QQQ:=l.pn++l.gn
structure rL(l:pH):Prop where
 p1:1<=l.mL.length
 p8:l.mL.length<=8
 po:∀p∈l.mL,FL p
 g3:l.groups.length<=3
 go:∀g∈l.groups,Es l.pn g
 nd:l.nm.Nodup
 w16:l.mO.length<=16
 wo:∀w∈l.mO,zY l.pn l.nm w.2
def Dz{ss:QQQ}(h:ss.Nodup):w9 ss=true:=by unfold w9;rw[Ib ss h];simp
def C1:rf:=λds M Q=>Ba λr1 r2 r3 (l:pH)=>ds=[.ref r1,.ref r2,.ref r3]/\oM M r1=some (l.mL.map qM)/\oM M r2=some (l.groups.map qT)/\oM M r3=some (l.mO.map xn)/\rL l/\Q .mS M
noncomputable def AY:D->D
 | .tup (x::_)=>x
 | _=>.mS
def wN(ps:List ui):(ps.map qM).map AY=(ps.map (·.1)).map D.str:=by rw[eh,eh];rfl
def wM(ps:List uj):(ps.map qT).map AY=(ps.map (·.1)).map D.str:=by rw[eh,eh];rfl
def C8:Fq P w K mg base 6 a.bj C1:=by
 refine fq G.bj.toDG wb (λr u=>⟨_,(pj (pO (pI (AK G) r G.be (qe v0)))
 (pj (vA (i:=3) wb.nd rfl (Or.inl rfl) rfl (xy (ix:=[none]) (N':=["phone"])) (qF v0) (qG 0) rS (pK v0 pz))
 (pj (pO (pI (A7 G) r G.bf (rX U1 U3)))
 (pj (pL 4 wb (pU U3 (qH rfl (xy (ix:=[none]) (N':=["group"])) (qF U1) (qG 0) rS (pK v0 pz))))
 (pj (pO (pI (sR G) r G.m (rX (pI (DS G) r G.af (qe v4)) pA)))
 (pk (pO (pI (AF G) r G.bi (rb U2 U3 v4))))))))),?_⟩)
 rintro ds M Q ⟨r1,r2,r3,l,rfl,h1,h2,h3,ok,q⟩
 have hz:=dN;have l1:=ok.p8;have l2:=ok.g3;refine⟨r1,l.mL,rfl,h1,ok.p1,ok.p8,ok.po,i' h1 ?_⟩;refine qZ (f:=AY) h1 _ [] _ (by rw[cV];simp only[dJ];omega) (λd hd k hk=>?_) λp hp=>?_
 .obtain⟨x,_,rfl⟩:=dC.mp hd;exact hk
 rw[dZ,wN];have s1:=qr.new (c:=.lst ((l.mL.map (·.1)).map D.str)) hp;have lp:oM (pF M p (.lst ((l.mL.map (·.1)).map D.str))) p=some (l.pn.map D.str):=pE;generalize pF M p (.lst ((l.mL.map (·.1)).map D.str))=M1 at s1 lp ⊢;refine⟨r2,l.groups,p,l.pn,rfl,s1.lst h2,lp,ok.g3,ok.go,?_⟩;refine i' (s1.lst h2) (qZ (f:=AY) (s1.lst h2) _ [] _ (by rw[cV];simp only[dJ];omega) (λd hd k hk=>?_) λp2 WP=>?_)
 .obtain⟨x,_,rfl⟩:=dC.mp hd;exact hk
 rw[dZ,wM];have s2:=qr.new (c:=.lst ((l.groups.map (·.1)).map D.str)) WP;refine i' (s2.lst lp) (i' pE ⟨?_,λp3 Y3=>?_⟩)
 .rw[cV,cV,cV];show(l.mL.map (·.1)).length+_<=_;rw[cV];omega
 have en:l.pn.map D.str++(l.groups.map (·.1)).map D.str=l.nm.map D.str:=by unfold pH.nm;rw[dS];rfl
 rw[en];have s3:=s2.trans (qr.new (c:=.lst (l.nm.map D.str)) Y3);have l3:=@pE (pF M1 p2 (.lst ((l.groups.map (·.1)).map D.str))) p3 (l.nm.map D.str);generalize pF (pF M1 p2 (.lst ((l.groups.map (·.1)).map D.str))) p3 (.lst (l.nm.map D.str))=M3 at s3 l3 ⊢;have ln:l.nm.length<4000:=by unfold pH.nm pH.pn pH.gn;rw[cY,cV,cV];omega
 refine⟨_,l.nm,rfl,.inr ⟨p3,rfl,l3⟩,ln,_,by rw[Dz ok.nd],?_⟩;exact⟨r3,l.mO,p,p3,l.pn,l.nm,rfl,s3.lst (s1.lst h3),s3.lst lp,l3,ok.w16,ok.wo,M,s1.trans s3,q⟩
noncomputable def Qk(ph gr ws on pr gd:Addr):List (Str×D):=[("phones",.ref ph),("groups",.ref gr),("wishes",.ref ws),("on",.ref on),("phone_rows",.ref pr),("group_rows",.ref gd)]
noncomputable def R1(l:pH):List (qW×D):=l.mL.map λp=>(Sum.inr p.1,qM p)
noncomputable def HE(l:pH):List (qW×D):=l.groups.map λg=>(Sum.inr g.1,qT g)
def sJ(a:Ad)(M:Mp)(rs:QXQ)(ws:List vB):Prop:=rs.length=ws.length/\∀(i:Nat) (r:Addr) (v:vB),rs[i]?=some r->ws[i]?=some v->M r=some (.ins (v.2.cls a) v.2.m8)
def tI(a:Ad)(M:Mp)(p:Addr)(l:pH):Prop:=SV λph gr ws on pr gd (rs:QXQ)=>M p=some (.ins a.h (Qk ph gr ws on pr gd))/\oM M ph=some (l.mL.map qM)/\oM M gr=some (l.groups.map qT)/\
 oM M ws=some (rs.map D.ref)/\oM M on=some (l.mO.map λw=>D.bl w.1)/\zB M pr=some (R1 l)/\zB M gd=some (HE l)/\sJ a M rs l.mO
def sJ.keep{a:Ad}{M M':Mp}{p:Addr}{rs:QXQ}{ws:List vB}(h:sJ a M rs ws)(k:sv p M M')(n:∀r∈rs,r≠p):sJ a M' rs ws:=⟨h.1,λi r v e1 e2=>k r _ (n r (fu e1)) (h.2 i r v e1 e2)⟩
def sJ.sub{a:Ad}{M M':Mp}{rs:QXQ}{ws:List vB}(h:sJ a M rs ws)(k:qr M M'):sJ a M' rs ws:=⟨h.1,λi r v e1 e2=>k r _ (h.2 i r v e1 e2)⟩
def tI.sub{a:Ad}{M M':Mp}{p:Addr}{l:pH}(h:tI a M p l)(s:qr M M'):tI a M' p l:=by obtain⟨ph,gr,ws,on,pr,gd,rs,h1,h2,h3,h4,h5,h6,h7,h8⟩:=h;exact⟨ph,gr,ws,on,pr,gd,rs,s _ _ h1,s.lst h2,s.lst h3,s.lst h4,s.lst h5,s.dk h6,s.dk h7,h8.sub s⟩
def OT(a:Ad):rf:=λds M Q=>G7 λp r1 r2 r3 (l:pH)=>ds=[.ref p,.ref r1,.ref r2,.ref r3]/\M p=some (.ins a.h [])/\oM M r1=some (l.mL.map qM)/\oM M r2=some (l.groups.map qT)/\oM M r3=some (l.mO.map xn)/\rL l/\
 ∀M',sv p M M'->tI a M' p l->(∀WL,(∀b c,(b=p\/M b=none)->M' b=some c->WL b=some c)->tI a WL p l)->Q .mS M'
def rE{M N:Mp}{p x:Addr}{c:uW}(k:sv p M N)(hp:N p=some c)(h:N x=none):M x=none:=by
 cases e:M x with
 | none=>rfl
 | some d=>
  have n:x≠p:=λz=>by rw[z,hp]at h;cases h
  rw[k x d n e]at h;cases h
def zJ{M:Mp}{a:Addr}{es:List (qW×D)}(h:zB M a=some es):M a=some (.dk es):=by
 unfold zB at h;split at h
 .rename_i e;rw[e];cases h;rfl
 .cases h
theorem xf{α:Type}(f:α->Str)(g:α->D):∀l:List α,wW (l.map λx=>D.tup [.str (f x),g x])=some (l.map λx=>(Sum.inr (f x),g x))
 | []=>rfl
 | x::r=>by show(wW (r.map λx=>D.tup [.str (f x),g x])).map ((Sum.inr (f x),g x)::·)=_;rw[xf f g r];rfl
def JT{ss:QQQ}(h:ss.Nodup):(ss.map λx=>(Sum.inr x:qW)).Nodup:=by
 induction ss with
 | nil=>exact eJ
 | cons x r ih=>obtain⟨h1,h2⟩:=dQ.mp h;rw[dX];refine dQ.mpr ⟨λz=>h1 ?_,ih h2⟩;obtain⟨y,hy,e⟩:=dC.mp z;cases e;exact hy
def yD{α:Type}{f:α->Str}{g:α->D}{l:List α}(h:(l.map f).Nodup):((l.map λx=>((Sum.inr (f x):qW),g x)).map (·.1)).Nodup:=by rw[eh];have:=JT h;rw[eh]at this;exact this
noncomputable def Bj(d:D):D:=.tup [AY d,d]
noncomputable def Wk:D->D
 | .tup (x::_)=>x
 | _=>.mS
def SH(ws:List vB):(ws.map xn).map Wk=ws.map λw=>D.bl w.1:=by rw[eh];rfl
def GF(ps:List ui):(ps.map qM).map Bj=ps.map λp=>D.tup [.str p.1,qM p]:=by rw[eh];rfl
def FO(ps:List uj):(ps.map qT).map Bj=ps.map λp=>D.tup [.str p.1,qT p]:=by rw[eh];rfl
def sJ.snoc{a:Ad}{M:Mp}{rs:QXQ}{ws:List vB}{r:Addr}{v:vB}(h:sJ a M rs ws)(n:M r=none):sJ a (pF M r (.ins (v.2.cls a) v.2.m8)) (rs++[r]) (ws++[v]):=by
 refine⟨by rw[cY,cY,h.1];rfl,λi r' v' e1 e2=>?_⟩;by_cases hi:i<rs.length
 .rw[e9 hi]at e1;rw[e9 (by rw[<-h.1];exact hi)]at e2;have:=h.2 i r' v' e1 e2;rw[uc (Qv this n)];exact this
 .have X7:i=rs.length:=by have:=(c9.mp e1).1;rw[cY,dO]at this;omega
  subst X7;rw[eV (dv _)]at e1;rw[h.1,eV (dv _)]at e2;simp only[h9,iE,jq]at e1 e2;subst e1 e2;exact pP
def PN:Fq P w K mg base 7 a.aj (OT a):=by
 refine fq G.aj.toDG E9 (λr u=>⟨_,(pj (pO (pI (C8 G) r G.bj (rb U1 U2 U3)))
 (pj (qc v0 (pY tq rfl G.y sZ (qe U1)))
 (pj (qc v0 (pY tq rfl G.y sZ (qe U2)))
 (pj (qc v0 (qH rfl (xy (ix:=[none,none]) (N':=["on","wish"])) (qF U3) (uL (n:=2) rfl (qp (qG 0) (qp (qG 1) tN))) rS (pI (uN G) r G.F (qe U1))))
 (pj (qc v0 (qH rfl (xy (ix:=[none,none]) (N':=["on","wish"])) (qF U3) (uL (n:=2) rfl (qp (qG 0) (qp (qG 1) tN))) rS v0))
 (pj (qc v0 (pY (Eb rfl) rfl G.bV Fw (qe (qH rfl (xy (ix:=[none]) (N':=["phone"])) (qF U1) (qG 0) rS (pM (rX (pK v0 pz) v0))))))
 (pk (qc v0 (pY (Eb rfl) rfl G.bV Fw (qe (qH rfl (xy (ix:=[none]) (N':=["group"])) (qF U2) (qG 0) rS (pM (rX (pK v0 pz) v0))))))))))))),?_⟩)
 rintro ds M Q ⟨p,r1,r2,r3,l,rfl,hp,h1,h2,h3,ok,q⟩
 have hz:=dN;have l1:=ok.p8;have l2:=ok.g3;have l3:=ok.w16;refine⟨r1,r2,r3,l,rfl,h1,h2,h3,ok,?_⟩;refine i' h1 λph hph=>?_;obtain⟨n1,e1,k1,c1,p1⟩:=sY (fs':=[("phones",.ref ph)]) (c:=.lst (l.mL.map qM)) hp hph;refine pq e1 ⟨(G.Z "phones" rfl),by show 0<1000;decide,?_⟩;show uD _ _ _ _ (pF (pF M ph (.lst (l.mL.map qM))) p (.ins a.h [("phones",.ref ph)]));generalize pF (pF M ph (.lst (l.mL.map qM))) p (.ins a.h [("phones",.ref ph)])=N1 at k1 c1 p1 ⊢;have Xp:=k1.lst (pT h1 hp) h1;have h2':=k1.lst (pT h2 hp) h2;have Zj:=k1.lst (pT h3 hp) h3;have f1:oM N1 ph=some (l.mL.map qM):=sQ c1;refine i' h2' λgr hgr=>?_;obtain⟨n2,e2,k2,c2,p2⟩:=sY (fs':=[("phones",.ref ph),("groups",.ref gr)]) (c:=.lst (l.groups.map qT)) p1 hgr;refine pq e2 ⟨(G.Z "groups" rfl),by show 1<1000;decide,?_⟩;show uD _ _ _ _ (pF (pF N1 gr (.lst (l.groups.map qT))) p (.ins a.h [("phones",.ref ph),("groups",.ref gr)]));generalize pF (pF N1 gr (.lst (l.groups.map qT))) p (.ins a.h [("phones",.ref ph),("groups",.ref gr)])=N2 at k2 c2 p2 ⊢;have g1:=k2.lst (pT Xp p1) Xp;have g2:=k2.lst (pT h2' p1) h2';have g3:=k2.lst (pT Zj p1) Zj;have f2:=k2.lst (pT f1 p1) f1;have f3:oM N2 gr=some (l.groups.map qT):=sQ c2;have kk2:=k1.trans k2;have m2:M gr=none:=rE k1 p1 hgr;clear Xp h2' Zj f1 c1 c2 k1 k2 e1 e2;refine i' g3 ?_;refine Bc (l.mO.map xn) (λpre acc δ Mx=>(∃x y,δ=[x,y])/\qr N2 Mx/\∃rs:QXQ,acc=rs.map D.ref/\(∀r∈rs,N2 r=none)/\sJ a Mx rs (l.mO.take pre.length)) (λpre acc δ Mx j=>j.2.1.lst g3) _ [] [] _ _ rfl (by rw[cV];simp only[dJ];omega) ⟨⟨none,none,rfl⟩,.refl,[],rfl,λr hr=>absurd hr (dF),rfl,λi r v e=>by simp at e⟩ ?_ ?_
 .rintro pre d post e acc δ Mx ⟨⟨x,y,rfl⟩,sx,rs,rfl,fr,wa⟩ k hk
  obtain⟨v,hv,rfl⟩:∃v,l.mO[pre.length]?=some v/\d=xn v:=by
   have:(l.mO.map xn)[pre.length]?=some d:=by rw[<-e];simp
   rw[dD]at this;cases z:l.mO[pre.length]? with
   | none=>rw[z]at this;cases this
   | some v=>rw[z]at this;exact⟨v,rfl,(dh this).symm⟩
  refine⟨rfl,⟨v.2,rfl,λr hr=>hk _ _ _ ⟨⟨_,_,rfl⟩,sx.trans (.new hr),rs++[r],?_,λr' hr'=>?_,?_⟩⟩⟩
  .rw[dS];rfl
  .rcases dY.mp hr' with z|z
   .exact fr r' z
   .rw[dz.mp z];exact sx.none hr
  .rw[cY,dO,gH,hv];exact wa.snoc hr
 rintro acc δ Mx ⟨⟨x,y,rfl⟩,sx,rs,rfl,fr,wa⟩ ws hws
 have wa:sJ a Mx rs l.mO:=by rw[cV,fg]at wa;exact wa
 obtain⟨n3,e3,k3,c3,p3⟩:=sY (fs':=[("phones",.ref ph),("groups",.ref gr),("wishes",.ref ws)]) (c:=.lst (rs.map D.ref)) (sx _ _ p2) hws;refine pq e3 ⟨(G.Z "wishes" rfl),by show 2<1000;decide,?_⟩;show uD _ _ _ _ (pF (pF Mx ws (.lst (rs.map D.ref))) p (.ins a.h [("phones",.ref ph),("groups",.ref gr),("wishes",.ref ws)]));generalize pF (pF Mx ws (.lst (rs.map D.ref))) p (.ins a.h [("phones",.ref ph),("groups",.ref gr),("wishes",.ref ws)])=N3 at k3 c3 p3 ⊢;have px:=sx _ _ p2;have i1:=k3.lst (pT (sx.lst g1) px) (sx.lst g1);have i2:=k3.lst (pT (sx.lst g2) px) (sx.lst g2);have i3:=k3.lst (pT (sx.lst g3) px) (sx.lst g3);have f4:=k3.lst (pT (sx.lst f2) px) (sx.lst f2);have f5:=k3.lst (pT (sx.lst f3) px) (sx.lst f3);have f6:oM N3 ws=some (rs.map D.ref):=sQ c3;have rp:∀r∈rs,r≠p:=λr hr z=>by have:=fr r hr;rw[z,p2]at this;cases this
 have w3:=wa.keep k3 rp;have kk3:=(kk2.trans sx.keep).trans k3;have m3:M ws=none:=rE (kk2.trans sx.keep) px hws;have mr:∀r∈rs,M r=none:=λr hr=>rE kk2 p2 (fr r hr);clear g1 g2 g3 f2 f3 c3 k3 e3 wa px kk2;refine i' i3 (Bz (f:=Wk) (λδ=>∃x y,δ=[x,y]) i3 _ [] _ ⟨none,none,rfl⟩ (by rw[cV];simp only[dJ];omega) (λd hd δ hj k hk=>?_) λon ZN=>?_)
 .obtain⟨x,y,rfl⟩:=hj;obtain⟨v,_,rfl⟩:=dC.mp hd;exact⟨rfl,hk _ ⟨_,_,rfl⟩⟩
 rw[dZ,SH];obtain⟨n4,e4,k4,c4,p4⟩:=sY (fs':=[("phones",.ref ph),("groups",.ref gr),("wishes",.ref ws),("on",.ref on)]) (c:=.lst (l.mO.map λw=>D.bl w.1)) p3 ZN;refine pq e4 ⟨(G.Z "on" rfl),by show 3<1000;decide,?_⟩;show uD _ _ _ _ (pF (pF N3 on (.lst (l.mO.map λw=>D.bl w.1))) p (.ins a.h [("phones",.ref ph),("groups",.ref gr),("wishes",.ref ws),("on",.ref on)]));generalize pF (pF N3 on (.lst (l.mO.map λw=>D.bl w.1))) p (.ins a.h [("phones",.ref ph),("groups",.ref gr),("wishes",.ref ws),("on",.ref on)])=N4 at k4 c4 p4 ⊢;have j1:=k4.lst (pT i1 p3) i1;have j2:=k4.lst (pT i2 p3) i2;have f7:=k4.lst (pT f4 p3) f4;have f8:=k4.lst (pT f5 p3) f5;have f9:=k4.lst (pT f6 p3) f6;have fa:oM N4 on=some (l.mO.map λw=>D.bl w.1):=sQ c4;have w4:=w3.keep k4 rp;have YL:=kk3.trans k4;have m4:M on=none:=rE kk3 p3 ZN;clear i1 i2 i3 f4 f5 f6 c4 k4 e4 w3 kk3;refine i' j1 (qZ (f:=Bj) j1 _ [] _ (by rw[cV];simp only[dJ];omega) (λd hd k hk=>?_) λq1 XH=>?_)
 .obtain⟨v,_,rfl⟩:=dC.mp hd;exact⟨pb rfl,hk⟩
 rw[dZ,GF];have Zk:=qr.new (c:=.lst (l.mL.map λp=>D.tup [.str p.1,qM p])) XH;refine i' pE (i' (xf (λp:ui=>p.1) qM l.mL) ⟨yD (iA (List.sublist_append_left _ _) ok.nd),λpr hpr=>?_⟩);obtain⟨n5,e5,k5,c5,p5⟩:=sY (fs':=[("phones",.ref ph),("groups",.ref gr),("wishes",.ref ws),("on",.ref on),("phone_rows",.ref pr)]) (c:=.dk (l.mL.map λx=>(Sum.inr x.1,qM x))) (Zk _ _ p4) hpr;refine pq e5 ⟨(G.Z "phone_rows" rfl),by show 4<1000;decide,?_⟩;have k5:=Zk.keep.trans k5;have YB:vU "phone_rows" (.ref pr) [("phones",.ref ph),("groups",.ref gr),("wishes",.ref ws),("on",.ref on)]=([("phones",.ref ph),("groups",.ref gr),("wishes",.ref ws),("on",.ref on),("phone_rows",.ref pr)]:List (Str×D)):=rfl;rw[YB];generalize pF (pF (pF N4 q1 (.lst (l.mL.map λp=>D.tup [.str p.1,qM p]))) pr (.dk (l.mL.map λx=>(Sum.inr x.1,qM x)))) p (.ins a.h [("phones",.ref ph),("groups",.ref gr),("wishes",.ref ws),("on",.ref on),("phone_rows",.ref pr)])=N5 at k5 c5 p5 ⊢;have mm:=k5.lst (pT j2 p4) j2;have fb:=k5.lst (pT f7 p4) f7;have fc:=k5.lst (pT f8 p4) f8;have fd:=k5.lst (pT f9 p4) f9;have fe:=k5.lst (pT fa p4) fa;have ff:zB N5 pr=some (R1 l):=Dv c5;have w5:=w4.keep k5 rp;have YM:=YL.trans k5;have m5:M pr=none:=rE (YL.trans Zk.keep) (Zk _ _ p4) hpr;clear j1 j2 f7 f8 f9 fa c5 k5 e5 w4 YL;refine i' mm (qZ (f:=Bj) mm _ [] _ (by rw[cV];simp only[dJ];omega) (λd hd k hk=>?_) λq2 Y4=>?_)
 .obtain⟨v,_,rfl⟩:=dC.mp hd;exact⟨pb rfl,hk⟩
 rw[dZ,FO];have sq2:=qr.new (c:=.lst (l.groups.map λg=>D.tup [.str g.1,qT g])) Y4;refine i' pE (i' (xf (λp:uj=>p.1) qT l.groups) ⟨yD (iA (jv _ _) ok.nd),λgd hgd=>?_⟩);obtain⟨n6,e6,k6,c6,p6⟩:=sY (fs':=Qk ph gr ws on pr gd) (c:=.dk (HE l)) (sq2 _ _ p5) hgd;have k6:=sq2.keep.trans k6;refine pq e6 ⟨(G.Z "group_rows" rfl),by show 5<1000;decide,_,.refl,?_⟩;have m6:M gd=none:=rE (YM.trans sq2.keep) (sq2 _ _ p5) hgd;have w6:=w5.keep k6 rp;have y1:=k6.lst (pT fb p5) fb;have y2:=k6.lst (pT fc p5) fc;have y3:=k6.lst (pT fd p5) fd;have y4:=k6.lst (pT fe p5) fe;have y5:=k6.dk (CA ff p5) ff;refine q _ (YM.trans k6) ⟨ph,gr,ws,on,pr,gd,rs,p6,y1,y2,y3,y4,y5,Dv c6,w6⟩ λWL hs=>?_;exact⟨ph,gr,ws,on,pr,gd,rs,hs _ _ (.inl rfl) p6,sQ (hs _ _ (.inr hph) (qo y1)),sQ (hs _ _ (.inr m2) (qo y2)),sQ (hs _ _ (.inr m3) (qo y3)),sQ (hs _ _ (.inr m4) (qo y4)),Dv (hs _ _ (.inr m5) (zJ y5)),Dv (hs _ _ (.inr m6) c6),w6.1,λi r v e1 e2=>hs _ _ (.inr (mr r (fu e1))) (w6.2 i r v e1 e2)⟩
theorem yb{α:Type}(f:α->Str)(g:α->D)(k:Str):∀l:List α,vE (l.map λx=>((Sum.inr (f x):qW),g x)) (Sum.inr k)=(l.find? λx=>decide (f x=k)).map g
 | []=>rfl
 | x::r=>by
  have ih:=yb f g k r;unfold vE at ih ⊢;rw[dX,fM,fM];by_cases h:f x=k
  .have h':decide ((Sum.inr (f x):qW)=Sum.inr k)=true:=dW (by rw[h]);simp[h]
  .have h':¬(Sum.inr (f x):qW)=Sum.inr k:=λz=>h (jZ z);simp only[h,h',decide_false];exact ih
noncomputable def pH.ng(l:pH)(x:Str):Option ui:=l.mL.find? λp=>decide (p.1=x)
noncomputable def pH.group(l:pH)(x:Str):Option uj:=l.groups.find? λg=>decide (g.1=x)
noncomputable def pH.mK(l:pH)(x:Str):QQQ:=(l.group x).elim [x] λg=>g.2.2
noncomputable def pH.mU(l:pH)(x:Str):Str:=(l.group x).elim "one" λg=>g.2.1
def FM(l:pH)(x:Str):vE (R1 l) (Sum.inr x)=(l.ng x).map qM:=yb (λp:ui=>p.1) qM x l.mL
def wB(l:pH)(x:Str):vE (HE l) (Sum.inr x)=(l.group x).map qT:=yb (λp:uj=>p.1) qT x l.groups
def yN(a:Ad):rf:=λds M Q=>BO λp (l:pH)=>ds=[.ref p]/\tI a M p l/\l.mL.length<=100/\∀q,M q=none->Q (.ref q) (pF M q (.lst (l.pn.map D.str)))
def EJ(a:Ad):rf:=λds M Q=>BO λp (l:pH)=>ds=[.ref p]/\tI a M p l/\l.mL.length<=100/\l.groups.length<=100/\∀q,M q=none->Q (.ref q) (pF M q (.lst (l.nm.map D.str)))
def EM(a:Ad):rf:=λds M Q=>Ba λp x v (l:pH)=>ds=[.ref p,.str x]/\tI a M p l/\l.ng x=some v/\Q (.int v.2.1) M
def G4(a:Ad):rf:=λds M Q=>Ba λp x v (l:pH)=>ds=[.ref p,.str x]/\tI a M p l/\l.ng x=some v/\Q (.int v.2.2) M
def zT(a:Ad):rf:=λds M Q=>CQ λp x (l:pH)=>ds=[.ref p,.str x]/\tI a M p l/\∀q,M q=none->Q (.ref q) (pF M q (.lst ((l.mK x).map D.str)))
def CT(a:Ad):rf:=λds M Q=>CQ λp x (l:pH)=>ds=[.ref p,.str x]/\tI a M p l/\Q (.str (l.mU x)) M
def tW:Fq P w K mg base 1 a.S (yN a):=by
 refine fq G.S.toDG yk (λr u=>⟨_,(pk (pD (qH rfl (xy (ix:=[none]) (N':=["phone"])) (qF (pC v0)) (qG 0) rS (pK v0 pz)))),?_⟩)
 rintro ds M Q ⟨p,l,rfl,hp,hl,q⟩
 have hz:=dN;obtain⟨ph,gr,ws,on,pr,gd,rs,h1,h2,h3,h4,h5,h6,h7,h8⟩:=hp;refine pq h1 (i' rfl (i' h2 ?_));refine qZ (f:=AY) h2 _ [] _ (by rw[cV];simp only[dJ];omega) (λd hd k hk=>?_) λq1 XH=>?_
 .obtain⟨x,_,rfl⟩:=dC.mp hd;exact hk
 rw[dZ,wN];exact⟨_,.refl,q q1 XH⟩
def CN:Fq P w K mg base 2 a.bD (EJ a):=by
 refine fq G.bD.toDG CY (λr u=>⟨_,(pk (pD (pU (ya v0 G.h.toCls G.S (tW G) r) (qH rfl (xy (ix:=[none]) (N':=["group"])) (qF (pC v0)) (qG 0) rS (pK v0 pz))))),?_⟩)
 rintro ds M Q ⟨p,l,rfl,hp,hl,hl2,q⟩
 have hz:=dN;have WX:=hp;obtain⟨ph,gr,ws,on,pr,gd,rs,h1,h2,h3,h4,h5,h6,h7,h8⟩:=hp;refine pq h1 ⟨rfl,_,⟨rfl,rfl⟩,p,l,rfl,WX,hl,λq1 XH=>?_⟩;have s1:=qr.new (c:=.lst (l.pn.map D.str)) XH;have e1:=@pE M q1 (l.pn.map D.str);generalize pF M q1 (.lst (l.pn.map D.str))=M1 at s1 e1 ⊢;have Zj:=s1.lst h3;refine pq (s1 _ _ h1) (i' rfl (i' Zj ?_));refine qZ (f:=AY) Zj _ [] _ (by rw[cV];simp only[dJ];omega) (λd hd k hk=>?_) λq2 Y4=>?_
 .obtain⟨x,_,rfl⟩:=dC.mp hd;exact hk
 rw[dZ,wM];have s2:=qr.new (c:=.lst ((l.groups.map (·.1)).map D.str)) Y4;refine i' (s2.lst e1) (i' pE ⟨?_,λq3 hq3=>?_⟩)
 .rw[cV,cV,cV];show(l.mL.map (·.1)).length+_<=_;rw[cV];omega
 have en:l.pn.map D.str++(l.groups.map (·.1)).map D.str=l.nm.map D.str:=by unfold pH.nm;rw[dS];rfl
 rw[en];exact⟨_,(s1.trans s2).upd,q q3 ((s1.trans s2).none hq3)⟩
def CP:Fq P w K mg base 1 a.bK (EM a):=by
 refine fq G.bK.toDG C9 (λr u=>⟨_,(pk (pD (pK (zt u (pC v0) U1) pz))),?_⟩)
 rintro ds M Q ⟨p,x,v,l,rfl,hp,hv,q⟩
 obtain⟨ph,gr,ws,on,pr,gd,rs,h1,h2,h3,h4,h5,h6,h7,h8⟩:=hp;exact pq h1 (i' rfl (i' rfl (i' h6 (i' (x:=qM v) (by rw[FM,hv];rfl) ⟨M,.refl,q⟩))))
def yW:Fq P w K mg base 1 a.aC (G4 a):=by
 refine fq G.aC.toDG EV (λr u=>⟨_,(pk (pD (pK (zt u (pC v0) U1) pz))),?_⟩)
 rintro ds M Q ⟨p,x,v,l,rfl,hp,hv,q⟩
 obtain⟨ph,gr,ws,on,pr,gd,rs,h1,h2,h3,h4,h5,h6,h7,h8⟩:=hp;exact pq h1 (i' rfl (i' rfl (i' h6 (i' (x:=qM v) (by rw[FM,hv];rfl) ⟨M,.refl,q⟩))))
def uB:Fq P w K mg base 1 a.X (zT a):=by
 refine fq G.X.toDG zI (λr u=>⟨_,(pj (pQ (Nx u U1 (pC v0))
 (pk (pD (pY tq rfl G.y sZ (qe (pK (zt u (pC v0) U1) pz)))))
 pJ)
 (pk (pD (qP (qe U1))))),?_⟩)
 rintro ds M Q ⟨p,x,l,rfl,hp,q⟩
 obtain⟨ph,gr,ws,on,pr,gd,rs,h1,h2,h3,h4,h5,h6,h7,h8⟩:=hp;refine pq h1 (i' rfl (i' h7 ?_));cases e:l.group x with
 | none=>refine Ll (c:=(vE (HE l) (Sum.inr x)).isSome) (by rw[wB,e];rfl) ⟨pb rfl,λq1 XH=>⟨_,.refl,?_⟩⟩;have:=q q1 XH;unfold pH.mK at this;rw[e]at this;exact this
 | some g=>refine AX (c:=(vE (HE l) (Sum.inr x)).isSome) (by rw[wB,e];rfl) (pq h1 (i' rfl (i' rfl (i' h7 (i' (x:=qT g) (by rw[wB,e];rfl) λq1 XH=>⟨_,.refl,?_⟩)))));have:=q q1 XH;unfold pH.mK at this;rw[e]at this;exact this
def xT:Fq P w K mg base 1 a.aM (CT a):=by
 refine fq G.aM.toDG Cw (λr u=>⟨_,(pj (pQ (Nx u U1 (pC v0))
 (pk (pD (pK (zt u (pC v0) U1) pz)))
 pJ)
 (pk (pD pA))),?_⟩)
 rintro ds M Q ⟨p,x,l,rfl,hp,q⟩
 obtain⟨ph,gr,ws,on,pr,gd,rs,h1,h2,h3,h4,h5,h6,h7,h8⟩:=hp;refine pq h1 (i' rfl (i' h7 ?_));cases e:l.group x with
 | none=>refine Ll (c:=(vE (HE l) (Sum.inr x)).isSome) (by rw[wB,e];rfl) ⟨M,.refl,?_⟩;unfold pH.mU at q;rw[e]at q;exact q
 | some g=>refine AX (c:=(vE (HE l) (Sum.inr x)).isSome) (by rw[wB,e];rfl) (pq h1 (i' rfl (i' rfl (i' h7 (i' (x:=qT g) (by rw[wB,e];rfl) ⟨M,.refl,?_⟩)))));unfold pH.mU at q;rw[e]at q;exact q
noncomputable def PX:List Int:=[1,1,2,2,3]
noncomputable def P0:List Int:=[0,1,1,2,5,9]
noncomputable def OE:QQQ:=["all","turns"]
noncomputable def GL(t:List Int)(i:Int):Int:=t.getD i.toNat 0
noncomputable def vZ(s:Int)(i:Nat):ui:=(x8 s (0+(i:Nat)),GL PX (qA (s+17*(0+(i:Nat))*(0+(i:Nat))) 16807 5),GL P0 (qA (s+17*(0+(i:Nat))*(0+(i:Nat))) 39373 6))
noncomputable def rJ(s m:Int):Nat:=(2+qA s 48271 (m - 1)).toNat
noncomputable def qz(s m:Int):List ui:=(List.range (rJ s m)).map (vZ s)
noncomputable def zV(s:Int)(own:QQQ)(i:Nat):uj:=(x8 s (8+(0+(i:Nat))),Cs OE (qA (s+5*(0+(i:Nat))) 742938285 2),vR own (s+11*(0+(i:Nat))) 4)
noncomputable def vM(s:Int):Nat:=(qA s 69621 3).toNat
noncomputable def qV(s:Int)(own:QQQ):List uj:=(List.range (vM s)).map (zV s own)
def Gs{ts:List Int}{i:Int}(h0:0<=i)(h1:i<ts.length):vC (ts.map D.int) i=some (D.int (GL ts i)):=by
 obtain⟨n,rfl⟩:=eC h0;have YF:n<ts.length:=by omega
 refine ur ?_;rw[dD,cX YF];simp[GL,YF]
def Ce{n:Nat}{pre post:List D}{d:D}(e:pre++d::post=(List.range n).map λi=>D.int (0+(i:Nat))):d=.int (0+(pre.length:Nat))/\pre.length<n:=by
 have h:((List.range n).map λi=>D.int (0+(i:Nat)))[pre.length]?=some d:=by rw[<-e];simp
 have hl:pre.length<n:=by
  have:=(c9.mp h).1
  simpa using this
 rw[dD,kF hl]at h;exact⟨(dh h).symm,hl⟩
def Bp{α β:Type}(f:Nat->α)(g:α->β)(n:Nat):((List.range n).map f).map g++[g (f n)]=((List.range (n+1)).map f).map g:=by rw[iT,dS,dS];rfl
def Hg:rf:=λds M Q=>BO λs m=>ds=[.int s,.int m]/\2<=m/\m<=100/\∀q,M q=none->Q (.ref q) (pF M q (.lst ((qz s m).map qM)))
def Ie:rf:=λds M Q=>CQ λs o own=>ds=[.int s,.ref o]/\oM M o=some (own.map D.str)/\own≠[]/\own.length<=64/\∀q,M q=none->Q (.ref q) (pF M q (.lst ((qV s own).map qT)))
def wY{s m:Int}(h2:2<=m)(h:m<=100):rJ s m<=100/\2<=rJ s m:=by have d0:=qU (c:=s) (f:=48271) (m:=m - 1) (by omega);have d1:=qL (c:=s) (f:=48271) (m:=m - 1) (by omega);unfold rJ;omega
def wG{s:Int}:vM s<=3:=by have d0:=qU (c:=s) (f:=69621) (m:=3) (by decide);have d1:=qL (c:=s) (f:=69621) (m:=3) (by decide);unfold vM;omega
def HC:Fq P w K mg base 2 a.bk Hg:=by
 refine fq G.bk.toDG uO (λr u=>⟨_,(pj (pL 2 uO (qP sX))
 (pj (uk eQ rfl (wu rfl G.aP (qe (pU pz (pI (qK G) r G.i (rb v0 pz (pU U1 pz)))))) (rh 3 uO)
 (pj (pL 4 uO (pK (pM (pV pz (pV pz (rb pz pz pz)))) (pI (qK G) r G.i (rb (pU v0 (pU (pU pz U3) U3)) pz pz))))
 (pk (pO (rR U2 (qe (pM (rb (pI (IZ G) r G.ag (rX v0 U3)) v4 (pK (pM (pV pz (pV pz (pV pz (rb pz pz pz))))) (pI (qK G) r G.i (rb (pU v0 (pU (pU pz U3) U3)) pz pz)))))))))))
 (pk (pD U2)))),?_⟩)
 rintro ds M Q ⟨s,m,rfl,h2,h100,q⟩
 have hz:=dN;have d0:=qU (c:=s) (f:=48271) (m:=m - 1) (by omega);have d1:=qL (c:=s) (f:=48271) (m:=m - 1) (by omega);have nl:=(wY (s:=s) h2 h100).1;refine⟨pb rfl,λr hr=>⟨s,_,_,rfl,by show 0<m - 1;omega,rfl,⟨?_,?_⟩,?_⟩⟩
 .show -(2 ^ 62)<=2+qA s 48271 (m - 1);omega
 .show 2+qA s 48271 (m - 1)<2 ^ 62;omega
 refine uU ((List.range (rJ s m)).map λi=>D.int (0+(i:Nat))) (λpre δ M'=>M'=pF M r (.lst (((List.range pre.length).map (vZ s)).map qM))/\∃x y,δ=[some (.int s),some (.int m),some (.ref r),x,y]) (λ_ _ _ _=>trivial) _ [] _ _ rfl ⟨rfl,none,none,rfl⟩ ?_ ?_
 .rintro pre d post e δ M' ⟨rfl,x,y,rfl⟩ nx WS
  obtain⟨rfl,WV⟩:=Ce e;generalize hi:pre.length=i at WV WS ⊢;have cm:CM (17*(0+(i:Int))) (0+(i:Int)):=.inr ⟨by omega,by omega⟩;have c17:CM 17 (0+(i:Int)):=.inl ⟨by decide,by decide⟩;have t5:vC [D.int 1,.int 1,.int 2,.int 2,.int 3] (qA (s+17*(0+(i:Int))*(0+(i:Int))) 16807 5)=some (.int (vZ s i).2.1):=Gs (ts:=PX) (qU (by decide)) (qL (by decide));have t6:vC [D.int 0,.int 1,.int 1,.int 2,.int 5,.int 9] (qA (s+17*(0+(i:Int))*(0+(i:Int))) 39373 6)=some (.int (vZ s i).2.2):=Gs (ts:=P0) (qU (by decide)) (qL (by decide));refine⟨pb rfl,c17,cm,_,_,_,rfl,by decide,i' t5 ?_⟩;refine⟨by show(oM _ r).isSome=true;rw[pE];rfl,s,_,rfl,pb rfl,c17,cm,_,_,_,rfl,by decide,i' t6 ⟨pb rfl,i' pE ⟨?_,?_⟩⟩⟩
  .rw[cV,cV,eD];omega
  .refine WS _ _ ⟨?_,_,_,rfl⟩;rw[rH,cY,hi];show pF M r (.lst (_++[qM (vZ s i)]))=_;rw[Bp];rfl
 .rintro δ M' ⟨rfl,x,y,rfl⟩
  refine⟨_,.refl,?_⟩;rw[cV,eD];exact q r hr
def Ig:Fq P w K mg base 3 a.bl Ie:=by
 refine fq G.bl.toDG uP (λr u=>⟨_,(pj (pL 2 uP (qP sX))
 (pj (uk eQ rfl (wu rfl G.aP (qe (pI (qK G) r G.i (rb v0 pz pz)))) (rh 3 uP)
 (pj (pL 4 uP (pK (pM (rX pA pA)) (pI (qK G) r G.i (rb (pU v0 (pU pz U3)) pz pz))))
 (pk (pO (rR U2 (qe (pM (rb (pI (IZ G) r G.ag (rX v0 (pU pz U3))) v4 (pI (yj G) r G.Q (rb U1 (pU v0 (pU pz U3)) pz))))))))))
 (pk (pD U2)))),?_⟩)
 rintro ds M Q ⟨s,o,own,rfl,ho,W8,h64,q⟩
 have hz:=dN;have d0:=qU (c:=s) (f:=69621) (m:=3) (by decide);have d1:=qL (c:=s) (f:=69621) (m:=3) (by decide);have nl:=wG (s:=s);refine⟨pb rfl,λr hr=>⟨s,_,_,rfl,by decide,rfl,⟨?_,?_⟩,?_⟩⟩
 .show -(2 ^ 62)<=qA s 69621 3;omega
 .show qA s 69621 3<2 ^ 62;omega
 have nor:o≠r:=λz=>by rw[z]at ho;unfold oM at ho;rw[hr]at ho;cases ho
 refine uU ((List.range (vM s)).map λi=>D.int (0+(i:Nat))) (λpre δ M'=>M'=pF M r (.lst (((List.range pre.length).map (zV s own)).map qT))/\∃x y,δ=[some (.int s),some (.ref o),some (.ref r),x,y]) (λ_ _ _ _=>trivial) _ [] _ _ rfl ⟨rfl,none,none,rfl⟩ ?_ ?_
 .rintro pre d post e δ M' ⟨rfl,x,y,rfl⟩ nx WS
  obtain⟨rfl,WV⟩:=Ce e;generalize hi:pre.length=i at WV WS ⊢;have c5:CM 5 (0+(i:Int)):=.inl ⟨by decide,by decide⟩;have c11:CM 11 (0+(i:Int)):=.inl ⟨by decide,by decide⟩;have tm:vC [D.str "all",.str "turns"] (qA (s+5*(0+(i:Int))) 742938285 2)=some (.str (zV s own i).2.1):=Hl (row:=OE) (qU (by decide)) (qL (by decide));have Xn:oM (pF M r (.lst (((List.range i).map (zV s own)).map qT))) o=some (own.map D.str):=by unfold oM;rw[uc nor];exact ho
  refine⟨pb rfl,c5,_,_,_,rfl,by decide,i' tm ?_⟩;refine⟨by show(oM _ r).isSome=true;rw[pE];rfl,s,_,rfl,c11,o,_,_,own,rfl,Xn,W8,by decide,h64,pb rfl,i' pE ⟨?_,?_⟩⟩
  .rw[cV,cV,eD];omega
  .refine WS _ _ ⟨?_,_,_,rfl⟩;rw[rH,cY,hi];show pF M r (.lst (_++[qT (zV s own i)]))=_;rw[Bp];rfl
 .rintro δ M' ⟨rfl,x,y,rfl⟩
  refine⟨_,.refl,?_⟩;rw[cV,eD];exact q r hr
noncomputable def Iy(ns:List Int)(own nm:QQQ)(i:Nat):vB:=(decide (0<qA (cell ns (1+(0+(i:Nat)))+31*(0+(i:Nat))*(0+(i:Nat))) 22695477 6),wz (cell ns (1+(0+(i:Nat)))+31*(0+(i:Nat))*(0+(i:Nat))) own nm)
noncomputable def wC(s:Int):Nat:=(qA s 950706376 11).toNat
noncomputable def zh(ns:List Int)(m:Int):pH:=
 let s:=cell ns 0;let own:=(qz s m).map (·.1);let gs:=qV s own
 ⟨qz s m,gs,(List.range (wC s)).map (Iy ns own (own++gs.map (·.1)))⟩
def LV:rf:=λds M Q=>BO λns m=>ds=[.rl (ns.map D.int),.int m]/\2<=m/\m<=8/\∀r1 r2 r3 M',qr M M'->oM M' r1=some ((zh ns m).mL.map qM)->oM M' r2=some ((zh ns m).groups.map qT)->oM M' r3=some ((zh ns m).mO.map xn)->Q (.tup [.ref r1,.ref r2,.ref r3]) M'
def MR:Fq P w K mg base 4 a.bn LV:=by
 refine fq G.bn.toDG sC (λr u=>⟨_,(pj (pL 2 sC (pI (KZ G) r G.P (rX v0 pz)))
 (pj (pL 3 sC (pI (HC G) r G.bk (rX U2 U1)))
 (pj (vA (i:=4) sC.nd rfl (Or.inl rfl) rfl (xy (ix:=[none]) (N':=["_law_phone"])) (qF U3) (qG 0) rS (pK v0 pz))
 (pj (pL 5 sC (pI (Ig G) r G.bl (rX U2 v4)))
 (pj (pL 6 sC (pU v4 (qH rfl (xy (ix:=[none]) (N':=["_law_group"])) (qF v5) (qG 0) rS (pK v0 pz))))
 (pj (pL 7 sC (qP sX))
 (pj (uk eQ rfl (wu rfl G.aP (qe (pI (qK G) r G.i (rb U2 pz pz)))) (rh 8 sC)
 (pj (pL 9 sC (pU (pI (KZ G) r G.P (rX v0 (pU pz v8))) (pU (pU pz v8) v8)))
 (pk (pO (rR v7 (qe (pM (rX (pZ u (pI (qK G) r G.i (rb v9 pz pz)) pz) (pI (Oo G) r G.bm (rb v9 v4 v6))))))))))
 (pk (pD (pM (rb U3 v5 v7))))))))))),?_⟩)
 rintro ds M Q ⟨ns,m,rfl,h2,h8,q⟩
 have hz:=dN;have pl:=wY (s:=cell ns 0) h2 (by omega);have p8:rJ (cell ns 0) m<=8:=by have d1:=qL (c:=cell ns 0) (f:=48271) (m:=m - 1) (by omega);unfold rJ;omega
 have gl:=wG (s:=cell ns 0);have lp:(qz (cell ns 0) m).length=rJ (cell ns 0) m:=by unfold qz;rw[cV,eD]
 refine⟨ns,0,rfl,cell ns 0,m,rfl,h2,by omega,λr1 Xq=>?_⟩;have s1:=qr.new (c:=.lst ((qz (cell ns 0) m).map qM)) Xq;have a1:=@pE M r1 ((qz (cell ns 0) m).map qM);generalize pF M r1 (.lst ((qz (cell ns 0) m).map qM))=M1 at s1 a1 ⊢;refine i' a1 (qZ (f:=AY) a1 _ [] _ (by rw[cV];simp only[dJ];omega) (λd hd k hk=>?_) λo ho=>?_)
 .obtain⟨x,_,rfl⟩:=dC.mp hd;exact hk
 rw[dZ,wN];have s2:=s1.trans (qr.new (c:=.lst (((qz (cell ns 0) m).map (·.1)).map D.str)) ho);have b1:=(qr.new (c:=.lst (((qz (cell ns 0) m).map (·.1)).map D.str)) ho).lst a1;have bo:=@pE M1 o (((qz (cell ns 0) m).map (·.1)).map D.str);generalize pF M1 o (.lst (((qz (cell ns 0) m).map (·.1)).map D.str))=M2 at s2 b1 bo ⊢;have ol:((qz (cell ns 0) m).map (·.1)).length=rJ (cell ns 0) m:=by rw[cV,lp]
 have one:(qz (cell ns 0) m).map (·.1)≠[]:=λz=>by rw[z]at ol;have:0=rJ (cell ns 0) m:=ol;omega
 have WX:zh ns m=⟨qz (cell ns 0) m,qV (cell ns 0) ((qz (cell ns 0) m).map (·.1)),(List.range (wC (cell ns 0))).map (Iy ns ((qz (cell ns 0) m).map (·.1)) ((qz (cell ns 0) m).map (·.1)++(qV (cell ns 0) ((qz (cell ns 0) m).map (·.1))).map (·.1)))⟩:=rfl;rw[WX]at q;generalize (qz (cell ns 0) m).map (·.1)=own at bo ol one q ⊢;refine⟨cell ns 0,o,own,rfl,bo,one,by omega,λr2 Y5=>?_⟩;have t3:=qr.new (c:=.lst ((qV (cell ns 0) own).map qT)) Y5;have c2:=@pE M2 r2 ((qV (cell ns 0) own).map qT);have c1:=t3.lst b1;have co:=t3.lst bo;have s3:=s2.trans t3;generalize pF M2 r2 (.lst ((qV (cell ns 0) own).map qT))=M3 at s3 c1 c2 co ⊢;have gll:(qV (cell ns 0) own).length=vM (cell ns 0):=by unfold qV;rw[cV,eD]
 refine i' c2 (qZ (f:=AY) c2 _ [] _ (by rw[cV];simp only[dJ];omega) (λd hd k hk=>?_) λx4 hx4=>?_)
 .obtain⟨x,_,rfl⟩:=dC.mp hd;exact hk
 rw[dZ,wM];have t4:=qr.new (c:=.lst (((qV (cell ns 0) own).map (·.1)).map D.str)) hx4;refine i' (t4.lst co) (i' pE ⟨?_,λn hn=>?_⟩)
 .rw[cV,cV,cV];omega
 have en:own.map D.str++((qV (cell ns 0) own).map (·.1)).map D.str=(own++(qV (cell ns 0) own).map (·.1)).map D.str:=by rw[dS]
 rw[en];have nl:(own++(qV (cell ns 0) own).map (·.1)).length=rJ (cell ns 0) m+vM (cell ns 0):=by rw[cY,cV,ol,gll]
 have t5:=t4.trans (qr.new (c:=.lst ((own++(qV (cell ns 0) own).map (·.1)).map D.str)) hn);have en5:=@pE (pF M3 x4 (.lst (((qV (cell ns 0) own).map (·.1)).map D.str))) n ((own++(qV (cell ns 0) own).map (·.1)).map D.str);have e1:=t5.lst c1;have e2:=t5.lst c2;have eo:=t5.lst co;have s5:=s3.trans t5;generalize pF (pF M3 x4 (.lst (((qV (cell ns 0) own).map (·.1)).map D.str))) n (.lst ((own++(qV (cell ns 0) own).map (·.1)).map D.str))=M5 at s5 e1 e2 eo en5 ⊢;generalize own++(qV (cell ns 0) own).map (·.1)=nm at en5 nl q ⊢;have d0:=qU (c:=cell ns 0) (f:=950706376) (m:=11) (by decide);have d1:=qL (c:=cell ns 0) (f:=950706376) (m:=11) (by decide);refine⟨pb rfl,λr3 Zl=>⟨_,_,_,rfl,by decide,rfl,⟨?_,?_⟩,?_⟩⟩
 .show -(2 ^ 62)<=qA (cell ns 0) 950706376 11;omega
 .show qA (cell ns 0) 950706376 11<2 ^ 62;omega
 have t6:=qr.new (c:=.lst []) Zl;have g3:=@pE M5 r3 [];have no:o≠r3:=λz=>by have:=qo eo;rw[z,Zl]at this;cases this
 have nn:n≠r3:=λz=>by have:=qo en5;rw[z,Zl]at this;cases this
 have n1:r1≠r3:=λz=>by have:=qo e1;rw[z,Zl]at this;cases this
 have n2:r2≠r3:=λz=>by have:=qo e2;rw[z,Zl]at this;cases this
 have f1:=t6.lst e1;have f2:=t6.lst e2;have fo:=t6.lst eo;have fn:=t6.lst en5;have k6:qr M (pF M5 r3 (.lst [])):=s5.trans t6;have nr:M r3=none:=s5.none Zl;generalize pF M5 r3 (.lst [])=M6 at f1 f2 fo fn k6 g3 ⊢;have wl:wC (cell ns 0)<=10:=by unfold wC;omega
 refine uU ((List.range (wC (cell ns 0))).map λi=>D.int (0+(i:Nat))) (λpre δ M'=>sv r3 M6 M'/\oM M' r3=some (((List.range pre.length).map (Iy ns own nm)).map xn)/\∃x y,δ=[some (.rl (ns.map D.int)),some (.int m),some (.int (cell ns 0)),some (.ref r1),some (.ref o),some (.ref r2),some (.ref n),some (.ref r3),x,y]) (λp δ M' j=>trivial) _ [] _ _ rfl ⟨λ_ _ _ h=>h,g3,none,none,rfl⟩ ?_ ?_
 .rintro pre d post e δ M' ⟨kp,lr,x,y,rfl⟩ nx WS
  obtain⟨rfl,WV⟩:=Ce e;generalize hi:pre.length=i at WV WS lr ⊢;have c31:CM 31 (0+(i:Int)):=.inl ⟨by decide,by decide⟩;have cm:CM (31*(0+(i:Int))) (0+(i:Int)):=.inr ⟨by omega,by omega⟩;refine⟨ns,_,rfl,c31,cm,?_⟩;refine⟨by show(oM M' r3).isSome=true;rw[lr];rfl,_,_,_,rfl,by decide,_,o,n,own,nm,rfl,kp.lst no fo,kp.lst nn fn,one,by omega,by omega,by omega,pb rfl,i' lr ⟨?_,?_⟩⟩
  .rw[cV,cV,eD];omega
  .refine WS _ _ ⟨kp.trans .put,?_,_,_,rfl⟩;rw[pE,cY,hi];show some (_++[xn (Iy ns own nm i)])=_;rw[Bp];rfl
 .rintro δ M' ⟨kp,lr,x,y,rfl⟩
  rw[cV,eD]at lr;exact⟨pb rfl,M',.refl,q r1 r2 r3 M' (λb c h=>kp b c (λz=>by rw[z,nr]at h;cases h) (k6 b c h)) (kp.lst n1 f1) (kp.lst n2 f2) lr⟩
theorem BH(x:Array Nat):∀(n:Nat) (acc:Array Nat),((List.replicate n x).foldl (·++·) acc).toList=acc.toList++(List.replicate n x.toList).flatten
 | 0,acc=>by simp
 | n+1,acc=>by rw[eI,gb,BH x n (acc++x),eI,fP,ja,ft]
theorem FY(c:Nat):∀n:Nat,(List.replicate n [c]).flatten=List.replicate n c
 | 0=>rfl
 | n+1=>by rw[eI,fP,FY c n,eI];rfl
def DR(i n:Int):(yy (ug i) n).cps.toList=List.replicate n.toNat (97+i.toNat):=by show((List.replicate n.toNat (ug i).cps).foldl (·++·) #[]:Array Nat).toList=_;rw[BH];show[]++(List.replicate n.toNat [97+i.toNat]).flatten=_;rw[dZ,FY]
def yd(s v:Int):(x8 s v).cps.toList=List.replicate (ux s).toNat (97+(s / 36 % 26).toNat)++(97+((s / 936+v) % 26).toNat)::List.replicate (size s - 1 - ux s).toNat (97+(s / 36 % 26).toNat):=by show((yy (ug (s / 36 % 26)) (ux s)).cps++(ug ((s / 936+v) % 26)).cps++(yy (ug (s / 36 % 26)) (size s - 1 - ux s)).cps).toList=_;rw[ja,ja,DR,DR];show _++[97+((s / 936+v) % 26).toNat]++_=_;rw[ft];rfl
def Cd(s v:Int):1<=(x8 s v).length/\(x8 s v).length<=6:=by
 have e:(x8 s v).length=(x8 s v).cps.toList.length:=by simp[Str.length]
 rw[e,yd,cY,d9,iL,iL];have h1:=Gi s;have h2:=IG s;have h3:0<=ux s:=eP _ (by omega);have h4:ux s<size s:=eM _ h1;omega
def LP{i:Int}(h0:0<=i)(h1:i<26):CK ⟨#[97+i.toNat]⟩ uu=true:=by
 obtain⟨n,rfl⟩:=eC h0;have hn:n<26:=by omega
 have key:∀n:_root_.Fin 26,CK ⟨#[97+n.val]⟩ uu=true:=by decide+kernel
 exact key ⟨n,hn⟩
def Du(s v:Int):uC (x8 s v)=true:=by
 obtain⟨h1,h2⟩:=Cd s v;unfold uC;rw[dW (show(1:Int)<=(x8 s v).length by omega),dW (show((x8 s v).length:Int)<=6 by omega),eE,eE,eK];intro c hc;rw[yd]at hc;have k1:=LP (eP (s / 36) (show(26:Int)≠0 by decide)) (eM (s / 36) (by decide));have k2:=LP (eP (s / 936+v) (show(26:Int)≠0 by decide)) (eM (s / 936+v) (by decide));rcases dY.mp hc with z|z
 .rw[jN z];exact k1
 .rcases dg.mp z with z|z
  .rw[z];exact k2
  .rw[jN z];exact k1
def BD{s u v:Int}(hu:0<=u)(hu':u<26)(hv:0<=v)(hv':v<26)(e:x8 s u=x8 s v):u=v:=by
 have e':(x8 s u).cps.toList=(x8 s v).cps.toList:=by rw[e]
 rw[yd,yd]at e';have:=(List.append_cancel_left e');have:=(gu this).1;have a1:=eP (s / 936+u) (show(26:Int)≠0 by decide);have a2:=eP (s / 936+v) (show(26:Int)≠0 by decide);have h:(s / 936+u) % 26=(s / 936+v) % 26:=by omega
 omega
def EK{ss:QQQ}{x:Str}(h:x∈ss):xt ss x:=gz.mpr ⟨x,h,by simp⟩
def Bl{row:QQQ}{i:Int}(h0:0<=i)(h1:i<row.length):Cs row i∈row:=by
 obtain⟨n,rfl⟩:=eC h0;have hn:n<row.length:=by omega
 have:Cs row (n:Int)=row[n]:=by simp[Cs,hn]
 rw[this];exact ib hn
def IQ{row:QQQ}{i j:Int}(nd:row.Nodup)(h0:0<=i)(h1:i<row.length)(g0:0<=j)(g1:j<row.length)(e:Cs row i=Cs row j):i=j:=by
 obtain⟨n,rfl⟩:=eC h0;obtain⟨k,rfl⟩:=eC g0;have hn:n<row.length:=by omega
 have hk:k<row.length:=by omega
 have e1:Cs row (n:Int)=row[n]:=by simp[Cs,hn]
 have e2:Cs row (k:Int)=row[k]:=by simp[Cs,hk]
 rw[e1,e2]at e;have pw:=jw.mp nd;rcases Nat.lt_trichotomy n k with z|z|z
 .exact absurd e (pw n k hn hk z)
 .rw[z]
 .exact absurd e.symm (pw k n hk hn z)
def Ai{α:Type}(f:Nat->α)(n:Nat)(h:∀i j,i<n->j<n->f i=f j->i=j):((List.range n).map f).Nodup:=by refine jw.mpr λi j hi hj WV e=>?_;rw[cV,eD]at hi hj;rw[lY,lY,k9,k9]at e;have:=h i j hi hj e;omega
def Ca{row:QQQ}{c m:Int}(hr:row≠[])(hm:0<m):1<=xm row c m/\(xm row c m:Int)<=m/\xm row c m<=row.length:=by
 have hl:0<row.length:=fC.mpr hr;have d0:=qU (c:=c) (f:=40692) (m:=if (row.length:Int)<m then(row.length:Int)else m) (by split<;>omega);have d1:=qL (c:=c) (f:=40692) (m:=if (row.length:Int)<m then(row.length:Int)else m) (by split<;>omega);unfold xm;by_cases h:(row.length:Int)<m
 .rw[df h]at d0 d1 ⊢;omega
 .rw[cZ h]at d0 d1 ⊢;omega
def Cz{row:QQQ}{c:Int}(hr:row≠[])(j:Nat):0<=(qA c 69621 row.length+(0+(j:Nat))) % (row.length:Int)/\(qA c 69621 row.length+(0+(j:Nat))) % (row.length:Int)<row.length:=by have hl:0<row.length:=fC.mpr hr;exact⟨eP _ (by omega),eM _ (by omega)⟩
def IY{d n i j:Int}(hn:0<n)(hi:0<=i)(X7:i<n)(hj:0<=j)(hj':j<n)(e:(d+i) % n=(d+j) % n):i=j:=by
 have h1:=kh (d+i) n;have h2:=kh (d+j) n;generalize (d+i) / n=a at h1;generalize (d+j) / n=b at h2;have h3:i - j=n*(a - b):=by rw[Int.mul_sub];omega
 rcases Int.lt_trichotomy (a - b) 0 with z|z|z
 .have:n*(a - b)<=n*(-1):=iY (by omega) (by omega);omega
 .rw[z]at h3;omega
 .have:n*1<=n*(a - b):=iY (by omega) (by omega);omega
def Ii{row:QQQ}{c m:Int}(nd:row.Nodup)(hr:row≠[])(hm:0<m):(vR row c m).Nodup:=by have hl:0<row.length:=fC.mpr hr;obtain⟨_,_,l3⟩:=Ca (c:=c) hr hm;refine Ai _ _ λi j hi hj e=>?_;obtain⟨a0,a1⟩:=Cz (c:=c) hr i;obtain⟨b0,b1⟩:=Cz (c:=c) hr j;have e':=IQ nd a0 a1 b0 b1 e;have:=IY (d:=qA c 69621 row.length) (n:=row.length) (i:=0+(i:Nat)) (j:=0+(j:Nat)) (by omega) (by omega) (by omega) (by omega) (by omega) e';omega
def xX{row:QQQ}{c m k:Int}(nd:row.Nodup)(hr:row≠[])(hm:0<m)(hk:m<=k):sG (vR row c m) row k=true:=by
 obtain⟨l1,l2,l3⟩:=Ca (c:=c) hr hm;have el:(vR row c m).length=xm row c m:=by unfold vR;rw[cV,eD]
 unfold sG;rw[el,dW (show(1:Int)<=xm row c m by omega),dW (show(xm row c m:Int)<=k by omega),Dz (Ii nd hr hm),eE,eE,eE,eK];intro x hx;unfold vR at hx;obtain⟨j,_,rfl⟩:=dC.mp hx;obtain⟨a0,a1⟩:=Cz (c:=c) hr j;exact EK (Bl a0 a1)
def BU{row:QQQ}{c m:Int}(hr:row≠[])(hm:0<m)(h:m<=100):(vR row c m).length<4000:=by
 obtain⟨l1,l2,l3⟩:=Ca (c:=c) hr hm;have el:(vR row c m).length=xm row c m:=by unfold vR;rw[cV,eD]
 omega
def OI{c:Int}{own all:QQQ}(no:own.Nodup)(na:all.Nodup)(ho:own≠[])(ha:2<=all.length):zY own all (wz c own all):=by
 have hl:(0:Int)<own.length:=by have:=fC.mpr ho;omega
 have ha0:all≠[]:=λz=>by rw[z]at ha;simp at ha
 have hx:=EK (Bl (qU (c:=c) (f:=16807) hl) (qL (c:=c) (f:=16807) hl));have p0:=qU (c:=c) (f:=39373) (m:=all.length) (by omega);have p1:=qL (c:=c) (f:=39373) (m:=all.length) (by omega);have e0:=qU (c:=c) (f:=742938285) (m:=(all.length:Int) - 1) (by omega);have e1:=qL (c:=c) (f:=742938285) (m:=(all.length:Int) - 1) (by omega);have z0:=eP (qA c 39373 all.length+1+qA c 742938285 ((all.length:Int) - 1)) (show(all.length:Int)≠0 by omega);have z1:=eM (qA c 39373 all.length+1+qA c 742938285 ((all.length:Int) - 1)) (show(0:Int)<all.length by omega);have hy:=EK (Bl p0 p1);have hzz:=EK (Bl z0 z1);have ne:Cs all (qA c 39373 all.length)≠Cs all ((qA c 39373 all.length+1+qA c 742938285 ((all.length:Int) - 1)) % all.length):=λz=>by
  have q:=IQ na p0 p1 z0 z1 z;have q2:(qA c 39373 all.length+0) % (all.length:Int)=(qA c 39373 all.length+(1+qA c 742938285 ((all.length:Int) - 1))) % (all.length:Int):=by rw[Int.add_zero,Int.emod_eq_of_lt p0 p1,<-Int.add_assoc];exact q
  have:=IY (by omega) (by omega) (by omega) (by omega) (by omega) q2;omega
 have f0:=qU (c:=c) (f:=22695477) (m:=24) (by decide);have f1:=qL (c:=c) (f:=22695477) (m:=24) (by decide);have g0:=qU (c:=c) (f:=48271) (m:=23) (by decide);have g1:=qL (c:=c) (f:=48271) (m:=23) (by decide);have t0:=qU (c:=c) (f:=950706376) (m:=5) (by decide);have t1:=qL (c:=c) (f:=950706376) (m:=5) (by decide);unfold wz;simp only;split
 .exact⟨hx,BU ha0 (by decide) (by decide),xX na ha0 (by decide) (by decide)⟩
 .split
  .exact⟨hy,BU ho (by decide) (by decide),xX no ho (by decide) (by decide)⟩
  .split
   .exact⟨hy,hzz,ne⟩
   .split
    .refine⟨hy,hzz,ne,⟨f0,by omega⟩,⟨eP _ (by decide),?_⟩,?_⟩
     .have:=eM (qA c 22695477 24+1+qA c 48271 23) (show(0:Int)<24 by decide);omega
     .omega
    .split
     .exact⟨hy,hzz,ne⟩
     .split
      .refine⟨hy,hzz,ne,?_⟩;generalize qA c 950706376 5=d at t0 t1;have:d=0\/d=1\/d=2\/d=3\/d=4:=by omega
       rcases this with z|z|z|z|z<;>(subst z;decide)
      .split
       .exact hx
       .exact hx
def K6(s:Int)(i:Nat):FL (vZ s i):=by
 have t0:=qU (c:=s+17*(0+(i:Nat))*(0+(i:Nat))) (f:=16807) (m:=5) (by decide);have t1:=qL (c:=s+17*(0+(i:Nat))*(0+(i:Nat))) (f:=16807) (m:=5) (by decide);have u0:=qU (c:=s+17*(0+(i:Nat))*(0+(i:Nat))) (f:=39373) (m:=6) (by decide);have u1:=qL (c:=s+17*(0+(i:Nat))*(0+(i:Nat))) (f:=39373) (m:=6) (by decide);have a:1<=(vZ s i).2.1/\(vZ s i).2.1<=3:=by
  show 1<=GL PX (qA (s+17*(0+(i:Nat))*(0+(i:Nat))) 16807 5)/\GL PX (qA (s+17*(0+(i:Nat))*(0+(i:Nat))) 16807 5)<=3;generalize qA (s+17*(0+(i:Nat))*(0+(i:Nat))) 16807 5=d at t0 t1;have:d=0\/d=1\/d=2\/d=3\/d=4:=by omega
  rcases this with z|z|z|z|z<;>(subst z;decide)
 have b:0<=(vZ s i).2.2/\(vZ s i).2.2<=9:=by
  show 0<=GL P0 (qA (s+17*(0+(i:Nat))*(0+(i:Nat))) 39373 6)/\GL P0 (qA (s+17*(0+(i:Nat))*(0+(i:Nat))) 39373 6)<=9;generalize qA (s+17*(0+(i:Nat))*(0+(i:Nat))) 39373 6=d at u0 u1;have:d=0\/d=1\/d=2\/d=3\/d=4\/d=5:=by omega
  rcases this with z|z|z|z|z|z<;>(subst z;decide)
 exact⟨d6 (Cd s (0+(i:Nat))).2 (by decide),Du _ _,a.1,a.2,b.1,b.2⟩
def MO{s:Int}{own:QQQ}(nd:own.Nodup)(hr:own≠[])(i:Nat):Es own (zV s own i):=by
 have t0:=qU (c:=s+5*(0+(i:Nat))) (f:=742938285) (m:=2) (by decide);have t1:=qL (c:=s+5*(0+(i:Nat))) (f:=742938285) (m:=2) (by decide);refine⟨d6 (Cd s (8+(0+(i:Nat)))).2 (by decide),Du _ _,?_,BU hr (by decide) (by decide),xX nd hr (by decide) (by decide)⟩;show Cs OE (qA (s+5*(0+(i:Nat))) 742938285 2)="all"\/Cs OE (qA (s+5*(0+(i:Nat))) 742938285 2)="turns";generalize qA (s+5*(0+(i:Nat))) 742938285 2=d at t0 t1;have:d=0\/d=1:=by omega
 rcases this with z|z
 .subst z;exact .inl rfl
 .subst z;exact .inr rfl
def KL(s m:Int):(qz s m).map (·.1)=(List.range (rJ s m)).map λi=>x8 s (0+(i:Nat)):=by unfold qz;rw[eh];rfl
def Gu{s m:Int}(h2:2<=m)(h8:m<=8):((qz s m).map (·.1)).Nodup/\∀own,((qz s m).map (·.1)++(qV s own).map (·.1)).Nodup:=by
 have d1:=qL (c:=s) (f:=48271) (m:=m - 1) (by omega);have d0:=qU (c:=s) (f:=48271) (m:=m - 1) (by omega);have p8:rJ s m<=8:=by unfold rJ;omega
 have g3:=wG (s:=s);have a:((qz s m).map (·.1)).Nodup:=by rw[KL];refine Ai _ _ λi j hi hj e=>?_;have:=BD (by omega) (by omega) (by omega) (by omega) e;omega
 refine⟨a,λown=>?_⟩;have ge:(qV s own).map (·.1)=(List.range (vM s)).map λi=>x8 s (8+(0+(i:Nat))):=by unfold qV;rw[eh];rfl
 rw[fQ];refine⟨a,?_,λx hx y hy e=>?_⟩
 .rw[ge];refine Ai _ _ λi j hi hj e=>?_;have:=BD (by omega) (by omega) (by omega) (by omega) e;omega
 .rw[KL]at hx;rw[ge]at hy;obtain⟨i,hi,rfl⟩:=dC.mp hx;obtain⟨j,hj,rfl⟩:=dC.mp hy;have hi:=gj.mp hi;have hj:=gj.mp hj;have:=BD (by omega) (by omega) (by omega) (by omega) e;omega
def OB{ns:List Int}{m:Int}(h2:2<=m)(h8:m<=8):rL (zh ns m):=by
 obtain⟨n1,n2⟩:=Gu (s:=cell ns 0) h2 h8;have pl:=wY (s:=cell ns 0) h2 (by omega);have p8:rJ (cell ns 0) m<=8:=by have d1:=qL (c:=cell ns 0) (f:=48271) (m:=m - 1) (by omega);unfold rJ;omega
 have lp:(qz (cell ns 0) m).length=rJ (cell ns 0) m:=by unfold qz;rw[cV,eD]
 have ol:((qz (cell ns 0) m).map (·.1)).length=rJ (cell ns 0) m:=by rw[cV,lp]
 have one:(qz (cell ns 0) m).map (·.1)≠[]:=λz=>by rw[z]at ol;have:0=rJ (cell ns 0) m:=ol;omega
 have gl:(qV (cell ns 0) ((qz (cell ns 0) m).map (·.1))).length=vM (cell ns 0):=by unfold qV;rw[cV,eD]
 refine⟨?_,?_,λp hp=>?_,?_,λg hg=>?_,n2 _,?_,λv hv=>?_⟩
 .show 1<=(qz (cell ns 0) m).length;omega
 .show(qz (cell ns 0) m).length<=8;omega
 .obtain⟨i,_,rfl⟩:=dC.mp hp;exact K6 _ i
 .show(qV (cell ns 0) ((qz (cell ns 0) m).map (·.1))).length<=3;rw[gl];exact wG
 .obtain⟨i,_,rfl⟩:=dC.mp hg;exact MO n1 one i
 .show((List.range (wC (cell ns 0))).map _).length<=16;rw[cV,eD];have d1:=qL (c:=cell ns 0) (f:=950706376) (m:=11) (by decide);unfold wC;omega
 .obtain⟨i,hi,rfl⟩:=dC.mp hv;refine OI n1 (n2 _) one ?_;show 2<=((qz (cell ns 0) m).map (·.1)++_).length;rw[cY,ol];omega
structure pB where
 st:Str
 cr:Str
 way:QQQ
 at_:QQQ
 ms:QQQ
 hd:Option Str
 si:Int
 wd:Option Str
structure se where
 i:Nat
 f:Str
 g:Str
 y:Str
inductive Ev
 | new (n:Nat) (x:Str)
 | leg (v:se)
 | asks (i:Nat) (z:Str) (ns:List Nat)
 | next (z:Str) (n:Int)
 | merge (i j:Nat) (ms:QQQ)
 | turn
 | sw (b:Bool) (i:Nat)
 | rings (i:Nat) (ps:QQQ)
 | quiet (i:Nat)
 | waits (i:Nat) (x:Str)
 | talks (i:Nat) (ms:QQQ)
 | held (i:Nat) (x:Str)
 | leaves (i:Nat) (x:Str)
 | over (i:Nat) (w:Str)
structure qB where
 p:Addr
 h:Int
 t:Int
 calls:List pB
 mY:List se
 ps:List (Str×Int)
 on:List Bool
 log:List Ev
 fo:QXQ
noncomputable def wq(ns:List Nat):D:=.tup (ns.map λn=>D.int (n:Nat))
noncomputable def se.d(v:se):D:=.tup [.int (v.i:Nat),.str v.f,.str v.g,.str v.y]
noncomputable def UC(b:Bool):Str:=if b=true then "on" else "off"
noncomputable def Ev.d:Ev->D
 | .new n x=>.tup [.str "new",.int (n:Nat),.str x]
 | .leg v=>.tup [.str "leg",.int (v.i:Nat),.str v.f,.str v.g,.str v.y]
 | .asks i z ns=>.tup [.str "asks",.int (i:Nat),.str z,wq ns]
 | .next z n=>.tup [.str "next",.str z,.int n]
 | .merge i j ms=>.tup [.str "merge",.int (i:Nat),.int (j:Nat),names ms]
 | .turn=>.tup [.str "turn"]
 | .sw b i=>.tup [.str (UC b),.int (i:Nat)]
 | .rings i ps=>.tup [.str "rings",.int (i:Nat),names ps]
 | .quiet i=>.tup [.str "quiet",.int (i:Nat)]
 | .waits i x=>.tup [.str "waits",.int (i:Nat),.str x]
 | .talks i ms=>.tup [.str "talks",.int (i:Nat),names ms]
 | .held i x=>.tup [.str "held",.int (i:Nat),.str x]
 | .leaves i x=>.tup [.str "leaves",.int (i:Nat),.str x]
 | .over i w=>.tup [.str "over",.int (i:Nat),.str w]
noncomputable def hasS(ss:QQQ)(x:Str):Bool:=ss.any (·==x)
noncomputable def rK(ss:QQQ)(x:Str):QQQ:=ss.filter λy=>!(y==x)
noncomputable def y0(x:Str):pB:=⟨"rings",x,[],[],[],none,0,none⟩
noncomputable def pB.over(c:pB)(w:Str):pB:={c with st:="over",wd:=some w,at_:=[],ms:=[],hd:=none}
noncomputable def pB.drop(c:pB)(x:Str):pB:={c with at_:=rK c.at_ x,ms:=rK c.ms x}
noncomputable def pB.ring(c:pB)(ps:QQQ):pB:={c with st:="rings",at_:=ps,si:=0}
noncomputable def pB.nI(c:pB)(ms:QQQ):pB:={c with st:="talks",ms:=ms,at_:=[],hd:=none}
noncomputable def pB.wait(c:pB)(x:Str):pB:={c with st:="waits",at_:=[x]}
noncomputable def pB.hold(c:pB)(x:Str):pB:={c with st:="held",hd:=some x}
noncomputable def pB.nM(c:pB):pB:={c with at_:=[]}
noncomputable def pB.mem(c:pB)(ms:QQQ):pB:={c with ms:=ms}
noncomputable def pB.go(c:pB)(g:Str):pB:={c with way:=c.way++[g]}
noncomputable def pB.tick(c:pB):pB:=if (c.st=="rings")=true then{c with si:=c.si+1}else c
noncomputable def se.to(m k:Nat)(v:se):se:=if v.i=m then{v with i:=k}else v
noncomputable def Cj(ps:List (Str×Int))(z:Str)(n:Int):List (Str×Int):=if ps.any (λp=>decide (p.1=z))=true then ps.map (λp=>if p.1=z then(p.1,n)else p)else ps++[(z,n)]
noncomputable def xJ(V:qB)(i:Nat)(f:pB->pB):qB:={V with calls:=V.calls.modify i f}
noncomputable def qN(V:qB)(e:Ev):qB:={V with log:=V.log++[e]}
noncomputable def T4(V:qB):Ev->qB
 | .new _ x=>{V with calls:=V.calls++[y0 x]}
 | .leg v=>{V with mY:=V.mY++[v],calls:=V.calls.modify v.i (·.go v.g)}
 | .asks _ _ _=>V
 | .next z n=>{V with ps:=Cj V.ps z n}
 | .merge i j ms=>{V with calls:=(V.calls.modify i (·.over "merged")).modify j (·.mem ms),mY:=V.mY.map (se.to i j)}
 | .turn=>{V with t:=V.t+1,calls:=V.calls.map pB.tick}
 | .sw b i=>{V with on:=V.on.set i b}
 | .rings i ps=>xJ V i (·.ring ps)
 | .quiet i=>xJ V i pB.nM
 | .waits i x=>xJ V i (·.wait x)
 | .talks i ms=>xJ V i (·.nI ms)
 | .held i x=>xJ V i (·.hold x)
 | .leaves i x=>xJ V i (·.drop x)
 | .over i w=>xJ V i (·.over w)
noncomputable def qg(V:qB)(e:Ev):qB:=T4 (qN V e) e
noncomputable def qI(V:qB)(es:List Ev):qB:=es.foldl qg V
def Ev.ok(V:qB):Ev->Prop
 | .new _ _=>True
 | .leg v=>v.i<V.calls.length
 | .asks _ _ _=>True
 | .next _ _=>True
 | .merge i j ms=>i<V.calls.length/\j<V.calls.length/\i≠j/\ms.length<=100
 | .turn=>True
 | .sw _ i=>i<V.on.length
 | .rings i ps=>i<V.calls.length/\ps.length<=100
 | .quiet i=>i<V.calls.length
 | .waits i _=>i<V.calls.length
 | .talks i ms=>i<V.calls.length/\ms.length<=100
 | .held i _=>i<V.calls.length
 | .leaves i _=>i<V.calls.length
 | .over i _=>i<V.calls.length
def rF(V:qB)(es fs:List Ev):qI V (es++fs)=qI (qI V es) fs:=lu ..
theorem Jh:∀(es:List Ev) (V:qB),(qI V es).log=V.log++es
 | [],V=>(eZ _).symm
 | e::r,V=>by
  show(qI (qg V e) r).log=_;rw[Jh r];have:(qg V e).log=V.log++[e]:=by cases e<;>rfl
  rw[this,ft];rfl
noncomputable def pB.mX(c:pB)(x:Str):Bool:=(c.st=="talks")&&hasS c.ms x
noncomputable def pB.hasB(c:pB)(x:Str):Bool:=if (c.st=="rings")=true then(x==c.cr)||hasS c.at_ x else if (c.st=="waits")=true then x==c.cr else(c.st=="talks"||c.st=="held")&&hasS c.ms x
noncomputable def pB.nq(c:pB)(x:Str):Bool:=if (c.st=="held")=true then hasS c.ms x&&!((c.hd==some x))else c.mX x
noncomputable def pB.mW(c:pB)(x:Str):Bool:=(c.st=="rings"||c.st=="waits")&&(x==c.cr)
noncomputable def pB.mR(c:pB)(x:Str):Bool:=(c.st=="waits")&&hasS c.at_ x
noncomputable def pB.nE(c:pB)(x:Str):Bool:=c.mW x||(hasS c.at_ x||hasS c.ms x)
noncomputable def pB.mZ(c:pB)(x:Str):Bool:=c.mX x&&(c.ms.length==2)
noncomputable def uq(V:qB)(x:Str):Nat:=(V.calls.filter (·.hasB x)).length
noncomputable def wJ(l:pH)(x:Str):Int:=(l.ng x).elim 0 λv=>v.2.1
noncomputable def vQ(l:pH)(x:Str):Int:=(l.ng x).elim 0 λv=>v.2.2
noncomputable def tG(l:pH)(V:qB)(x:Str):Bool:=decide ((uq V x:Int)<wJ l x)
noncomputable def sU(l:pH)(V:qB)(c z:Str):QQQ:=(l.mK z).filter λx=>!(x==c)&&tG l V x
noncomputable def sO(l:pH)(V:qB)(c z:Str):Bool:=(sU l V c z).isEmpty
noncomputable def vP(V:qB)(x:Str):Option Nat:=V.calls.findIdx? (·.mX x)
noncomputable def Er(V:qB)(x:Str):Option Nat:=V.calls.findIdx? (·.nq x)
noncomputable def Jr(V:qB)(x:Str):Option Nat:=V.calls.findIdx? (·.mW x)
noncomputable def wn(V:qB)(x:Str):Bool:=V.calls.any (·.mR x)
noncomputable def OA:Option Nat->D
 | none=>.mS
 | some j=>.int (j:Nat)
noncomputable def FH(f l h:Int):Bool:=if f<l then decide (f<=h)&&decide (h<l)else decide (h>=f)||decide (h<l)
noncomputable def HP(l:pH)(x:Str)(ms:QQQ):Bool:=ms.all λm=>decide (vQ l m<vQ l x)
noncomputable def Hs(l:pH)(V:qB)(x c z:Str):Bool:=if (!(c==x)||(z==x))=true then false else if (!(hasS l.pn z)||!(sO l V c z))=true then false else((vP V z).bind (V.calls[·]?)).elim false λk=>(k.ms.length==2)&&HP l x k.ms
noncomputable def xV(l:pH)(V:qB)(c z:Str):Wi->Bool
 | .bar x ns=>(c==x)&&hasS ns z
 | .shut x ns=>(z==x)&&hasS ns c
 | .always x _=>z==x
 | .night x _ f m=>(z==x)&&FH f m ((V.h+V.t) % 24)
 | .busy x _=>(z==x)&&sO l V c z
 | .silent _ _ _=>false
 | .wait x=>if (!(z==x)||(c==x))=true then false else sO l V c z&&!(wn V z)
 | .breaks x=>Hs l V x c z
noncomputable def G1(c:pB):Wi->Bool
 | .silent x _ n=>(c.way.getLast?==some x)&&decide (n<=c.si)
 | _=>false
noncomputable def Hr(l:pH)(V:qB)(f:Wi->Bool):List Nat:=(List.range V.on.length).filter λi=>V.on.getD i false&&(l.mO[i]?).elim false λw=>f w.2
noncomputable def DC(l:pH)(V:qB)(c z:Str):List Nat:=Hr l V (xV l V c z)
noncomputable def vb(ms:QQQ)(n:Nat):QQQ:=ms.drop n++ms.take n
noncomputable def zD(V:qB)(z:Str):Nat:=((V.ps.find? λp=>decide (p.1=z)).elim 0 λp=>p.2).toNat
noncomputable def xE(l:pH)(V:qB)(c z:Str):QQQ:=if (l.mU z=="turns")=true then((vb (l.mK z) (zD V z)).filter λx=>hasS (sU l V c z) x).take 1 else sU l V c z
inductive wc
 | engaged (z:Str)
 | rings (z:Str) (ps:QQQ)
 | waits (z:Str)
 | breaks (z:Str)
 | barred
 | ring (ns:QQQ)
noncomputable def wc.d:wc->D
 | .engaged z=>.tup [.str "engaged",.str z]
 | .rings z ps=>.tup [.str "rings",.str z,names ps]
 | .waits z=>.tup [.str "waits",.str z]
 | .breaks z=>.tup [.str "breaks",.str z]
 | .barred=>.tup [.str "barred"]
 | .ring ns=>.tup [.str "ring",names ns]
noncomputable def HX(l:pH)(V:qB)(c z:Str):wc:=match xE l V c z with
 | []=>.engaged z
 | x::r=>.rings z (x::r)
noncomputable def IE(z:Str):Wi->Sum wc Str
 | .bar _ _=>.inl .barred
 | .shut _ _=>.inl .barred
 | .always _ y=>.inr y
 | .night _ y _ _=>.inr y
 | .busy _ y=>.inr y
 | .silent _ y _=>.inr y
 | .wait _=>.inl (.waits z)
 | .breaks _=>.inl (.breaks z)
abbrev tL:=List (Str×List Nat)
noncomputable def xh(l:pH)(V:qB)(c:Str):Nat->Str->QQQ->tL->wc×tL
 | 0,_,_,st=>(.barred,st)
 | n+1,z,way,st=>if hasS way z=true then(.ring (way.drop (way.findIdx (·==z))),st)else
  match DC l V c z with
  | []=>(HX l V c z,st++[(z,[])])
  | i::r=>(l.mO[i]?).elim (.barred,st) λw=>match IE z w.2 with
   | .inl e=>(e,st++[(z,i::r)])
   | .inr y=>xh l V c n y (way++[z]) (st++[(z,i::r)])
noncomputable def uZ(l:pH)(V:qB)(c z:Str)(way:QQQ):wc×tL:=xh l V c (l.nm.length+1) z way []
noncomputable def rG(i:Nat):Option Str->tL->List Ev
 | _,[]=>[]
 | none,(z,fs)::r=>.asks i z fs::rG i (some z) r
 | some y,(z,fs)::r=>.leg ⟨i,y,z,y⟩::.asks i z fs::rG i (some z) r
noncomputable def Qu(ms:QQQ)(x:Str):Int:=((ms.findIdx (·==x):Nat)+1) % (ms.length:Int)
noncomputable def tK(l:pH)(V:qB)(i:Nat):wc->List Ev
 | .rings z ps=>(if (l.mU z=="turns")=true then[.next z (Qu (l.mK z) (ps.headD Str.empty))]else[])++[.rings i ps]
 | .waits z=>[.waits i z]
 | .breaks z=>match vP V z,V.calls[i]? with
  | some j,some c=>[.merge i j ((V.calls[j]?).elim [] (·.ms)++[c.cr])]
  | _,_=>[]
 | .engaged _=>[.over i "engaged"]
 | .barred=>[.over i "barred"]
 | .ring _=>[.over i "ring"]
noncomputable def ub(i:Nat)(st:tL):wc->List Ev
 | .ring ns=>(st.getLast?).elim [] λs=>[.leg ⟨i,s.1,ns.headD Str.empty,s.1⟩]
 | _=>[]
noncomputable def xk(l:pH)(V:qB)(i:Nat):List Ev:=(V.calls[i]?).elim [] λc=>
 let r:=uZ l V c.cr (c.way.getLastD Str.empty) c.way.dropLast
 rG i none r.2++(ub i r.2 r.1++tK l V i r.1)
noncomputable def Fx(l:pH)(V:qB)(y z:Str):List Ev:=
 let es:=[Ev.new V.calls.length y,.leg ⟨V.calls.length,y,z,y⟩]
 es++xk l (qI V es) V.calls.length
noncomputable def wQ(V:qB)(x:Str)(i:Nat):List Ev:=(V.calls[i]?).elim [] λc=>if c.mW x=true then[.over i "left"]else if hasS c.at_ x=true then .leaves i x::(if rK c.at_ x=[]then[.over i "refused"]else[])else if 2<c.ms.length then[.leaves i x]else[.over i "done"]
noncomputable def ud(l:pH)(V:qB)(i:Nat)(fs:List Nat):List Ev:=match fs.head?.bind (l.mO[·]?)with
 | some (_,.silent x y _)=>
  let es:=[Ev.asks i x fs,.quiet i,.leg ⟨i,x,y,x⟩]
  es++xk l (qI V es) i
 | _=>[]
noncomputable def zE(l:pH)(V:qB)(i:Nat):List Nat:=(V.calls[i]?).elim [] λc=>if (c.st=="rings")=true then Hr l V (G1 c)else[]
noncomputable def rT(l:pH):List Nat->qB->List Ev
 | [],_=>[]
 | i::r,V=>ud l V i (zE l V i)++rT l r (qI V (ud l V i (zE l V i)))
noncomputable def D8(l:pH)(V:qB):List Ev:=.turn::rT l (List.range V.calls.length) (qg V .turn)
inductive uo
 | call (y z:Str)
 | num (w x:Str) (ns:List Int)
 | turn
 | sw (b:Bool) (i:Int)
noncomputable def uo.d:uo->D
 | .call y z=>.tup [.str "call",.str y,.str z]
 | .num w x ns=>.tup (.str w::.str x::ns.map D.int)
 | .turn=>.tup [.str "turn"]
 | .sw b i=>.tup [.str (UC b),.int i]
def uo.nH:uo->Prop
 | .num w _ ns=>((w="answer"\/w="hang"\/w="hold"\/w="back")/\ns.length=1)\/((w="hand"\/w="join")/\ns.length=2)
 | _=>True
noncomputable def uH(V:qB)(x:Str):Option Str:=if (Er V x).isSome=true then some "bound" else if (Jr V x).isSome=true then some "calls" else none
noncomputable def zq(n:Nat)(i:Int):Bool:=decide (0<=i)&&decide (i<(n:Int))
noncomputable def Iz(w x:Str):List pB->Bool
 | []=>false
 | c::r=>if (w=="answer")=true then hasS c.at_ x else if (w=="hang")=true then c.nE x else if (w=="hold")=true then c.mZ x else if (w=="back")=true then c.hd==some x else(c.hd==some x)&&(r.head?.elim false λd=>d.mZ x)
noncomputable def tR(V:qB)(ns:List Int):List pB:=ns.filterMap λi=>V.calls[i.toNat]?
noncomputable def F7(l:pH)(V:qB)(y z:Str):Option Str:=if hasS l.nm z=false then some "name" else if ((uH V y).isNone&&!(tG l V y))=true then some "full" else uH V y
noncomputable def L6(l:pH)(V:qB)(w x:Str)(ns:List Int):Option Str:=if ns.all (zq V.calls.length)=false then some "call" else if Iz w x (tR V ns)=false then some "call" else if (w=="answer"||w=="back")=false then none else
 if ((uH V x).isNone&&((tR V ns).head?.elim false (λc=>c.mR x)&&!(tG l V x)))=true then some "full" else uH V x
noncomputable def PP(V:qB)(b:Bool)(i:Int):Option Str:=if zq V.on.length i=false then some "wish" else if (V.on.getD i.toNat false==b)=true then some "wish" else none
noncomputable def xu(l:pH)(V:qB):uo->Option Str
 | .turn=>none
 | .sw b i=>PP V b i
 | .call y z=>if hasS l.pn y=false then some "name" else F7 l V y z
 | .num w x ns=>if hasS l.pn x=false then some "name" else L6 l V w x ns
noncomputable def qC(c:pB)(x:Str):Str:=(rK c.ms x).headD Str.empty
noncomputable def Fg(V:qB)(w x:Str)(i:Nat):Ev:=(V.calls[i]?).elim .turn λc=>if (w=="answer")=true then .talks i [c.cr,x]else if (w=="hold")=true then .held i x else .talks i c.ms
noncomputable def GD(V:qB)(w x:Str)(i j:Nat):Ev:=(V.calls[i]?).elim .turn λc=>(V.calls[j]?).elim .turn λd=>.merge i j (if (w=="hand")=true then[qC c x,qC d x]else[x,qC c x,qC d x])
noncomputable def xi(l:pH)(V:qB):uo->List Ev
 | .call y z=>Fx l V y z
 | .num w x [i]=>if (w=="hang")=true then wQ V x i.toNat else[Fg V w x i.toNat]
 | .num w x [i,j]=>[GD V w x i.toNat j.toNat]
 | .num _ _ _=>[]
 | .turn=>D8 l V
 | .sw b i=>[.sw b i.toNat]
structure rA where
 p:Addr
 wy:Addr
structure tV where
 b:Addr
 ca:Addr
 le:Addr
 nx:Addr
 on:Addr
 lo:Addr
 cs:List rA
noncomputable def CF:Option Str->D
 | none=>.mS
 | some x=>.str x
noncomputable def rg(c:pB)(wy ad md:Addr):List (Str×D):=[("state",.str c.st),("caller",.str c.cr),("way",.ref wy),("at",.ref ad),("members",.ref md),("holder",CF c.hd),("since",.int c.si),("word",CF c.wd)]
noncomputable def tT(p:D)(h t:Int)(ca le nx on lo:Addr):List (Str×D):=[("plan",p),("hour",.int h),("turn",.int t),("calls",.ref ca),("legs",.ref le),("nexts",.ref nx),("on",.ref on),("log",.ref lo)]
noncomputable def tH(ps:List (Str×Int)):List (qW×D):=ps.map λp=>((Sum.inr p.1:qW),D.int p.2)
noncomputable def tV.lists(A:tV):QXQ:=A.ca::A.le::A.on::A.lo::A.cs.map (·.wy)
noncomputable def tV.foot(A:tV):QXQ:=A.b::A.nx::(A.lists++A.cs.map (·.p))
def rM(a:Ad)(M:Mp)(L:QXQ)(k:rA)(c:pB):Prop:=BO λad md=>M k.p=some (.ins a.e (rg c k.wy ad md))/\oM M k.wy=some (c.way.map D.str)/\oM M ad=some (c.at_.map D.str)/\oM M md=some (c.ms.map D.str)/\ad∉L/\md∉L
structure pN(a:Ad)(M:Mp)(A:tV)(V:qB):Prop where
 at_:M A.b=some (.ins a.c (tT (.ref V.p) V.h V.t A.ca A.le A.nx A.on A.lo))
 ca:oM M A.ca=some (A.cs.map λk=>D.ref k.p)
 le:oM M A.le=some (V.mY.map se.d)
 nx:zB M A.nx=some (tH V.ps)
 on:oM M A.on=some (V.on.map D.bl)
 lo:oM M A.lo=some (V.log.map Ev.d)
 len:A.cs.length=V.calls.length
 cs:∀(i:Nat) k c,A.cs[i]?=some k->V.calls[i]?=some c->rM a M (A.lists++V.fo) k c
 nl:A.lists.Nodup
 np:(A.b::A.cs.map (·.p)).Nodup
 fo:∀x∈V.fo,∃c,M x=some c
def wU{F:QXQ}{M:Mp}{p:Addr}{c:uW}(h:∀x∈F,∃c,M x=some c):∀x∈F,∃d,pF M p c x=some d:=λx hx=>by
 by_cases z:x=p
 .exact⟨c,by rw[z];exact pP⟩
 .obtain⟨d,e⟩:=h x hx;exact⟨d,sv.put x d z e⟩
def rM.sub{a:Ad}{M M':Mp}{L:QXQ}{k:rA}{c:pB}(h:rM a M L k c)(s:qr M M'):rM a M' L k c:=by obtain⟨ad,md,h1,h2,h3,h4,h5⟩:=h;exact⟨ad,md,s _ _ h1,s.lst h2,s.lst h3,s.lst h4,h5⟩
def pN.sub{a:Ad}{M M':Mp}{A:tV}{V:qB}(h:pN a M A V)(s:qr M M'):pN a M' A V:=⟨s _ _ h.at_,s.lst h.ca,s.lst h.le,s.dk h.nx,s.lst h.on,s.lst h.lo,h.len,λi k c e1 e2=>(h.cs i k c e1 e2).sub s,h.nl,h.np,λx hx=>(h.fo x hx).imp λc e=>s x c e⟩
def rM.nW{a:Ad}{M M':Mp}{L:QXQ}{k:rA}{c:pB}{x:Addr}{ds:List D}(h:rM a M L k c)(kp:sv x M M')(hl:oM M x=some ds)(hx:x∈L)(hn:k.wy≠x):rM a M' L k c:=by obtain⟨ad,md,h1,h2,h3,h4,h5,h6⟩:=h;exact⟨ad,md,kp _ _ (λz=>by rw[z,qo hl]at h1;cases h1) h1,kp.lst hn h2,kp.lst (λz=>h5 (z ▸ hx)) h3,kp.lst (λz=>h6 (z ▸ hx)) h4,h5,h6⟩
def rM.oh{a:Ad}{M M':Mp}{L:QXQ}{k:rA}{c:pB}{x C:Addr}{fs:List (Str×D)}(h:rM a M L k c)(kp:sv x M M')(hi:M x=some (.ins C fs))(hn:k.p≠x):rM a M' L k c:=by obtain⟨ad,md,h1,h2,h3,h4,h5⟩:=h;exact⟨ad,md,kp _ _ hn h1,kp.lst (pT h2 hi) h2,kp.lst (pT h3 hi) h3,kp.lst (pT h4 hi) h4,h5⟩
def uV{M:Mp}{a p:Addr}{ds:List (qW×D)}{es:List D}(h:zB M a=some ds)(hp:oM M p=some es):a≠p:=λz=>by subst z;unfold zB at h;rw[qo hp]at h;cases h
def rM.oW{a:Ad}{M M':Mp}{L:QXQ}{k:rA}{c:pB}{x:Addr}{ds:List (qW×D)}(h:rM a M L k c)(kp:sv x M M')(hd:zB M x=some ds):rM a M' L k c:=by obtain⟨ad,md,h1,h2,h3,h4,h5⟩:=h;exact⟨ad,md,kp _ _ (λz=>by rw[z,zJ hd]at h1;cases h1) h1,kp.lst (dP (uV hd h2)) h2,kp.lst (dP (uV hd h3)) h3,kp.lst (dP (uV hd h4)) h4,h5⟩
def qS{α:Type}{l:List α}{i:Nat}{x:α}(h:l[i]?=some x):x∈l:=fu h
def pN.ne{a:Ad}{M:Mp}{A:tV}{V:qB}(h:pN a M A V):A.ca≠A.le/\A.ca≠A.on/\A.ca≠A.lo/\A.le≠A.on/\A.le≠A.lo/\A.on≠A.lo/\∀k∈A.cs,k.wy≠A.ca/\k.wy≠A.le/\k.wy≠A.on/\k.wy≠A.lo:=by
 have n:=h.nl;unfold tV.lists at n;obtain⟨n1,n⟩:=dQ.mp n;obtain⟨n2,n⟩:=dQ.mp n;obtain⟨n3,n⟩:=dQ.mp n;obtain⟨n4,n⟩:=dQ.mp n;have w:∀k∈A.cs,k.wy∈A.cs.map (·.wy):=λk hk=>dC.mpr ⟨k,hk,rfl⟩;refine⟨λz=>n1 (z ▸ by simp),λz=>n1 (z ▸ by simp),λz=>n1 (z ▸ by simp),λz=>n2 (z ▸ by simp),λz=>n2 (z ▸ by simp),λz=>n3 (z ▸ by simp),λk hk=>⟨λz=>n1 ?_,λz=>n2 ?_,λz=>n3 ?_,λz=>n4 ?_⟩⟩
 .rw[<-z];exact dE _ (dE _ (dE _ (w k hk)))
 .rw[<-z];exact dE _ (dE _ (w k hk))
 .rw[<-z];exact dE _ (w k hk)
 .rw[<-z];exact w k hk
def pN.oJ{a:Ad}{M:Mp}{A:tV}{V:qB}(_:pN a M A V):A.ca∈A.lists/\A.le∈A.lists/\A.lo∈A.lists/\(∀k∈A.cs,k.wy∈A.lists)/\A.on∈A.lists:=by unfold tV.lists;refine⟨by simp,by simp,by simp,?_,by simp⟩;exact λk hk=>by simp;exact .inr (.inr (.inr (.inr ⟨k,hk,rfl⟩)))
def pN.oP{a:Ad}{M:Mp}{A:tV}{V:qB}(h:pN a M A V):A.ca∈A.lists++V.fo/\A.le∈A.lists++V.fo/\A.lo∈A.lists++V.fo/\(∀k∈A.cs,k.wy∈A.lists++V.fo)/\A.on∈A.lists++V.fo:=by obtain⟨h1,h2,h3,h4,h5⟩:=h.oJ;exact⟨fF _ h1,fF _ h2,fF _ h3,λk hk=>fF _ (h4 k hk),fF _ h5⟩
def qR(A:tV)(M:Mp)(A':tV)(M':Mp):Prop:=(∀x c,x∉A.foot->M x=some c->M' x=some c)/\(∀x∈A'.foot,x∈A.foot\/M x=none)/\(∀(i:Nat) k,A.cs[i]?=some k->A'.cs[i]?=some k)/\∀x c,M x=some c->∃d,M' x=some d
def Ez{M:Mp}{p y:Addr}{c d:uW}(h:M y=some d):∃e,pF M p c y=some e:=by
 by_cases z:y=p
 .exact⟨c,by rw[z];exact pP⟩
 .exact⟨d,sv.put y d z h⟩
def qR.refl{A:tV}{M:Mp}:qR A M A M:=⟨λ_ _ _ h=>h,λ_ h=>.inl h,λ_ _ h=>h,λ_ c h=>⟨c,h⟩⟩
def qR.trans{A A1 A2:tV}{M M1 M2:Mp}(s:qR A M A1 M1)(u:qR A1 M1 A2 M2):qR A M A2 M2:=by
 refine⟨λx c n h=>u.1 x c (λz=>?_) (s.1 x c n h),λx hx=>?_,λi k h=>u.2.2.1 i k (s.2.2.1 i k h),λx c h=>(s.2.2.2 x c h).elim λd e=>u.2.2.2 x d e⟩
 .rcases s.2.1 x z with y|y
  .exact n y
  .rw[y]at h;cases h
 .rcases u.2.1 x hx with z|z
  .exact s.2.1 x z
  .by_cases y:x∈A.foot
   .exact .inl y
   .refine .inr ?_;cases e:M x with
    | none=>rfl
    | some c=>rw[s.1 x c y e]at z;cases z
def qR.keep{A:tV}{M:Mp}{x:Addr}{c:uW}(h:x∈A.foot)(k:sv x M (pF M x c)):qR A M A (pF M x c):=⟨λy c n e=>k y c (λz=>n (z ▸ h)) e,λ_ h=>.inl h,λ_ _ h=>h,λ_ _ h=>Ez h⟩
def qR.sub{A:tV}{M M':Mp}(s:qr M M'):qR A M A M':=⟨λy c _ e=>s y c e,λ_ h=>.inl h,λ_ _ h=>h,λx c h=>⟨c,s x c h⟩⟩
def tV.m7(A:tV):A.b∈A.foot/\A.nx∈A.foot/\A.ca∈A.foot/\A.le∈A.foot/\A.lo∈A.foot/\(∀k∈A.cs,k.p∈A.foot)/\∀k∈A.cs,k.wy∈A.foot:=by unfold tV.foot tV.lists;exact⟨by simp,by simp,by simp,by simp,by simp,λk hk=>by simp;exact .inr (.inr (.inr (.inr (.inr (.inr (.inr ⟨k,hk,rfl⟩)))))),λk hk=>by simp;exact .inr (.inr (.inr (.inr (.inr (.inr (.inl ⟨k,hk,rfl⟩))))))⟩
def tV.nV(A:tV){x:Addr}(h:x∈A.lists):x∈A.foot:=by unfold tV.foot;exact dE _ (dE _ (dY.mpr (.inl h)))
variable {M M1:Mp}{A:tV}{V:qB}
def Ep{α:Type}{l:List α}{i j:Nat}{x y:α}(h:(l.set i x)[j]?=some y):(j=i/\y=x/\i<l.length)\/(j≠i/\l[j]?=some y):=by
 by_cases z:j=i
 .subst z;by_cases hl:j<l.length
  .rw[fH hl]at h;exact .inl ⟨rfl,(dh h).symm,hl⟩
  .rw[hW (by rw[ij];omega)]at h;cases h
 .rw[fG (dP z)]at h;exact .inr ⟨z,h⟩
def E2{α β:Type}{f:α->β}{l:List α}{i j:Nat}{x y:α}(nd:(l.map f).Nodup)(h1:l[i]?=some x)(h2:l[j]?=some y)(e:f x=f y):i=j:=by
 have e1:(l.map f)[i]?=some (f x):=by rw[dD,h1];rfl
 have e2:(l.map f)[j]?=some (f y):=by rw[dD,h2];rfl
 obtain⟨l1,q1⟩:=c9.mp e1;obtain⟨l2,q2⟩:=c9.mp e2;exact(lK nd).mp (q1.trans (e.trans q2.symm))
def pN.nw(h:pN a M A V):(A.cs.map (·.wy)).Nodup:=(dQ.mp (dQ.mp (dQ.mp (dQ.mp h.nl).2).2).2).2
def pN.oN(h:pN a M A V):(A.cs.map (·.p)).Nodup/\∀k∈A.cs,k.p≠A.b:=⟨(dQ.mp h.np).2,λk hk z=>(dQ.mp h.np).1 (z ▸ dC.mpr ⟨k,hk,rfl⟩)⟩
def pN.ou(h:pN a M A V){es:List Ev}:pN a (pF M A.lo (.lst (es.map Ev.d))) A {V with log:=es}/\qR A M A (pF M A.lo (.lst (es.map Ev.d))):=by have kp:sv A.lo M (pF M A.lo (.lst (es.map Ev.d))):=.put;obtain⟨n1,n2,n3,n4,n5,n6,nw⟩:=h.ne;exact⟨⟨kp _ _ (dP (pT h.lo h.at_)) h.at_,kp.lst n3 h.ca,kp.lst n5 h.le,kp.dk (uV h.nx h.lo) h.nx,kp.lst n6 h.on,pE,h.len,λi k c e1 e2=>(h.cs i k c e1 e2).nW kp h.lo h.oP.2.2.1 (nw k (qS e1)).2.2.2,h.nl,h.np,wU h.fo⟩,.keep A.m7.2.2.2.2.1 kp⟩
def pN.oB(h:pN a M A V){es:List se}:pN a (pF M A.le (.lst (es.map se.d))) A {V with mY:=es}/\qR A M A (pF M A.le (.lst (es.map se.d))):=by have kp:sv A.le M (pF M A.le (.lst (es.map se.d))):=.put;obtain⟨n1,n2,n3,n4,n5,n6,nw⟩:=h.ne;exact⟨⟨kp _ _ (dP (pT h.le h.at_)) h.at_,kp.lst n1 h.ca,pE,kp.dk (uV h.nx h.le) h.nx,kp.lst (dP n4) h.on,kp.lst (dP n5) h.lo,h.len,λi k c e1 e2=>(h.cs i k c e1 e2).nW kp h.le h.oP.2.1 (nw k (qS e1)).2.1,h.nl,h.np,wU h.fo⟩,.keep A.m7.2.2.2.1 kp⟩
def pN.oV(h:pN a M A V){bs:List Bool}:pN a (pF M A.on (.lst (bs.map D.bl))) A {V with on:=bs}/\qR A M A (pF M A.on (.lst (bs.map D.bl))):=by have kp:sv A.on M (pF M A.on (.lst (bs.map D.bl))):=.put;obtain⟨n1,n2,n3,n4,n5,n6,nw⟩:=h.ne;exact⟨⟨kp _ _ (dP (pT h.on h.at_)) h.at_,kp.lst n2 h.ca,kp.lst n4 h.le,kp.dk (uV h.nx h.on) h.nx,pE,kp.lst (dP n6) h.lo,h.len,λi k c e1 e2=>(h.cs i k c e1 e2).nW kp h.on h.oP.2.2.2.2 (nw k (qS e1)).2.2.1,h.nl,h.np,wU h.fo⟩,.keep (A.nV h.oJ.2.2.2.2) kp⟩
def pN.oX(h:pN a M A V){ps:List (Str×Int)}:pN a (pF M A.nx (.dk (tH ps))) A {V with ps:=ps}/\qR A M A (pF M A.nx (.dk (tH ps))):=by have kp:sv A.nx M (pF M A.nx (.dk (tH ps))):=.put;exact⟨⟨kp _ _ (dP (CA h.nx h.at_)) h.at_,kp.lst (dP (uV h.nx h.ca)) h.ca,kp.lst (dP (uV h.nx h.le)) h.le,Dv pP,kp.lst (dP (uV h.nx h.on)) h.on,kp.lst (dP (uV h.nx h.lo)) h.lo,h.len,λi k c e1 e2=>(h.cs i k c e1 e2).oW kp h.nx,h.nl,h.np,wU h.fo⟩,.keep A.m7.2.1 kp⟩
def pN.putT(h:pN a M A V){t:Int}:pN a (pF M A.b (.ins a.c (tT (.ref V.p) V.h t A.ca A.le A.nx A.on A.lo))) A {V with t:=t}/\qR A M A (pF M A.b (.ins a.c (tT (.ref V.p) V.h t A.ca A.le A.nx A.on A.lo))):=by have kp:sv A.b M (pF M A.b (.ins a.c (tT (.ref V.p) V.h t A.ca A.le A.nx A.on A.lo))):=.put;exact⟨⟨pP,kp.lst (pT h.ca h.at_) h.ca,kp.lst (pT h.le h.at_) h.le,kp.dk (CA h.nx h.at_) h.nx,kp.lst (pT h.on h.at_) h.on,kp.lst (pT h.lo h.at_) h.lo,h.len,λi k c e1 e2=>(h.cs i k c e1 e2).oh kp h.at_ (h.oN.2 k (qS e1)),h.nl,h.np,wU h.fo⟩,.keep A.m7.1 kp⟩
def pN.oj(h:pN a M A V){i:Nat}{k:rA}{c c':pB}{ad md:Addr}(e1:A.cs[i]?=some k)(e2:V.calls[i]?=some c)(ew:c'.way=c.way)(la:oM M ad=some (c'.at_.map D.str))(lm:oM M md=some (c'.ms.map D.str))(na:ad∉A.lists++V.fo)(nm:md∉A.lists++V.fo):
  pN a (pF M k.p (.ins a.e (rg c' k.wy ad md))) A {V with calls:=V.calls.set i c'}/\qR A M A (pF M k.p (.ins a.e (rg c' k.wy ad md))):=by
 have kp:sv k.p M (pF M k.p (.ins a.e (rg c' k.wy ad md))):=.put;obtain⟨_,_,h1,h2,_⟩:=h.cs i k c e1 e2;refine⟨⟨kp _ _ (dP (h.oN.2 k (qS e1))) h.at_,kp.lst (pT h.ca h1) h.ca,kp.lst (pT h.le h1) h.le,kp.dk (CA h.nx h1) h.nx,kp.lst (pT h.on h1) h.on,kp.lst (pT h.lo h1) h.lo,by rw[h.len,ij],λj k' d f1 f2=>?_,h.nl,h.np,wU h.fo⟩,.keep (A.m7.2.2.2.2.2.1 k (qS e1)) kp⟩;rcases Ep f2 with⟨rfl,rfl,_⟩|⟨hj,f2⟩
 .rw[e1]at f1;cases f1;exact⟨ad,md,pP,by rw[ew];exact kp.lst (pT h2 h1) h2,kp.lst (pT la h1) la,kp.lst (pT lm h1) lm,na,nm⟩
 .exact(h.cs j k' d f1 f2).oh kp h1 λz=>hj (E2 h.oN.1 f1 e1 z)
def pN.oA(h:pN a M A V){i:Nat}{k:rA}{c:pB}{ws:QQQ}(e1:A.cs[i]?=some k)(e2:V.calls[i]?=some c):
  pN a (pF M k.wy (.lst (ws.map D.str))) A {V with calls:=V.calls.set i {c with way:=ws}}/\qR A M A (pF M k.wy (.lst (ws.map D.str))):=by
 have kp:sv k.wy M (pF M k.wy (.lst (ws.map D.str))):=.put;obtain⟨ad,md,h1,h2,h3,h4,h5,h6⟩:=h.cs i k c e1 e2;obtain⟨n1,n2,n3,n4,n5,n6,nw⟩:=h.ne;obtain⟨w1,w2,w3,w4⟩:=nw k (qS e1);have kL:=h.oP.2.2.2.1 k (qS e1);refine⟨⟨kp _ _ (dP (pT h2 h.at_)) h.at_,kp.lst (dP w1) h.ca,kp.lst (dP w2) h.le,kp.dk (uV h.nx h2) h.nx,kp.lst (dP w3) h.on,kp.lst (dP w4) h.lo,by rw[h.len,ij],λj k' d f1 f2=>?_,h.nl,h.np,wU h.fo⟩,.keep (A.m7.2.2.2.2.2.2 k (qS e1)) kp⟩;rcases Ep f2 with⟨rfl,rfl,_⟩|⟨hj,f2⟩
 .rw[e1]at f1;cases f1;exact⟨ad,md,kp _ _ (dP (pT h2 h1)) h1,pE,kp.lst (λz=>h5 (z ▸ kL)) h3,kp.lst (λz=>h6 (z ▸ kL)) h4,h5,h6⟩
 .exact(h.cs j k' d f1 f2).nW kp h2 kL λz=>hj (E2 h.nw f1 e1 z)
noncomputable def tV.add(A:tV)(k:rA):tV:={A with cs:=A.cs++[k]}
def Ae(A:tV)(k:rA):(A.add k).lists=A.lists++[k.wy]:=by unfold tV.add tV.lists;rw[dS];rfl
def pN.dom(h:pN a M A V):(∀x∈A.lists,∃ds,oM M x=some ds)/\∀x∈A.foot,∃c,M x=some c:=by
 have hc:∀k∈A.cs,(∃ds,oM M k.wy=some ds)/\∃c,M k.p=some c:=λk hk=>by
  obtain⟨i,hi,e⟩:=fS hk;have e1:A.cs[i]?=some k:=by rw[cX hi,e]
  have XA:i<V.calls.length:=by rw[<-h.len];exact hi
  have e2:V.calls[i]?=some V.calls[i]:=cX XA;obtain⟨ad,md,h1,h2,_⟩:=h.cs i k _ e1 e2;exact⟨⟨_,h2⟩,_,h1⟩
 have hl:∀x∈A.lists,∃ds,oM M x=some ds:=λx hx=>by
  unfold tV.lists at hx;simp only[dg,dC]at hx;rcases hx with rfl|rfl|rfl|rfl|⟨k,hk,rfl⟩
  .exact⟨_,h.ca⟩
  .exact⟨_,h.le⟩
  .exact⟨_,h.on⟩
  .exact⟨_,h.lo⟩
  .exact(hc k hk).1
 refine⟨hl,λx hx=>?_⟩;unfold tV.foot at hx;simp only[dg,dY,dC]at hx;rcases hx with rfl|rfl|hx|⟨k,hk,rfl⟩
 .exact⟨_,h.at_⟩
 .exact⟨_,zJ h.nx⟩
 .obtain⟨ds,e⟩:=hl x hx;exact⟨_,qo e⟩
 .exact(hc k hk).2
def pN.og(h:pN a M A V){x:Addr}(hx:M x=none):x∉A.lists:=λz=>by obtain⟨ds,e⟩:=h.dom.1 x z;have:=qo e;rw[hx]at this;cases this
def pN.nA(h:pN a M A V){x:Addr}(hx:M x=none):x∉A.lists++V.fo:=λz=>by
 rcases dY.mp z with z|z
 .exact h.og hx z
 .obtain⟨c,e⟩:=h.fo x z;rw[hx]at e;cases e
def pN.n9(h:pN a M A V){x:Addr}(hx:M x=none):x∉A.foot:=λz=>by obtain⟨ds,e⟩:=h.dom.2 x z;rw[hx]at e;cases e
def pN.om(h:pN a M A V)(s:qr M M1){p wy ad md:Addr}{c:pB}(hp:M p=none)(hw:M wy=none)(ha:M ad=none)(hm:M md=none)(h1:M1 p=some (.ins a.e (rg c wy ad md)))(h2:oM M1 wy=some (c.way.map D.str))(h3:oM M1 ad=some (c.at_.map D.str))(h4:oM M1 md=some (c.ms.map D.str))(n1:ad≠wy)(n2:md≠wy):
  pN a (pF M1 A.ca (.lst ((A.cs.map λk=>D.ref k.p)++[.ref p]))) (A.add ⟨p,wy⟩) {V with calls:=V.calls++[c]}/\qR A M (A.add ⟨p,wy⟩) (pF M1 A.ca (.lst ((A.cs.map λk=>D.ref k.p)++[.ref p]))):=by
 have h':=h.sub s;have kp:sv A.ca M1 (pF M1 A.ca (.lst ((A.cs.map λk=>D.ref k.p)++[.ref p]))):=.put;obtain⟨m1,m2,m3,m4,m5,m6,nw⟩:=h.ne;have wL:wy∉A.lists:=h.og hw;have cL:=h.oP.1;have nl':∀x,x∉A.lists++V.fo->x≠wy->x∉(A.add ⟨p,wy⟩).lists++V.fo:=λx h1 h2=>by
  rw[Ae,dY,dY,dz]
  rintro ((z|z)|z)
  .exact h1 (fF _ z)
  .exact h2 z
  .exact h1 (eF _ z)
 have Xe:∀x c,M x=some c->x≠wy:=λx c e z=>by rw[z,hw]at e;cases e
 refine⟨⟨kp _ _ (dP (pT h'.ca h'.at_)) h'.at_,?_,kp.lst (dP m1) h'.le,kp.dk (uV h'.nx h'.ca) h'.nx,kp.lst (dP m2) h'.on,kp.lst (dP m3) h'.lo,?_,λi k d e1 e2=>?_,?_,?_,wU h'.fo⟩,λx d n e=>kp x d (λz=>n (z ▸ A.m7.2.2.1)) (s x d e),λx hx=>?_,λi k e=>by show(A.cs++[(⟨p,wy⟩:rA)])[i]?=some k;rw[e9 (c9.mp e).1];exact e,λx d e=>Ez (s x d e)⟩
 .show oM _ A.ca=some ((A.cs++[(⟨p,wy⟩:rA)]).map λk=>D.ref k.p);rw[dS];exact pE
 .show(A.cs++[(⟨p,wy⟩:rA)]).length=(V.calls++[c]).length;rw[cY,cY,h.len];rfl
 .have e1:(A.cs++[(⟨p,wy⟩:rA)])[i]?=some k:=e1;have e2:(V.calls++[c])[i]?=some d:=e2;by_cases hi:i<A.cs.length
  .rw[e9 hi]at e1;rw[e9 (by rw[<-h.len];exact hi)]at e2;obtain⟨ad',md',g1,g2,g3,g4,g5,g6⟩:=(h.cs i k d e1 e2);refine⟨ad',md',kp _ _ (λz=>by have:=s _ _ g1;rw[z,qo h'.ca]at this;cases this) (s _ _ g1),kp.lst (nw k (qS e1)).1 (s.lst g2),kp.lst (λz=>g5 (z ▸ cL)) (s.lst g3),kp.lst (λz=>g6 (z ▸ cL)) (s.lst g4),nl' _ g5 (Xe _ _ (qo g3)),nl' _ g6 (Xe _ _ (qo g4))⟩
  .have X7:i=A.cs.length:=by have:=(c9.mp e1).1;rw[cY,dO]at this;omega
   subst X7;rw[eV (dv _)]at e1;rw[h.len,eV (dv _)]at e2;simp only[h9,iE,jq]at e1 e2;subst e1 e2;have q1:p≠A.ca:=λz=>by rw[z,qo h'.ca]at h1;cases h1
   have q2:wy≠A.ca:=λz=>wL (z ▸ h.oJ.1);exact⟨ad,md,kp p _ q1 h1,kp.lst (a:=wy) q2 h2,kp.lst (λz=>h.nA ha (z ▸ cL)) h3,kp.lst (λz=>h.nA hm (z ▸ cL)) h4,nl' _ (h.nA ha) n1,nl' _ (h.nA hm) n2⟩
 .rw[Ae];refine fQ.mpr ⟨h.nl,dQ.mpr ⟨dF,eJ⟩,λx hx y hy=>?_⟩;rw[dz]at hy;subst hy;exact λz=>wL (z ▸ hx)
 .show(A.b::(A.cs++[(⟨p,wy⟩:rA)]).map (·.p)).Nodup;rw[dS,<-List.cons_append];refine fQ.mpr ⟨h.np,dQ.mpr ⟨dF,eJ⟩,λx hx y hy=>?_⟩;rw[dX,iP,dz]at hy;subst hy;refine λz=>h.n9 hp (z ▸ ?_);rcases dg.mp hx with y|y
  .rw[y];exact A.m7.1
  .obtain⟨k,hk,rfl⟩:=dC.mp y;exact A.m7.2.2.2.2.2.1 k hk
 .unfold tV.foot at hx;rw[Ae]at hx;have hx:x∈A.b::A.nx::(A.lists++[wy]++(A.cs++[(⟨p,wy⟩:rA)]).map (·.p)):=hx;simp only[dg,dY,dS,dX,iP,dF,eY]at hx;unfold tV.foot;simp only[dg,dY];rcases hx with z|z|(z|z)|(z|z)
  .exact .inl (.inl z)
  .exact .inl (.inr (.inl z))
  .exact .inl (.inr (.inr (.inl z)))
  .exact .inr (by rw[z];exact hw)
  .exact .inl (.inr (.inr (.inr z)))
  .exact .inr (by rw[z];exact hp)
def pN.oq{a:Ad}{M:Mp}{A:tV}{V:qB}{p:Addr}{es:List se}(h:pN a M A V)(hp:M p=none):
  pN a (pF (pF M p (.lst (es.map se.d))) A.b (.ins a.c (tT (.ref V.p) V.h V.t A.ca p A.nx A.on A.lo))) {A with le:=p} {V with mY:=es}/\qR A M {A with le:=p} (pF (pF M p (.lst (es.map se.d))) A.b (.ins a.c (tT (.ref V.p) V.h V.t A.ca p A.nx A.on A.lo))):=by
 have t:=qr.new (c:=.lst (es.map se.d)) hp;have lp:=@pE M p (es.map se.d);have h1:=h.sub t;have np:p∉A.lists:=h.og hp;have nf:p∉A.foot:=h.n9 hp;have Xe:∀x c,M x=some c->x≠p:=λx c e z=>by rw[z,hp]at e;cases e
 generalize pF M p (.lst (es.map se.d))=M1 at t lp h1 ⊢;have kp:sv A.b M1 (pF M1 A.b (.ins a.c (tT (.ref V.p) V.h V.t A.ca p A.nx A.on A.lo))):=.put;have sub:∀x,x∉A.lists++V.fo->x≠p->x∉({A with le:=p}:tV).lists++V.fo:=λx h1 h2 z=>by
  rcases dY.mp z with z|z
  rotate_left
  .exact h1 (eF _ z)
  have h1:x∉A.lists:=λy=>h1 (fF _ y);unfold tV.lists at h1 z;simp only[dg,fN]at h1 z;rcases z with z|z|z|z|z
  .exact h1.1 z
  .exact h2 z
  .exact h1.2.2.1 z
  .exact h1.2.2.2.1 z
  .exact h1.2.2.2.2 z
 refine⟨⟨pP,kp.lst (pT h1.ca h1.at_) h1.ca,kp.lst (pT lp h1.at_) lp,kp.dk (CA h1.nx h1.at_) h1.nx,kp.lst (pT h1.on h1.at_) h1.on,kp.lst (pT h1.lo h1.at_) h1.lo,h.len,λi k c e1 e2=>?_,?_,h.np,wU h1.fo⟩,λx c n e=>kp x c (λz=>n (z ▸ A.m7.1)) (t x c e),λx hx=>?_,λi k e=>e,λx d e=>Ez (t x d e)⟩
 .obtain⟨ad,md,g1,g2,g3,g4,g5,g6⟩:=(h.cs i k c e1 e2);obtain⟨ad',md',f1,f2,f3,f4,f5⟩:=((h.cs i k c e1 e2).sub t).oh kp h1.at_ (h.oN.2 k (qS e1));have q1:=kp _ _ (λz=>h.oN.2 k (qS e1) z) (t _ _ g1);exact⟨ad,md,q1,f2,kp.lst (pT (t.lst g3) h1.at_) (t.lst g3),kp.lst (pT (t.lst g4) h1.at_) (t.lst g4),sub _ g5 (Xe _ _ (qo g3)),sub _ g6 (Xe _ _ (qo g4))⟩
 .have n:=h.nl;unfold tV.lists at n np ⊢;simp only[dg,fN]at np;simp only[dQ,dg,fN]at n ⊢;exact⟨⟨λz=>np.1 z.symm,n.1.2⟩,⟨np.2.2.1,np.2.2.2.1,np.2.2.2.2⟩,n.2.2⟩
 .by_cases z:x=p
  .exact .inr (z ▸ hp)
  .refine .inl ?_;unfold tV.foot tV.lists at hx ⊢;simp only[dg,dY]at hx ⊢;rcases hx with y|y|(y|y|y|y|y)|y
   .exact .inl y
   .exact .inr (.inl y)
   .exact .inr (.inr (.inl (.inl y)))
   .exact absurd y z
   .exact .inr (.inr (.inl (.inr (.inr (.inl y)))))
   .exact .inr (.inr (.inl (.inr (.inr (.inr (.inl y))))))
   .exact .inr (.inr (.inl (.inr (.inr (.inr (.inr y))))))
   .exact .inr (.inr (.inr y))
def xZ(x:D)(l:List D):vC (x::l) 0=some x:=by
 unfold vC;have:GH (x::l).length 0=some 0:=by unfold GH;rw[d9];simp
 rw[this];rfl
def xN(f:pB->Str->Bool)(a:Ad):rf:=λds M Q=>Ba λL k c x=>ds=[.ref k.p,.str x]/\rM a M L k c/\Q (.bl (f c x)) M
abbrev Hd:=xN pB.hasB
abbrev zd:=xN pB.mX
abbrev EH:=xN pB.nq
abbrev yP:=xN pB.mW
abbrev vJ:=xN pB.mR
abbrev D5:=xN pB.mZ
abbrev xq:=xN pB.nE
noncomputable def O0(x:Str):D->Bool
 | .str y=>!(y==x)
 | _=>false
def za(a:Ad):rf:=λds M Q=>Ky λL k c x y r=>ds=[.ref k.p,.str x]/\rM a M L k c/\c.ms.length<=100/\rK c.ms x=y::r/\Q (.str y) M
def BS(ss:QQQ)(x:Str):[]++(List.filter (O0 x) (ss.map D.str)).map id=(rK ss x).map D.str:=by rw[dZ,je,gX];rfl
def Ap{M:Mp}{k:Addr}{ks:QQQ}{c:Str}{K:DK}(hk:oM M k=some (ks.map D.str))(h:K (.bl (hasS ks c)) M):SE false (.str c) (.ref k) M K:=by refine i' hk ⟨rfl,ql ks,?_⟩;show K (.bl (inD (.str c) (ks.map D.str))) M;rw[rZ];exact h
def V7(w x y:Str):inD (.str w) [.str x,.str y]=(w==x||w==y):=by rw[show[D.str x,D.str y]=[x,y].map D.str from rfl,rZ,gp];simp only[fW,mC,jl,gW,fj];exact⟨λh=>h.imp mj mj,λh=>h.imp mj mj⟩
def RO:Fq P w K mg base 1 a.bN (Hd a):=by
 refine fq G.bN.toDG GU (λr u=>⟨_,(pj (pQ (pG u (pC v0) pA)
 (pk (pD (GJ (pZ u U1 (pC v0)) (rY (pZ u U1 (pC v0))))))
 pJ)
 (pj (pQ (pG u (pC v0) pA)
 (pk (pD (pZ u U1 (pC v0))))
 pJ)
 (pk (pD (sF (pZ u (pC v0) (pM (rX pA pA))) (rY (pZ u U1 (pC v0)))))))),?_⟩)
 rintro ds M Q ⟨L,k,c,x,rfl,⟨ad,md,h1,h2,h3,h4,_⟩,q⟩
 unfold pB.hasB at q;refine pq h1 (i' rfl ?_);refine qD (c:=c.st=="rings") (λg=>?_) (λg=>?_)
 .rw[df g]at q;refine pq h1 (i' rfl (qD (c:=x==c.cr) (λg2=>?_) (λg2=>?_)))
  .rw[g2]at q;exact⟨M,.refl,q⟩
  .rw[show(x==c.cr)=false from dH.mpr g2,fE]at q;exact pq h1 (i' rfl (Ap h3 ⟨M,.refl,q⟩))
 .rw[cZ g]at q;refine pq h1 (i' rfl ?_);refine qD (c:=c.st=="waits") (λg2=>?_) (λg2=>?_)
  .rw[df g2]at q;exact pq h1 (i' rfl ⟨M,.refl,q⟩)
  .rw[cZ g2]at q;refine pq h1 (i' rfl ⟨pb rfl,rfl,rfl,?_⟩);show if inD (.str c.st) [.str "talks",.str "held"]=true then _ else _
   rw[V7];refine qD (λg3=>?_) (λg3=>?_)
   .rw[g3,eE]at q;exact pq h1 (i' rfl (Ap h4 ⟨M,.refl,q⟩))
   .rw[show(c.st=="talks"||c.st=="held")=false from dH.mpr g3,eR]at q;exact⟨M,.refl,q⟩
def vW:Fq P w K mg base 1 a.U (zd a):=by
 refine fq G.U.toDG yE (λr u=>⟨_,(pk (pD (sF (pZ u (pC v0) pA) (rY (pZ u U1 (pC v0)))))),?_⟩)
 rintro ds M Q ⟨L,k,c,x,rfl,⟨ad,md,h1,h2,h3,h4,_⟩,q⟩
 unfold pB.mX at q;refine pq h1 (i' rfl (qD (c:=c.st=="talks") (λg=>?_) (λg=>?_)))
 .rw[g,eE]at q;exact pq h1 (i' rfl (Ap h4 ⟨M,.refl,q⟩))
 .rw[show(c.st=="talks")=false from dH.mpr g,eR]at q;exact⟨M,.refl,q⟩
def Ml:Fq P w K mg base 2 a.bM (EH a):=by
 refine fq G.bM.toDG CS (λr u=>⟨_,(pj (pQ (pG u (pC v0) pA)
 (pk (pD (sF (pZ u U1 (pC v0)) (rY (pZ u U1 (pC v0))))))
 pJ)
 (pk (pD (pX v0 G.e.toCls G.U (vW G) r (qe U1))))),?_⟩)
 rintro ds M Q ⟨L,k,c,x,rfl,hc,q⟩
 obtain⟨ad,md,h1,h2,h3,h4,_⟩:=id hc;unfold pB.nq at q;refine pq h1 (i' rfl ?_);refine qD (c:=c.st=="held") (λg=>?_) (λg=>?_)
 .rw[df g]at q;refine pq h1 (i' rfl (i' h4 ⟨rfl,ql c.ms,?_⟩));show if inD (.str x) (c.ms.map D.str)=true then _ else _
  rw[rZ];refine qD (c:=hasS c.ms x) (λg2=>?_) (λg2=>?_)
  .rw[g2,eE]at q;refine pq h1 (i' rfl ?_);cases e:c.hd with
   | none=>rw[e]at q;exact⟨M,.refl,q⟩
   | some y=>
    rw[e]at q;refine⟨M,.refl,?_⟩;rw[show(!(some y==some x))=!(x==y)from by
     show(!(y==x))=_;rw[mo]]at q
    exact q
  .rw[show hasS c.ms x=false from dH.mpr g2,eR]at q;exact⟨M,.refl,q⟩
 .rw[cZ g]at q;exact pq h1 ⟨rfl,_,⟨rfl,rfl⟩,L,k,c,x,rfl,hc,M,.refl,q⟩
def BC:Fq P w K mg base 1 a.V (yP a):=by
 refine fq G.V.toDG ym (λr u=>⟨_,(pk (pD (sF (pZ u (pC v0) (pM (rX pA pA))) (rY (pZ u U1 (pC v0)))))),?_⟩)
 rintro ds M Q ⟨L,k,c,x,rfl,⟨ad,md,h1,h2,h3,h4,_⟩,q⟩
 unfold pB.mW at q;refine pq h1 (i' rfl ⟨pb rfl,rfl,rfl,?_⟩);show if inD (.str c.st) [.str "rings",.str "waits"]=true then _ else _
 rw[V7];refine qD (λg3=>?_) (λg3=>?_)
 .rw[g3,eE]at q;exact pq h1 (i' rfl ⟨M,.refl,q⟩)
 .rw[show(c.st=="rings"||c.st=="waits")=false from dH.mpr g3,eR]at q;exact⟨M,.refl,q⟩
def GZ:Fq P w K mg base 1 a.aE (vJ a):=by
 refine fq G.aE.toDG yS (λr u=>⟨_,(pk (pD (sF (pZ u (pC v0) pA) (rY (pZ u U1 (pC v0)))))),?_⟩)
 rintro ds M Q ⟨L,k,c,x,rfl,⟨ad,md,h1,h2,h3,h4,_⟩,q⟩
 unfold pB.mR at q;refine pq h1 (i' rfl (qD (c:=c.st=="waits") (λg=>?_) (λg=>?_)))
 .rw[g,eE]at q;exact pq h1 (i' rfl (Ap h3 ⟨M,.refl,q⟩))
 .rw[show(c.st=="waits")=false from dH.mpr g,eR]at q;exact⟨M,.refl,q⟩
def MA:Fq P w K mg base 2 a.bL (xq a):=by
 refine fq G.bL.toDG xg (λr u=>⟨_,(pk (pD (GJ (pX v0 G.e.toCls G.V (BC G) r (qe U1)) (GJ (pZ u U1 (pC v0)) (rY (pZ u U1 (pC v0))))))),?_⟩)
 rintro ds M Q ⟨L,k,c,x,rfl,hc,q⟩
 obtain⟨ad,md,h1,h2,h3,h4,_⟩:=id hc;unfold pB.nE at q;refine pq h1 ⟨rfl,_,⟨rfl,rfl⟩,L,k,c,x,rfl,hc,qD (c:=c.mW x) (λg=>?_) (λg=>?_)⟩
 .rw[g]at q;exact⟨M,.refl,q⟩
 .rw[show c.mW x=false from dH.mpr g,fE]at q;refine pq h1 (i' rfl (i' h3 ⟨rfl,ql c.at_,?_⟩));show if inD (.str x) (c.at_.map D.str)=true then _ else _
  rw[rZ];refine qD (c:=hasS c.at_ x) (λg2=>?_) (λg2=>?_)
  .rw[g2]at q;exact⟨M,.refl,q⟩
  .rw[show hasS c.at_ x=false from dH.mpr g2,fE]at q;exact pq h1 (i' rfl (Ap h4 ⟨M,.refl,q⟩))
def GS:Fq P w K mg base 2 a.aG (D5 a):=by
 refine fq G.aG.toDG C4 (λr u=>⟨_,(pk (pD (sF (pX v0 G.e.toCls G.U (vW G) r (qe U1)) (rY (pZ u (pS qx rfl G.g qv (qe (pC v0))) pz))))),?_⟩)
 rintro ds M Q ⟨L,k,c,x,rfl,hc,q⟩
 obtain⟨ad,md,h1,h2,h3,h4,_⟩:=id hc;unfold pB.mZ at q;refine pq h1 ⟨rfl,_,⟨rfl,rfl⟩,L,k,c,x,rfl,hc,qD (c:=c.mX x) (λg=>?_) (λg=>?_)⟩
 .rw[g,eE]at q;refine pq h1 (i' rfl (i' h4 ⟨M,.refl,?_⟩));rw[cV];have:(((c.ms.length:Nat):Int)==2)=(c.ms.length==2):=by rw[gp,fj,fj];omega
  show Q (.bl (((c.ms.length:Nat):Int)==2)) M;rw[this];exact q
 .rw[show c.mX x=false from dH.mpr g,eR]at q;exact⟨M,.refl,q⟩
def F9:Fq P w K mg base 1 a.aF (za a):=by
 refine fq G.aF.toDG yM (λr u=>⟨_,(pk (pD (pK (qH rfl (xy (ix:=[none,some 1]) (N':=["member","phone"])) (qF (pC v0)) (qG 0) (uY (pG u v0 U1)) v0) pz))),?_⟩)
 rintro ds M Q ⟨L,k,c,x,y,r,rfl,hc,hl,e,q⟩
 have hz:=dN;obtain⟨ad,md,h1,h2,h3,h4,_⟩:=id hc;refine pq h1 (i' rfl (i' h4 (tP (f:=id) (t:=O0 x) h4 _ [] _ (by rw[cV];simp only[dJ];omega) (λd hd k0 hk=>?_) (λd hd _ k0 hk=>?_) λp hp=>?_)))
 .obtain⟨y,hy,rfl⟩:=dC.mp hd;exact hk
 .obtain⟨y,hy,rfl⟩:=dC.mp hd;exact hk
 rw[BS,e];exact i' pE (i' (xZ _ _) ⟨M,.new hp,q⟩)
theorem CB:∀bs:List Bool,AQ (.bl true) (bs.map D.bl)=bs.findIdx? id
 | []=>rfl
 | b::r=>by rw[dX,List.findIdx?_cons];unfold AQ;rw[CB r];cases b<;>rfl
theorem LS(x:D):∀ds:List D,(AQ x ds).isSome=ds.any λd=>Ow d x
 | []=>rfl
 | d::r=>by
  unfold AQ;rw[fW];by_cases h:Ow d x=true
  .rw[df h,h];rfl
  .rw[cZ h,jp,LS x r,show Ow d x=false from dH.mpr h,fE]
theorem Co:∀bs:List Bool,(bs.map D.bl).all va=true
 | []=>rfl
 | _::r=>by rw[dX,eW,Co r];rfl
structure Rd(a:Ad)(M:Mp)(A:tV)(V:qB)(l:pH):Prop where
 bd:pN a M A V
 k:V.calls.length<=1000000
 pl:tI a M V.p l
 ok:rL l
 on:V.on.length=l.mO.length
 ms:∀c∈V.calls,(∀x∈c.ms,x∈l.pn)/\c.ms.length<=100
def Rd.sub{a:Ad}{M M':Mp}{A:tV}{V:qB}{l:pH}(h:Rd a M A V l)(s:qr M M'):Rd a M' A V l:=⟨h.bd.sub s,h.k,h.pl.sub s,h.ok,h.on,h.ms⟩
def Mf:rf:=λds M Q=>BO λr bs=>ds=[.ref r]/\oM M r=some (List.map D.bl bs)/\Q (OA (bs.findIdx? id)) M
def Kp(f:qB->Str->D)(a:Ad):rf:=λds M Q=>CQ λA V x=>ds=[.ref A.b,.str x]/\pN a M A V/\V.calls.length<=1000000/\Q (f V x) M
noncomputable def TF(V:qB)(x:Str):D:=.int (uq V x:Nat)
noncomputable def L5(V:qB)(x:Str):D:=OA (Er V x)
noncomputable def Au(V:qB)(x:Str):D:=OA (vP V x)
noncomputable def T9(V:qB)(x:Str):D:=OA (Jr V x)
noncomputable def TC(V:qB)(x:Str):D:=.bl (wn V x)
abbrev Fc:=Kp TF
abbrev C0:=Kp L5
abbrev AZ:=Kp Au
abbrev AE:=Kp T9
abbrev zM:=Kp TC
def xj(a:Ad):rf:=λds M Q=>Ba λA V l x=>ds=[.ref A.b,.str x]/\Rd a M A V l/\x∈l.pn/\Q (.bl (tG l V x)) M
def zN(a:Ad):rf:=λds M Q=>G7 λA V l c z=>ds=[.ref A.b,.str c,.str z]/\Rd a M A V l/\z∈l.nm/\∀q M',qr M M'->M q=none->oM M' q=some ((sU l V c z).map D.str)->Q (.ref q) M'
def zQ(a:Ad):rf:=λds M Q=>BO λA V=>ds=[.ref A.b]/\pN a M A V/\Q (.int ((V.h+V.t) % 24)) M
def Qb(a:Ad):rf:=λds M Q=>G7 λA V l c z=>ds=[.ref A.b,.str c,.str z]/\Rd a M A V l/\z∈l.nm/\Q (.bl (sO l V c z)) M
def zo{a:Ad}{M:Mp}{A:tV}{V:qB}(h:pN a M A V){pre post:List D}{d:D}(e:pre++d::post=A.cs.map λk=>D.ref k.p):∃k c,A.cs[pre.length]?=some k/\V.calls[pre.length]?=some c/\d=.ref k.p/\rM a M (A.lists++V.fo) k c/\V.calls.take (pre.length+1)=V.calls.take pre.length++[c]:=by
 have h1:(A.cs.map λk=>D.ref k.p)[pre.length]?=some d:=by rw[<-e];simp
 rw[dD]at h1;cases z:A.cs[pre.length]? with
 | none=>rw[z]at h1;cases h1
 | some k=>
  rw[z]at h1;have hi:pre.length<V.calls.length:=by rw[<-h.len];exact(c9.mp z).1
  have e2:V.calls[pre.length]?=some V.calls[pre.length]:=cX hi;refine⟨k,_,rfl,e2,(dh h1).symm,h.cs _ _ _ z e2,?_⟩;rw[gH,e2];rfl
def wZ{l:pH}{x:Str}(h:x∈l.pn):∃v,l.ng x=some v:=by
 obtain⟨p,hp,rfl⟩:=dC.mp h;unfold pH.ng;cases e:l.mL.find? λq=>decide (q.1=p.1)with
 | some v=>exact⟨v,rfl⟩
 | none=>exact absurd (gC.mp e p hp) (by simp)
def qw{ss:QQQ}{x:Str}:hasS ss x=true↔x∈ss:=by unfold hasS;rw[gz];exact⟨λ⟨y,hy,e⟩=>eq_of_beq e ▸ hy,λh=>⟨x,h,fh _⟩⟩
def Km{ss:QQQ}(h:w9 ss=true):ss.Nodup:=by
 have h:(sV ss).length=ss.length:=by unfold w9 at h;have:=fj.mp h;omega
 suffices key:∀r:QQQ,(sV r.reverse).length=r.reverse.length->r.reverse.Nodup by have:=key ss.reverse;rw[List.reverse_reverse]at this;exact this h
 intro r;induction r with
 | nil=>intro _;exact eJ
 | cons k r ih=>
  intro h;rw[List.reverse_cons]at h ⊢;generalize r.reverse=l at ih h ⊢;rw[yc]at h;split at h
  .have:=Ja l;rw[cY,dO]at h;omega
  .rename_i hk;rw[cY,cY,dO]at h;have h1:=ih (by omega);rw[Nu]at hk;refine fQ.mpr ⟨h1,by simp,λx hx y hy=>?_⟩;rw[dz.mp hy];exact λz=>hk (z ▸ hx)
def Hz{cs ks:QQQ}{m:Int}(h:sG cs ks m=true):cs≠[]/\(cs.length:Int)<=m/\cs.Nodup/\∀x∈cs,x∈ks:=by unfold sG at h;simp only[dU,eB,eK]at h;obtain⟨h1,h2,h3,h4⟩:=h;refine⟨λz=>by rw[z]at h1;exact absurd h1 (by decide),h2,Km h3,λx hx=>qw.mp (h4 x hx)⟩
def rL.of{l:pH}(ok:rL l){z:Str}(hz:z∈l.nm):(l.mK z≠[]/\(l.mK z).length<=4/\(l.mK z).Nodup/\∀x∈l.mK z,x∈l.pn)/\(z∈l.pn->l.mK z=[z]/\l.mU z="one"):=by
 have hd:=fQ.mp ok.nd;have h1:z∈l.pn->l.group z=none:=λh=>gC.mpr λg hg e=>hd.2.2 z h g.1 (dC.mpr ⟨g,hg,rfl⟩) (by simpa using e:g.1=z).symm;refine⟨?_,λh=>by unfold pH.mK pH.mU;rw[h1 h];exact⟨rfl,rfl⟩⟩;unfold pH.mK;cases e:l.group z with
 | none=>
  have hp:z∈l.pn:=by
   rcases dY.mp hz with h|h
   .exact h
   .obtain⟨g,hg,rfl⟩:=dC.mp h;exact absurd (gC.mp e g hg) (by simp)
  exact⟨fB _ _,by show 1<=4;decide,dQ.mpr ⟨dF,eJ⟩,λx hx=>by rw[dz.mp hx];exact hp⟩
 | some g=>obtain⟨c1,c2,c3,c4⟩:=Hz (ok.go g (fT e)).mem;exact⟨c1,by show g.2.2.length<=4;omega,c3,c4⟩
def yf{a:Ad}{M:Mp}{A:tV}{V:qB}{f:pB->Str->Bool}{m x:Str}{Q:DK}{ok:Mp->Prop}(bd:pN a M A V)(hk:V.calls.length<=1000000)(mV:ok M)(hm:∀c wy ad md,(rg c wy ad md).lookup m=none)(q:∀p,M p=none->Q (.ref p) (pF M p (.lst ((V.calls.map λc=>f c x).map D.bl)))):
  vd (sP 0) B4 (AB m (λC s=>C=a.e/\s=xN f a) (v3 0) (sf (v3 1) uT)) ok Q (A.cs.map λk=>D.ref k.p) [] [none,some (.str x)] M:=by
 have hz:=dN;refine Bc (A.cs.map λk=>D.ref k.p) (λpre acc δ M'=>M=M'/\acc=((V.calls.take pre.length).map λc=>f c x).map D.bl/\∃y,δ=[y,some (.str x)]) (λ_ _ _ M' j=>by rw[<-j.1];exact mV) _ [] [] _ _ rfl ?_ ⟨rfl,rfl,none,rfl⟩ ?_ ?_
 .rw[cV,bd.len];simp only[dJ];omega
 .rintro pre d post e acc δ M' ⟨rfl,rfl,y,rfl⟩ k hk
  obtain⟨ka,c,e1,e2,rfl,hc,et⟩:=zo bd e;obtain⟨_,_,g1,_⟩:=id hc;refine pq g1 ⟨hm _ _ _ _,_,⟨rfl,rfl⟩,_,ka,c,x,rfl,hc,hk _ _ _ ⟨rfl,?_,_,rfl⟩⟩;rw[cY,dO,et,dS,dS];rfl
 .rintro acc δ M' ⟨rfl,rfl,y,rfl⟩ p hp
  rw[cV,bd.len,fg];exact q p hp
def Bw:Fq P w K mg base 1 a.M Mf:=by
 refine fq G.M.toDG zR (λr u=>⟨_,(pj (pQ (pG u ul v0)
 (pk (pD (xD v0 (qe ul))))
 pJ)
 (pk (pD sD))),?_⟩)
 rintro ds M Q ⟨r,bs,rfl,hr,q⟩
 have ei:inD (.bl true) (bs.map D.bl)=(bs.findIdx? id).isSome:=by rw[<-CB];exact(LS _ _).symm
 refine i' hr ⟨rfl,Co bs,?_⟩;show if inD (.bl true) (bs.map D.bl)=true then _ else _
 rw[ei];cases e:bs.findIdx? id with
 | none=>rw[e]at q;exact⟨M,.refl,q⟩
 | some j=>rw[e]at q;exact GN ⟨by show(oM M r).isSome=true;rw[hr];rfl,i' hr ⟨rfl,Co bs,i' ((CB bs).trans e) ⟨M,.refl,q⟩⟩⟩
def OG:Fq P w K mg base 2 a.bJ (Fc a):=by
 refine fq G.bJ.toDG Dc (λr u=>⟨_,(pk (pD (pS qx rfl G.g qv (qe (qH rfl (xy (ix:=[none,some 1]) (N':=["call","phone"])) (qF (pC v0)) (qG 0) (uY (uI (pX v0 G.e.toCls G.bN (RO G) r (qe U1)))) v0))))),?_⟩)
 rintro ds M Q ⟨A,V,x,rfl,bd,W5,q⟩
 have hz:=dN;refine pq bd.at_ (i' rfl (i' bd.ca ?_));refine vh (A.cs.map λk=>D.ref k.p) (λpre acc δ M'=>M=M'/\acc.length=((V.calls.take pre.length).filter (·.hasB x)).length/\∃y,δ=[y,some (.str x)]) (λ_ _ _ M' j=>by rw[<-j.1];exact bd.ca) _ [] [] _ _ rfl ?_ ⟨rfl,rfl,none,rfl⟩ ?_ ?_
 .rw[cV,bd.len];simp only[dJ];omega
 .rintro pre d post e acc δ M' ⟨rfl,ha,y,rfl⟩ k k2 hk XU
  obtain⟨ka,c,e1,e2,rfl,hc,et⟩:=zo bd e;rw[cY,dO,et,iB]at hk XU;obtain⟨_,_,g1,_⟩:=id hc;refine pq g1 ⟨rfl,_,⟨rfl,rfl⟩,_,ka,c,x,rfl,hc,?_⟩;refine qD (c:=c.hasB x) (λg=>?_) (λg=>?_)
  .refine hk _ _ _ ⟨rfl,?_,_,rfl⟩;rw[cY,cY,ha,gP (by exact g)];rfl
  .refine XU _ _ ⟨rfl,?_,_,rfl⟩;rw[cY,ha,gQ (by exact g)];rfl
 .rintro acc δ M' ⟨rfl,ha,y,rfl⟩ p hp
  refine i' pE ⟨M,.new hp,?_⟩;rw[cV,bd.len,fg]at ha;rw[ha];exact q
def KY:Fq P w K mg base 3 a.bH (C0 a):=by
 refine fq G.bH.toDG Cn (λr u=>⟨_,(pk (pD (pI (Bw G) r G.M (qe (qH rfl (xy (ix:=[none,some 1]) (N':=["call","phone"])) (qF (pC v0)) (qG 0) rS (pX v0 G.e.toCls G.bM (Ml G) r (qe U1))))))),?_⟩)
 rintro ds M Q ⟨A,V,x,rfl,bd,W5,q⟩
 refine pq bd.at_ (i' rfl (i' bd.ca (yf bd W5 bd.ca (λ_ _ _ _=>rfl) λp hp=>⟨p,_,rfl,pE,M,.new hp,?_⟩)));rw[hJ];exact q
def Ht:Fq P w K mg base 3 a.bI (AE a):=by
 refine fq G.bI.toDG An (λr u=>⟨_,(pk (pD (pI (Bw G) r G.M (qe (qH rfl (xy (ix:=[none,some 1]) (N':=["call","phone"])) (qF (pC v0)) (qG 0) rS (pX v0 G.e.toCls G.V (BC G) r (qe U1))))))),?_⟩)
 rintro ds M Q ⟨A,V,x,rfl,bd,W5,q⟩
 refine pq bd.at_ (i' rfl (i' bd.ca (yf bd W5 bd.ca (λ_ _ _ _=>rfl) λp hp=>⟨p,_,rfl,pE,M,.new hp,?_⟩)));rw[hJ];exact q
def yQ:Fq P w K mg base 3 a.R (AZ a):=by
 refine fq G.R.toDG z9 (λr u=>⟨_,(pk (pD (pI (Bw G) r G.M (qe (qH rfl (xy (ix:=[none,some 1]) (N':=["call","phone"])) (qF (pC v0)) (qG 0) rS (pX v0 G.e.toCls G.U (vW G) r (qe U1))))))),?_⟩)
 rintro ds M Q ⟨A,V,x,rfl,bd,W5,q⟩
 refine pq bd.at_ (i' rfl (i' bd.ca (yf bd W5 bd.ca (λ_ _ _ _=>rfl) λp hp=>⟨p,_,rfl,pE,M,.new hp,?_⟩)));rw[hJ];exact q
def F1:Fq P w K mg base 3 a.bB (zM a):=by
 refine fq G.bB.toDG yV (λr u=>⟨_,(pk (pD (pS (QZ rfl) rfl G.cI RY (qe (qH rfl (xy (ix:=[none,some 1]) (N':=["call","phone"])) (qF (pC v0)) (qG 0) rS (pX v0 G.e.toCls G.aE (GZ G) r (qe U1))))))),?_⟩)
 rintro ds M Q ⟨A,V,x,rfl,bd,W5,q⟩
 refine pq bd.at_ (i' rfl (i' bd.ca (yf bd W5 bd.ca (λ_ _ _ _=>rfl) λp hp=>i' pE ?_)));rw[eh];refine i' (yh _ _) ⟨M,.new hp,?_⟩;rw[jM];exact q
def Gr:Fq P w K mg base 1 a.bA (zQ a):=by
 refine fq G.bA.toDG zA (λr u=>⟨_,(pk (pD (pU (pU (pC v0) (pC v0)) pz))),?_⟩)
 rintro ds M Q ⟨A,V,rfl,bd,q⟩
 exact pq bd.at_ (i' rfl (pq bd.at_ (i' rfl ⟨by decide,M,.refl,q⟩)))
def Gz{l:pH}{x:Str}{v:ui}(h:l.ng x=some v):wJ l x=v.2.1:=by unfold wJ;rw[h];rfl
def yO:Fq P w K mg base 3 a.T (xj a):=by
 refine fq G.T.toDG Ak (λr u=>⟨_,(pk (pD (pZ u (pX v0 G.c.toCls G.bJ (OG G) r (qe U1)) (pX (pC v0) G.h.toCls G.bK (CP G) r (qe U1))))),?_⟩)
 rintro ds M Q ⟨A,V,l,x,rfl,rd,hx,q⟩
 obtain⟨ph,gr,ws,Yl,pr,gd,rs,i1,_⟩:=rd.pl;obtain⟨v,hv⟩:=wZ hx;refine pq rd.bd.at_ ⟨rfl,_,⟨rfl,rfl⟩,A,V,x,rfl,rd.bd,rd.k,?_⟩;refine pq rd.bd.at_ (i' rfl (pq i1 ⟨rfl,_,⟨rfl,rfl⟩,V.p,x,v,l,rfl,rd.pl,hv,?_⟩));unfold tG at q;rw[Gz hv]at q;exact⟨M,.refl,q⟩
def Aq:Fq P w K mg base 4 a.aB (zN a):=by
 refine fq G.aB.toDG zu (λr u=>⟨_,(pk (pD (qH rfl (xy (ix:=[none,some 1,some 0]) (N':=["phone","caller","self"])) (qF (pX (pC v0) G.h.toCls G.X (uB G) r (qe U2))) (qG 0) (uY (W3.b3 (wI (pG u v0 U1) (vI (uI (pX U2 G.c.toCls G.T (yO G) r (qe v0))))))) v0))),?_⟩)
 rintro ds M Q ⟨A,V,l,c,z,rfl,rd,XI,q⟩
 obtain⟨ph,gr,ws,Yl,pr,gd,rs,i1,_⟩:=rd.pl;obtain⟨⟨_,p4,_,pin⟩,_⟩:=rd.ok.of XI;refine pq rd.bd.at_ (i' rfl (pq i1 ⟨rfl,_,⟨rfl,rfl⟩,V.p,z,l,rfl,rd.pl,λq1 XH=>i' pE ?_⟩));have s1:=qr.new (c:=.lst (List.map D.str (l.mK z))) XH;have c1:=@pE M q1 (List.map D.str (l.mK z));generalize pF M q1 (.lst (List.map D.str (l.mK z)))=M1 at s1 c1 ⊢;have hz:=dN;have YC:=rd.sub s1;refine tP (f:=id) (t:=λd=>match d with|.str x=>!(x==c)&&tG l V x|_=>false) c1 _ [] _ (by rw[cV];simp only[dJ];omega) (λd hd k hk=>?_) (λd hd _ k hk=>?_) λq2 Y4=>?_
 .obtain⟨x,hx,rfl⟩:=dC.mp hd;have hk:k (!(x==c)&&tG l V x) M1:=hk;cases e:x==c with
  | true=>rw[e]at hk;refine Ll (c:=!(x==c)) (by rw[e];rfl) hk
  | false=>rw[e]at hk;refine AX (c:=!(x==c)) (by rw[e];rfl) (pq YC.bd.at_ ⟨rfl,_,⟨rfl,rfl⟩,A,V,l,x,rfl,YC,pin x hx,hk⟩)
 .obtain⟨x,hx,rfl⟩:=dC.mp hd;exact hk
 .have ef:[]++(List.filter (λd=>match d with|.str x=>!(x==c)&&tG l V x|_=>false) ((l.mK z).map D.str)).map id=(sU l V c z).map D.str:=by rw[dZ,je,gX];rfl
  rw[ef];have t2:=qr.new (c:=.lst ((sU l V c z).map D.str)) Y4;exact⟨_,.refl,q q2 _ (s1.trans t2) (s1.none Y4) pE⟩
def Fz:Fq P w K mg base 5 a.L (Qb a):=by
 refine fq G.L.toDG G' (λr u=>⟨_,(pk (pD (pZ u (pS qx rfl G.g qv (qe (pX v0 G.c.toCls G.aB (Aq G) r (rX U1 U2)))) pz))),?_⟩)
 rintro ds M Q ⟨A,V,l,c,z,rfl,rd,tg,q⟩
 refine pq rd.bd.at_ ⟨rfl,_,⟨rfl,rfl⟩,A,V,l,c,z,rfl,rd,tg,λq1 M1 s1 XH e1=>i' e1 ⟨M,s1,?_⟩⟩;have e:((((sU l V c z).map D.str).length:Int)==0)=sO l V c z:=by unfold sO;rw[cV,gp,fj,List.isEmpty_iff,<-gv];omega
 show Q (.bl ((((sU l V c z).map D.str).length:Int)==0)) M;rw[e];exact q
def wX(a:Ad)(v:Wi):rf:=λds M Q=>Ky λp A V l c z=>ds=[.ref p,.ref A.b,.str c,.str z]/\M p=some (.ins (v.cls a) v.m8)/\Rd a M A V l/\z∈l.nm/\zY l.pn l.nm v/\Q (.bl (xV l V c z v)) M
def Qt(a:Ad)(v:Wi):rf:=λds M Q=>Ba λp L k c=>ds=[.ref p,.ref (rA.p k)]/\M p=some (.ins (v.cls a) v.m8)/\rM a M L k c/\Q (.bl (G1 c v)) M
def Gm:rf:=λds M Q=>BO λx y=>ds=[x,y]/\Q (.bl false) M
def yA(a:Ad):Addr->rf->Prop:=λC sp=>∃v:Wi,C=v.cls a/\sp=wX a v
noncomputable def LW(a:Ad):Wi->rf
 | .silent x y n=>Qt a (.silent x y n)
 | _=>Gm
def GA(a:Ad):Addr->rf->Prop:=λC sp=>∃v:Wi,C=v.cls a/\sp=LW a v
def zZ(a:Ad):rf:=λds M Q=>Ky λp x y f l h=>ds=[.ref p,.int h]/\M p=some (.ins a.n (Wi.night x y f l).m8)/\Q (.bl (FH f l h)) M
def zH(a:Ad):rf:=λds M Q=>Ky λp x q l r ms=>ds=[.ref p,.ref q,.ref r]/\M p=some (.ins a.o (Wi.breaks x).m8)/\tI a M q l/\oM M r=some (List.map D.str ms)/\ms.length<=100/\x∈l.pn/\(∀m∈ms,m∈l.pn)/\Q (.bl (HP l x ms)) M
def Js{l:pH}{x:Str}{v:ui}(h:l.ng x=some v):vQ l x=v.2.2:=by unfold vQ;rw[h];rfl
def rj{ks:List rA}{i:Nat}{k:rA}(h:ks[i]?=some k):vC (ks.map λk=>D.ref k.p) (i:Nat)=some (.ref k.p):=ur (by rw[dD,h];rfl)
def LL(ds:List D):L3.uR ds (some (-1:Int)) none=ds.drop (ds.length - 1):=by
 unfold L3.uR;have e:HT.tw ds.length 0 (some (-1:Int))=ds.length - 1:=by show(if (-1:Int)<0 then((-1:Int)+(ds.length:Int)).toNat else min (-1:Int).toNat ds.length)=ds.length - 1;rw[df (by decide)];omega
 rw[e];show(ds.drop (ds.length - 1)).take (ds.length - (ds.length - 1))=_;exact iH (by rw[gx];exact dv _)
theorem Dt{α:Type}:∀w:List α,w.drop (w.length - 1)=w.getLast?.toList
 | []=>rfl
 | [_]=>rfl
 | _::z::r=>by rw[gR,<-Dt (z::r)];rfl
def Og{M:Mp}{p q:Addr}{w:QQQ}{x:Str}(h1:oM M p=some ((w.map D.str).drop ((w.map D.str).length - 1)))(h2:oM M q=some [D.str x]):xx M 9 (.ref p) (.ref q)=some (w.getLast?==some x):=by
 have e:(w.map D.str).drop ((w.map D.str).length - 1)=(w.getLast?.toList).map D.str:=by rw[cV,<-kD];rw[Dt]
 rw[e]at h1;show(oM M p).bind (λi=>(oM M q).bind λj=>if i.length=j.length then sE (xx M 8) i j else some false)=_;rw[h1,h2];cases w.getLast? with
 | none=>rfl
 | some y=>show((some (y==x)).bind λp=>(some true).map λq=>p&&q)=some (some y==some x);show some ((y==x)&&true)=_;rw[mq];rfl
def MP(G:Gl K mg a)(x:Str)(ns:QQQ):Fq P w K mg base 6 a.am (wX a (.bar x ns)):=by
 refine fq G.am.toDG FZ (λr u=>⟨_,(pk (pD (sF (pZ u U2 (pC v0)) (rY (pZ u U3 (pC v0)))))),?_⟩)
 rintro ds M Q ⟨p,A,V,l,c,z,rfl,hp,_,_,_,q⟩
 refine pq hp ?_;refine qD (c:=c==x) (λg=>pq hp ⟨rfl,ql ns,M,.refl,?_⟩) (λg=>⟨M,.refl,?_⟩)
 .show Q (.bl (inD (.str z) (ns.map D.str))) M;rw[rZ];dsimp only[xV]at q;rw[g,eE]at q;exact q
 .dsimp only[xV]at q;rw[show(c==x)=false from dH.mpr g,eR]at q;exact q
def Nb(G:Gl K mg a)(x:Str)(ns:QQQ):Fq P w K mg base 6 a.ao (wX a (.shut x ns)):=by
 refine fq G.ao.toDG Em (λr u=>⟨_,(pk (pD (sF (pZ u U3 (pC v0)) (rY (pZ u U2 (pC v0)))))),?_⟩)
 rintro ds M Q ⟨p,A,V,l,c,z,rfl,hp,_,_,_,q⟩
 refine pq hp ?_;refine qD (c:=z==x) (λg=>pq hp ⟨rfl,ql ns,M,.refl,?_⟩) (λg=>⟨M,.refl,?_⟩)
 .show Q (.bl (inD (.str c) (ns.map D.str))) M;rw[rZ];dsimp only[xV]at q;rw[g,eE]at q;exact q
 .dsimp only[xV]at q;rw[show(z==x)=false from dH.mpr g,eR]at q;exact q
def Lk(G:Gl K mg a)(x y:Str):Fq P w K mg base 6 a.ap (wX a (.always x y)):=by
 refine fq G.ap.toDG B1 (λr u=>⟨_,(pk (pD (pZ u U3 (pC v0)))),?_⟩)
 rintro ds M Q ⟨p,A,V,l,c,z,rfl,hp,_,_,_,q⟩
 exact pq hp ⟨M,.refl,q⟩
def G0:Fq P w K mg base 1 a.bz (zZ a):=by
 refine fq G.bz.toDG zc (λr u=>⟨_,(pj (pQ (pG u (pC v0) (pC v0))
 (pk (pD (uz u (pC v0) U1 (pC v0))))
 pJ)
 (pk (pD (GJ (pZ u U1 (pC v0)) (rY (pZ u U1 (pC v0))))))),?_⟩)
 rintro ds M Q ⟨p,x,y,f,l,h,rfl,hp,q⟩
 refine pq hp (pq hp ?_);show if (decide (f<l))=true then _ else _
 unfold FH at q;by_cases z:f<l
 .rw[df z]at q;refine AX (dW z) (pq hp ?_);refine qD (c:=decide (f<=h)) (λg=>?_) (λg=>?_)
  .rw[g,eE]at q;exact pq hp ⟨M,.refl,q⟩
  .rw[show decide (f<=h)=false from dH.mpr g,eR]at q;exact⟨M,.refl,q⟩
 .rw[cZ z]at q;refine Ll (eN z) (pq hp ?_);refine qD (c:=decide (h>=f)) (λg=>?_) (λg=>?_)
  .rw[g,hU]at q;exact⟨M,.refl,q⟩
  .rw[show decide (h>=f)=false from dH.mpr g,fE]at q;exact pq hp ⟨M,.refl,q⟩
def MC(G:Gl K mg a)(x y:Str)(f m:Int):Fq P w K mg base 6 a.ar (wX a (.night x y f m)):=by
 refine fq G.ar.toDG CW (λr u=>⟨_,(pk (pD (sF (pZ u U3 (pC v0)) (rY (pX v0 G.n.toCls G.bz (G0 G) r (qe (ya U1 G.c.toCls G.bA (Gr G) r))))))),?_⟩)
 rintro ds M Q ⟨p,A,V,l,c,z,rfl,hp,rd,_,_,q⟩
 dsimp only[xV]at q;refine pq hp ?_;refine qD (c:=z==x) (λg=>?_) (λg=>?_)
 .rw[g,eE]at q;exact pq hp ⟨rfl,_,⟨rfl,rfl⟩,pq rd.bd.at_ ⟨rfl,_,⟨rfl,rfl⟩,A,V,rfl,rd.bd,p,x,y,f,m,_,rfl,hp,M,.refl,q⟩⟩
 .rw[show(z==x)=false from dH.mpr g,eR]at q;exact⟨M,.refl,q⟩
def KU(G:Gl K mg a)(x y:Str):Fq P w K mg base 6 a.au (wX a (.busy x y)):=by
 refine fq G.au.toDG EL (λr u=>⟨_,(pk (pD (sF (pZ u U3 (pC v0)) (rY (pI (Fz G) r G.L (rb U1 U2 U3)))))),?_⟩)
 rintro ds M Q ⟨p,A,V,l,c,z,rfl,hp,rd,hz,_,q⟩
 dsimp only[xV]at q;refine pq hp ?_;refine qD (c:=z==x) (λg=>?_) (λg=>?_)
 .rw[g,eE]at q;exact⟨A,V,l,c,z,rfl,rd,hz,M,.refl,q⟩
 .rw[show(z==x)=false from dH.mpr g,eR]at q;exact⟨M,.refl,q⟩
def Lb(G:Gl K mg a)(x y:Str)(n:Int):Fq P w K mg base 6 a.aw (wX a (.silent x y n)):=by
 refine fq G.aw.toDG Cp (λr u=>⟨_,(pk (pD ul)),?_⟩)
 rintro ds M Q ⟨p,A,V,l,c,z,rfl,hp,rd,hz,_,q⟩
 exact⟨M,.refl,q⟩
def Mz(G:Gl K mg a)(x:Str):Fq P w K mg base 6 a.ay (wX a (.wait x)):=by
 refine fq G.ay.toDG FE (λr u=>⟨_,(pj (pQ (W3.b3 (xQ (pG u U3 (pC v0)) (wR (pG u U2 (pC v0)))))
 (pk (pD ul))
 pJ)
 (pk (pD (sF (pI (Fz G) r G.L (rb U1 U2 U3)) (rY (LJ (pX U1 G.c.toCls G.bB (F1 G) r (qe U3)))))))),?_⟩)
 rintro ds M Q ⟨p,A,V,l,c,z,rfl,hp,rd,hz,_,q⟩
 dsimp only[xV]at q;refine pq hp ?_;refine qD (c:=!(z==x)) (λg=>?_) (λg=>?_)
 .rw[g,hU]at q;exact⟨M,.refl,q⟩
 rw[show(!(z==x))=false from dH.mpr g,fE]at q;refine pq hp ?_;refine qD (c:=c==x) (λg=>?_) (λg=>?_)
 .rw[g]at q;exact⟨M,.refl,q⟩
 rw[cZ g]at q;refine⟨A,V,l,c,z,rfl,rd,hz,?_⟩;refine qD (c:=sO l V c z) (λg=>?_) (λg=>?_)
 .rw[g,eE]at q;exact pq rd.bd.at_ ⟨rfl,_,⟨rfl,rfl⟩,A,V,z,rfl,rd.bd,rd.k,M,.refl,q⟩
 .rw[show sO l V c z=false from dH.mpr g,eR]at q;exact⟨M,.refl,q⟩
def Gb:Fq P w K mg base 2 a.bC (zH a):=by
 refine fq G.bC.toDG vq (λr u=>⟨_,(pj (pL 3 vq (pX U1 G.h.toCls G.aC (yW G) r (qe (pC v0))))
 (pk (pD (pS (EC rfl) rfl G.bQ E4 (qe (qH rfl (xy (ix:=[none,some 1,some 3]) (N':=["member","plan","rank"])) (qF U2) (qG 0) rS (pZ u (pX U1 G.h.toCls G.aC (yW G) r (qe v0)) U2))))))),?_⟩)
 rintro ds M Q ⟨p,x,q,l,r,ms,rfl,hp,pl,lr,h100,hx,hm,k⟩
 have hz:=dN;obtain⟨v,hv⟩:=wZ hx;obtain⟨ph,gr,ws,Yl,pr,gd,rs,i1,_⟩:=id pl;refine pq i1 ⟨rfl,_,⟨rfl,rfl⟩,pq hp (i' rfl ⟨q,x,v,l,rfl,pl,hv,?_⟩)⟩;refine i' lr (qZ (f:=λd=>match d with|.str m=>.bl (decide (vQ l m<vQ l x))|_=>.mS) lr _ [] _ (by rw[cV];show 0+ms.length<=sizeLine;omega) (λd hd k0 hk=>?_) λp1 X9=>?_)
 .obtain⟨m,hmm,rfl⟩:=dC.mp hd;obtain⟨u,hu⟩:=wZ (hm m hmm);have hk:k0 (.bl (decide (vQ l m<vQ l x))) M:=hk;rw[Js hu,Js hv]at hk;exact pq i1 ⟨rfl,_,⟨rfl,rfl⟩,q,m,u,l,rfl,pl,hu,hk⟩
 .have em:[]++(ms.map D.str).map (λd=>match d with|.str m=>.bl (decide (vQ l m<vQ l x))|_=>.mS)=ms.map λm=>D.bl (decide (vQ l m<vQ l x)):=by rw[dZ,eh];rfl
  rw[em];refine i' pE (i' (yh (λm=>decide (vQ l m<vQ l x)) ms) ⟨M,.new X9,?_⟩);unfold HP at k;rw[ze];exact k
def LX(G:Gl K mg a)(x:Str):Fq P w K mg base 6 a.aA (wX a (.breaks x)):=by
 refine fq G.aA.toDG vv (λr u=>⟨_,(pj (pQ (W3.b3 (xQ (pG u U2 (pC v0)) (wR (pG u U3 (pC v0)))))
 (pk (pD ul))
 pJ)
 (pj (pQ (W3.b3 (xQ (pG u U3 (ya (pC U1) G.h.toCls G.S (tW G) r)) (wR (vT (uI (pI (Fz G) r G.L (rb U1 U2 U3)))))))
 (pk (pD ul))
 pJ)
 (pj (pL 4 vv (pX U1 G.c.toCls G.R (yQ G) r (qe U3)))
 (pj (pQ (pG u v4 sD)
 (pk (pD ul))
 pJ)
 (pj (pL 5 vv (pC (pK (pC U1) v4)))
 (pk (pD (sF (pZ u (pS qx rfl G.g qv (qe v5)) pz) (rY (pX v0 G.o.toCls G.bC (Gb G) r (rX (pC U1) v5))))))))))),?_⟩)
 rintro ds M Q ⟨p,A,V,l,c,z,rfl,hp,rd,XI,hx,q⟩
 have hx:x∈l.pn:=qw.mp hx;obtain⟨ph,gr,ws,Yl,pr,gd,rs,i1,_⟩:=rd.pl;have p8:=rd.ok.p8;dsimp only[xV,Hs]at q;refine pq hp ?_;refine qD (c:=!(c==x)) (λh1=>?_) (λh1=>?_)
 .rw[h1,hU]at q;exact⟨M,.refl,q⟩
 rw[show(!(c==x))=false from dH.mpr h1,fE]at q;refine pq hp ?_;refine qD (c:=z==x) (λh2=>?_) (λh2=>?_)
 .rw[h2]at q;exact⟨M,.refl,q⟩
 rw[cZ h2]at q;refine pq rd.bd.at_ (i' rfl (pq i1 ⟨rfl,_,⟨rfl,rfl⟩,V.p,l,rfl,rd.pl,by omega,λq1 XH=>i' pE ⟨rfl,ql _,?_⟩⟩));have t:=qr.new (c:=.lst (l.pn.map D.str)) XH;have W9:=rd.sub t;generalize pF M q1 (.lst (l.pn.map D.str))=M1 at t W9 ⊢;show if (!(inD (.str z) (l.pn.map D.str)))=true then _ else _
 rw[rZ];refine qD (c:=!(hasS l.pn z)) (λh3=>?_) (λh3=>?_)
 .rw[h3,hU]at q;exact⟨M,t,q⟩
 rw[show(!(hasS l.pn z))=false from dH.mpr h3,fE]at q;refine⟨A,V,l,c,z,rfl,W9,XI,?_⟩;refine qD (c:=!(sO l V c z)) (λh4=>?_) (λh4=>?_)
 .rw[h4]at q;exact⟨M,t,q⟩
 rw[cZ h4]at q;refine pq W9.bd.at_ ⟨rfl,_,⟨rfl,rfl⟩,A,V,z,rfl,W9.bd,W9.k,?_⟩;cases e:vP V z with
 | none=>rw[e]at q;rw[show Au V z=.mS from by unfold Au;rw[e];rfl];exact⟨M,t,q⟩
 | some j=>
  rw[show Au V z=.int (j:Nat)from by unfold Au;rw[e];rfl];have hj:j<V.calls.length:=(iI.mp e).1;have e2:V.calls[j]?=some V.calls[j]:=cX hj;rw[e]at q;generalize V.calls[j]=k at e2;have q:Q (.bl (((V.calls[j]?).elim false λk=>(k.ms.length==2)&&HP l x k.ms))) M:=q;rw[e2]at q;have hj:j<A.cs.length:=by rw[rd.bd.len];exact hj
  have ek:A.cs[j]?=some A.cs[j]:=cX hj;obtain⟨ad,md,f1,f2,f3,f4,_⟩:=W9.bd.cs j _ k ek e2;refine pq W9.bd.at_ (i' rfl (i' rfl (i' W9.bd.ca (i' (rj ek) (pq f1 (i' rfl ?_))))));refine i' f4 ?_;have el:((((k.ms.map D.str).length:Nat):Int)==2)=(k.ms.length==2):=by rw[cV,gp,fj,fj];omega
  show if ((((k.ms.map D.str).length:Nat):Int)==2)=true then _ else _
  rw[el];have q:Q (.bl ((k.ms.length==2)&&HP l x k.ms)) M:=q;refine qD (c:=k.ms.length==2) (λh5=>?_) (λh5=>?_)
  .rw[h5,eE]at q;have hm:=rd.ms k (qS e2);refine pq (t _ _ hp) ⟨rfl,_,⟨rfl,rfl⟩,pq W9.bd.at_ (i' rfl ⟨p,x,V.p,l,md,k.ms,rfl,t _ _ hp,W9.pl,f4,hm.2,hx,hm.1,M,t,q⟩)⟩
  .rw[show(k.ms.length==2)=false from dH.mpr h5,eR]at q;exact⟨M,t,q⟩
def LK:Fq P w K mg base 1 a.q Gm:=by
 refine fq G.q.toDG Bv (λr u=>⟨_,(pk (pD ul)),?_⟩)
 rintro ds M Q ⟨x,y,rfl,q⟩
 exact⟨M,.refl,q⟩
def Sx(G:Gl K mg a)(x y:Str)(n:Int):Fq P w K mg base 1 a.aH (Qt a (.silent x y n)):=by
 refine fq G.aH.toDG Ac (λr u=>⟨_,(pk (pD (sF (pZ u (rW (pC U1) (sS (zS pz)) sT) (qP (qe (pC v0)))) (rY (pZ u (pC v0) (pC U1)))))),?_⟩)
 rintro ds M Q ⟨p,L,k,c,rfl,hp,⟨ad,md,h1,h2,h3,h4,_⟩,q⟩
 refine pq h1 (i' rfl (i' h2 λp1 X9=>?_));have t1:=qr.new (c:=.lst (L3.uR (c.way.map D.str) (some (-1:Int)) none)) X9;have l1:oM (pF M p1 (.lst (L3.uR (c.way.map D.str) (some (-1:Int)) none))) p1=some ((c.way.map D.str).drop ((c.way.map D.str).length - 1)):=by rw[pE,LL]
 show AN (pF M p1 (.lst (L3.uR (c.way.map D.str) (some (-1:Int)) none)) p) _;generalize pF M p1 (.lst (L3.uR (c.way.map D.str) (some (-1:Int)) none))=M1 at t1 l1 ⊢;refine pq (t1 _ _ hp) ⟨pb rfl,λp2 WP=>?_⟩;have t2:=qr.new (c:=.lst [D.str x]) WP;have l2:=@pE M1 p2 [D.str x];show Option.elim (xx (pF M1 p2 (.lst [D.str x])) 9 (.ref p1) (.ref p2)) False _;generalize pF M1 p2 (.lst [D.str x])=M2 at t2 l2 ⊢;have s2:=t1.trans t2;refine i' (Og (t2.lst l1) l2) ?_;dsimp only[G1]at q;refine qD (c:=c.way.getLast?==some x) (λg=>?_) (λg=>?_)
 .rw[g,eE]at q;exact pq (s2 _ _ hp) (pq (s2 _ _ h1) ⟨M,s2,q⟩)
 .rw[show(c.way.getLast?==some x)=false from dH.mpr g,eR]at q;exact⟨M,s2,q⟩
def Af:∀C sp,yA a C sp->xM P w K mg base 6 "fits" C (NI K sp):=by
 rintro C sp ⟨v,rfl,rfl⟩
 cases v with
 | bar x ns=>exact⟨G.r.toCls,_,_,_,G.am.ny,MP G x ns,G.am.b⟩
 | shut x ns=>exact⟨G.t.toCls,_,_,_,G.ao.ny,Nb G x ns,G.ao.b⟩
 | always x y=>exact⟨G.w.toCls,_,_,_,G.ap.ny,Lk G x y,G.ap.b⟩
 | night x y f m=>exact⟨G.n.toCls,_,_,_,G.ar.ny,MC G x y f m,G.ar.b⟩
 | busy x y=>exact⟨G.x.toCls,_,_,_,G.au.ny,KU G x y,G.au.b⟩
 | silent x y n=>exact⟨G.u.toCls,_,_,_,G.aw.ny,Lb G x y n,G.aw.b⟩
 | wait x=>exact⟨G.v.toCls,_,_,_,G.ay.ny,Mz G x,G.ay.b⟩
 | breaks x=>exact⟨G.o.toCls,_,_,_,G.aA.ny,LX G x,G.aA.b⟩
def UG:∀C sp,GA a C sp->xM P w K mg base 1 "is_due" C (NI K sp):=by
 rintro C sp ⟨v,rfl,rfl⟩
 have F:=LK (P:=P) (w:=w) (base:=base) G;cases v with
 | silent x y n=>exact⟨G.u.toCls,_,_,_,G.aH.ny,Sx G x y n,G.aH.b⟩
 | bar _ _=>exact⟨G.r.toCls,_,_,_,G.ci,F,G.q.b⟩
 | shut _ _=>exact⟨G.t.toCls,_,_,_,G.cj,F,G.q.b⟩
 | always _ _=>exact⟨G.w.toCls,_,_,_,G.ck,F,G.q.b⟩
 | night _ _ _ _=>exact⟨G.n.toCls,_,_,_,G.cl,F,G.q.b⟩
 | busy _ _=>exact⟨G.x.toCls,_,_,_,G.cm,F,G.q.b⟩
 | wait _=>exact⟨G.v.toCls,_,_,_,G.cn,F,G.q.b⟩
 | breaks _=>exact⟨G.o.toCls,_,_,_,G.co,F,G.q.b⟩
def FG{es pre post:List D}{d:D}(e:pre++d::post=uF 0 es):∃x,es[pre.length]?=some x/\d=.tup [.int (pre.length:Nat),x]:=by
 have h:(uF 0 es)[pre.length]?=some d:=by rw[<-e];simp
 rw[yY]at h;cases q:es[pre.length]? with
 | none=>rw[q]at h;cases h
 | some x=>rw[q]at h;refine⟨x,rfl,?_⟩;have:=(dh h).symm;rw[mB]at this;exact this
def vw(n:Nat):∀es:List D,(uF n es).length=es.length:=λes=>by
 have h:∀i:Nat,(uF n es)[i]?=none↔es[i]?=none:=λi=>by rw[yY];cases es[i]?<;>simp
 have a:=(h es.length).mpr (hW (dv _));have b:=(h (uF n es).length).mp (hW (dv _));rw[List.getElem?_eq_none_iff]at a b;omega
def IU{l:pH}{V:qB}{f:Wi->Bool}{tt:Az}{ok:Mp->Prop}{Q:DK}{M:Mp}{rest:List (Option D)}(hl:V.on.length=l.mO.length)(h16:l.mO.length<=16)(mV:ok M) (ht:∀(i:Nat) (w:vB),l.mO[i]?=some w->∀(y:Option D) (k:Bool->Mp->Prop),k (f w.2) M->tt (some (.int (i:Nat))::y::rest) M k) (q:∀p,M p=none->Q (.ref p) (pF M p (.lst ((Hr l V f).map λn=>D.int (n:Nat))))):
  vd (QA 2 (BL (sP 0) (BL (sP 1) Jo))) (Pc (b3 (v3 1)) tt) (v3 0) ok Q (uF 0 (V.on.map D.bl)) [] (none::none::rest) M:=by
 have hz:=dN;refine vh (uF 0 (V.on.map D.bl)) (λpre acc δ M'=>M=M'/\acc=((List.range pre.length).filter λi=>V.on.getD i false&&(l.mO[i]?).elim false λw=>f w.2).map (λn=>D.int (n:Nat))/\∃y1 y2,δ=y1::y2::rest) (λ_ _ _ M' j=>by rw[<-j.1];exact mV) _ [] [] _ _ rfl ?_ ⟨rfl,rfl,none,none,rfl⟩ ?_ ?_
 .rw[vw,cV,hl];simp only[dJ];omega
 .rintro pre d post e acc δ M' ⟨rfl,rfl,y1,y2,rfl⟩ k k2 hk XU
  obtain⟨x,hx,rfl⟩:=FG e;rw[cY,dO,iT,iB]at hk XU;rw[dD]at hx;cases eo:V.on[pre.length]? with
  | none=>rw[eo]at hx;cases hx
  | some b=>
   rw[eo]at hx;have hx:D.bl b=x:=dh hx;subst hx;have hi:pre.length<l.mO.length:=by rw[<-hl];exact(c9.mp eo).1
   have ew:l.mO[pre.length]?=some l.mO[pre.length]:=cX hi;generalize l.mO[pre.length]=w0 at ew;have eg:V.on.getD pre.length false=b:=by rw[gh,eo];rfl
   have no:(b&&f w0.2)=false->k2 (some (.int (pre.length:Nat))::some (.bl b)::rest) M:=λg=>by refine XU _ _ ⟨rfl,?_,_,_,rfl⟩;rw[gQ (by rw[eg,ew];show ¬(b&&f w0.2)=true;rw[g];exact dB),iU,eZ]
   refine⟨rfl,?_⟩;show if b=true then _ else _
   cases b with
   | false=>exact CL (no rfl)
   | true=>
    refine GN (ht _ _ ew _ _ ?_);cases g:f w0.2 with
    | false=>exact CL (no (by rw[g];rfl))
    | true=>refine GN (hk _ _ _ ⟨rfl,?_,_,_,rfl⟩);rw[gP (by rw[eg,ew];show(true&&f w0.2)=true;rw[g];rfl),iU,dS];rfl
 .rintro acc δ M' ⟨rfl,rfl,y1,y2,rfl⟩ p hp
  rw[vw,cV];exact q p hp
def Bk{a:Ad}{M:Mp}{rs:QXQ}{ws:List vB}(h:sJ a M rs ws){i:Nat}{w:vB}(e:ws[i]?=some w):∃r,vC (rs.map D.ref) (i:Nat)=some (.ref r)/\M r=some (.ins (w.2.cls a) w.2.m8):=by
 have hi:i<rs.length:=by rw[h.1];exact(c9.mp e).1
 exact⟨rs[i],ur (by rw[dD,cX hi];rfl),h.2 i _ w (cX hi) e⟩
def HN(ds:List D)(m:Nat):L3.uR ds none (some (m:Int))=ds.take m:=by
 unfold L3.uR;rw[HT.Cy,HT.Jj,kg,kW];by_cases h:m<=ds.length
 .rw[mh h]
 .rw[Nat.min_eq_right (by omega),fg,iH (by omega)]
def Hv(ds:List D)(m:Nat)(h:m<=ds.length):L3.uR ds (some (m:Int)) none=ds.drop m:=by unfold L3.uR;rw[HT.Cy,HT.Jj,mh h];exact iH (by rw[gx];exact dv _)
def uy(l:pH)(V:qB):Prop:=∀z∈l.nm,(l.mU z=="turns")=true->∃v,V.ps.find? (λp=>decide (p.1=z))=some v/\0<=v.2/\v.2<=((l.mK z).length:Int)
def K3{l:pH}{V:qB}(h:uy l V){z:Str}(hz:z∈l.nm)(e:(l.mU z=="turns")=true):vE (tH V.ps) (.inr z)=some (.int (zD V z:Nat))/\zD V z<=(l.mK z).length:=by
 obtain⟨v,e1,e2,e3⟩:=h z hz e;have h1:zD V z=v.2.toNat:=by unfold zD;rw[e1];rfl
 have h2:vE (tH V.ps) (.inr z)=(V.ps.find? λp=>decide (p.1=z)).map λp=>D.int p.2:=yb (λp:Str×Int=>p.1) (λp=>D.int p.2) z V.ps;rw[h2,e1,h1];exact⟨by show some (D.int v.2)=some (.int (v.2.toNat:Nat));rw[Int.toNat_of_nonneg e2],by omega⟩
def Hf(a:Ad):rf:=λds M Q=>G7 λA V l c z=>ds=[.ref A.b,.str c,.str z]/\Rd a M A V l/\z∈l.nm/\Q (wq (DC l V c z)) M
def P'(a:Ad):rf:=λds M Q=>G7 λA V l c z=>ds=[.ref A.b,.str c,.str z]/\Rd a M A V l/\z∈l.nm/\uy l V/\Q (names (xE l V c z)) M
def LD(a:Ad):rf:=λds M Q=>G7 λA V l c z=>ds=[.ref A.b,.str c,.str z]/\Rd a M A V l/\z∈l.nm/\uy l V/\Q (HX l V c z).d M
def JQ:rf:=λds M Q=>CQ λx r z=>ds=[.tup (.str x::r),.str z]/\Q (if (x=="wait")=true then(wc.waits z).d else if (x=="break")=true then(wc.breaks z).d else wc.barred.d) M
noncomputable def rm(st:tL):List D:=st.map λs=>.tup [.str s.1,wq s.2]
def Lr(a:Ad):rf:=λds M Q=>SV λA V l c z r way=>ds=[.ref A.b,.str c,.str z,.ref r]/\Rd a M A V l/\z∈l.nm/\uy l V/\oM M r=some (List.map D.str way)/\way.length<=8000000/\∀q M',qr M M'->M q=none->oM M' q=some (rm (uZ l V c z way).2)->Q (.tup [(uZ l V c z way).1.d,.ref q]) M'
def Fd{l:pH}{V:qB}{f:Wi->Bool}{i:Nat}(h:i∈Hr l V f):∃w,l.mO[i]?=some w/\f w.2=true:=by
 have h:=(eO.mp h).2;rw[dU]at h;cases e:l.mO[i]? with
 | none=>rw[e]at h;cases h.2
 | some w=>rw[e]at h;exact⟨w,rfl,h.2⟩
noncomputable def IJ(l:pH)(way:QQQ):Nat:=(l.nm.filter λx=>!(hasS way x)).length
def Bi{l:pH}{way:QQQ}{z:Str}(hz:z∈l.nm)(h:hasS way z=false):IJ l (way++[z])<IJ l way:=by
 unfold IJ;have e:(l.nm.filter λx=>!(hasS (way++[z]) x))=(l.nm.filter λx=>!(hasS way x)).filter λx=>!(x==z):=by rw[List.filter_filter];refine List.filter_congr λx _=>?_;unfold hasS;rw[jX];show(!(way.any (·==x)||((z==x)||false)))=_;rw[jl,Bool.not_or,Bool.and_comm,mo]
 rw[e];refine Nat.lt_of_le_of_ne (gF _ _) λg=>?_;have:=kI.mp (List.Sublist.eq_of_length gf g) z (eO.mpr ⟨hz,by rw[h];rfl⟩);simp at this
def BB{l:pH}(ok:rL l){w:vB}(hw:w∈l.mO){z y:Str}(h:IE z w.2=.inr y):y∈l.nm:=by
 have o:=ok.wo w hw;cases e:w.2 with
 | bar _ _=>rw[e]at h;cases h
 | shut _ _=>rw[e]at h;cases h
 | always x u=>rw[e]at h o;cases h;exact qw.mp o.2.1
 | night x u f m=>rw[e]at h o;cases h;exact qw.mp o.2.1
 | busy x u=>rw[e]at h o;cases h;exact qw.mp o.2.1
 | silent x u n=>rw[e]at h o;cases h;exact qw.mp o.2.1
 | wait _=>rw[e]at h;cases h
 | breaks _=>rw[e]at h;cases h
theorem EW(x:Str):∀ss:QQQ,x∈ss->AQ (.str x) (ss.map D.str)=some (ss.findIdx (·==x))
 | [],h=>by cases h
 | y::r,h=>by
  rw[dX,List.findIdx_cons];unfold AQ;show(if (y==x)=true then some 0 else(AQ (.str x) (r.map D.str)).map (·+1))=_;cases e:y==x with
  | true=>rfl
  | false=>
   rw[cZ dB];have hr:x∈r:=by
    rcases dg.mp h with g|g
    .rw[g,fh]at e;cases e
    .exact g
   rw[EW x r hr];rfl
def HK:Fq P w K mg base 7 a.aT (Hf a):=by
 refine fq G.aT.toDG BA (λr u=>⟨_,(pj (pL 3 BA (pC (pC v0)))
 (pk (pD (pY sy rfl G.z sA (qe (qH rfl (xy (ix:=[none,none,some 3,some 0,some 1,some 2]) (N':=["i","on","wishes","board","caller","target"])) (vf rfl G.bP (qe (pC v0))) (uL (n:=2) rfl (qp (qG 0) (qp (qG 1) tN))) (uY (W3.b3 (wI (uI U1) (vI (uI (vL (R:=yA a) (pK U2 v0) (Af G) (r.mono (by first|decide|omega)) (rb U3 v4 v5))))))) v0)))))),?_⟩)
 rintro ds M Q ⟨A,V,l,c,z,rfl,rd,hz,q⟩
 obtain⟨ph,gr,ws,Yl,pr,gd,rs,i1,i2,i3,i4,i5,i6,i7,i8⟩:=rd.pl;refine pq rd.bd.at_ (i' rfl (pq i1 (i' rfl ?_)));refine pq rd.bd.at_ (i' rfl (i' rd.bd.on ?_));refine IU (rest:=[some (.ref ws),some (.ref A.b),some (.str c),some (.str z)]) rd.on rd.ok.w16 rd.bd.on (λi w0 ew y k hk=>?_) λp hp=>i' pE ⟨M,.new hp,q⟩;obtain⟨r,e1,e2⟩:=Bk i8 ew;refine i' i4 (i' e1 (pq e2 ⟨by cases w0.2<;>rfl,_,⟨w0.2,rfl,rfl⟩,r,A,V,l,c,z,rfl,e2,rd,hz,rd.ok.wo w0 (qS ew),hk⟩))
def P3:Fq P w K mg base 5 a.aU (P' a):=by
 refine fq G.aU.toDG tD (λr u=>⟨_,(pj (pL 3 tD (pX v0 G.c.toCls G.aB (Aq G) r (rX U1 U2)))
 (pj (pQ (pG u (pX (pC v0) G.h.toCls G.aM (xT G) r (qe U2)) pA)
 (pk (pD (pY sy rfl G.z sA (qe U3))))
 pJ)
 (pj (pL 4 tD (pX (pC v0) G.h.toCls G.X (uB G) r (qe U2)))
 (pj (pL 5 tD (zt u (pC v0) U2))
 (pj (vA (i:=6) tD.nd rfl (Or.inl rfl) rfl (xy (ix:=[none,some 3]) (N':=["phone","free"])) (qF (pU (rW v4 (sS v5) sT) (rW v4 sT (sS v5)))) (qG 0) (uY (pG u v0 U1)) v0)
 (pk (pD (pY sy rfl G.z sA (qe (rW v6 sT (sS pz))))))))))),?_⟩)
 rintro ds M Q ⟨A,V,l,c,z,rfl,rd,XI,nx,q⟩
 have hz:=dN;have bd:=rd.bd;have pl:=rd.pl;obtain⟨ph,gr,ws,Yl,pr,gd,rs,i1,_⟩:=rd.pl;obtain⟨⟨_,tf,_⟩,_⟩:=rd.ok.of XI;refine pq bd.at_ ⟨rfl,_,⟨rfl,rfl⟩,A,V,l,c,z,rfl,rd,XI,λq1 M1 s1 XH e1=>?_⟩;refine pq (s1 _ _ bd.at_) (i' rfl (pq (s1 _ _ i1) ⟨rfl,_,⟨rfl,rfl⟩,V.p,z,l,rfl,pl.sub s1,?_⟩));unfold xE at q;cases e:l.mU z=="turns" with
 | false=>rw[e]at q;exact AX (c:=!(l.mU z=="turns")) (by rw[e];rfl) (i' e1 ⟨M,s1,q⟩)
 | true=>
  obtain⟨hn,nl⟩:=K3 nx XI e;generalize zD V z=n at hn nl q;rw[e,df rfl]at q;refine Ll (c:=!(l.mU z=="turns")) (by rw[e];rfl) ?_;refine pq (s1 _ _ bd.at_) (i' rfl (pq (s1 _ _ i1) ⟨rfl,_,⟨rfl,rfl⟩,V.p,z,l,rfl,pl.sub s1,λq2 Y4=>?_⟩));have s2:=s1.trans (qr.new (c:=.lst ((l.mK z).map D.str)) Y4);have c2:=@pE M1 q2 ((l.mK z).map D.str);have e2:=(qr.new (c:=.lst ((l.mK z).map D.str)) Y4).lst e1;generalize pF M1 q2 (.lst ((l.mK z).map D.str))=M2 at s2 c2 e2 ⊢;refine pq (s2 _ _ bd.at_) (i' rfl (i' rfl (i' (s2.dk bd.nx) (i' hn ?_))));refine i' c2 λq3 hq3=>?_;rw[Hv _ n (by rw[cV];exact nl),<-kD];have t3:=qr.new (c:=.lst (((l.mK z).drop n).map D.str)) hq3;have c3':=@pE M2 q3 (((l.mK z).drop n).map D.str);generalize pF M2 q3 (.lst (((l.mK z).drop n).map D.str))=M3 at t3 c3' ⊢;refine i' (t3.lst c2) λq4 hq4=>?_;rw[HN,<-mv];have t4:=qr.new (c:=.lst (((l.mK z).take n).map D.str)) hq4;have c4:=@pE M3 q4 (((l.mK z).take n).map D.str);generalize pF M3 q4 (.lst (((l.mK z).take n).map D.str))=M4 at t4 c4 ⊢;refine i' (t4.lst c3') (i' c4 ?_);refine⟨by rw[cV,cV,gx,fz];omega,λq5 hq5=>i' pE ?_⟩;rw[<-dS];have t5:=qr.new (c:=.lst ((vb (l.mK z) n).map D.str)) hq5;have c5:=@pE M4 q5 ((vb (l.mK z) n).map D.str);show vd _ _ _ _ _ ((vb (l.mK z) n).map D.str) _ _ (pF M4 q5 (.lst ((vb (l.mK z) n).map D.str)));generalize pF M4 q5 (.lst ((vb (l.mK z) n).map D.str))=M5 at t5 c5 ⊢;have s5:=t3.trans (t4.trans t5);have e5:=s5.lst e2;have tl:(vb (l.mK z) n).length<=200:=by unfold vb;rw[cY,gx,fz];omega
  refine tP (f:=id) (t:=λd=>inD d ((sU l V c z).map D.str)) c5 _ [] _ (by rw[cV];simp only[dJ];omega) (λd hd k hk=>?_) (λd hd _ k hk=>?_) λq6 hq6=>?_
  .obtain⟨x,hx,rfl⟩:=dC.mp hd;exact i' e5 ⟨rfl,ql _,hk⟩
  .obtain⟨x,hx,rfl⟩:=dC.mp hd;exact hk
  .have ef:[]++(List.filter (λd=>inD d ((sU l V c z).map D.str)) ((vb (l.mK z) n).map D.str)).map id=((vb (l.mK z) n).filter λx=>hasS (sU l V c z) x).map D.str:=by
    rw[dZ,je,gX];have:((λd=>inD d ((sU l V c z).map D.str))∘D.str)=λx=>hasS (sU l V c z) x:=by funext x;exact rZ _ _
    rw[this]
   rw[ef];refine i' pE λq7 hq7=>i' pE ?_;rw[show L3.uR (((vb (l.mK z) n).filter λx=>hasS (sU l V c z) x).map D.str) none (some (1:Int))=(((vb (l.mK z) n).filter λx=>hasS (sU l V c z) x).take 1).map D.str from(HN _ 1).trans (mv).symm];exact⟨M,s2.trans (s5.trans ((qr.new hq6).trans (.new hq7))),q⟩
def LA:Fq P w K mg base 6 a.aV (LD a):=by
 refine fq G.aV.toDG vc (λr u=>⟨_,(pj (pL 3 vc (pI (P3 G) r G.aU (rb v0 U1 U2)))
 (pj (pQ (pG u (pS qx rfl G.g qv (qe U3)) pz)
 (pk (pD (pM (rX pA U2))))
 pJ)
 (pk (pD (pM (rb pA U2 U3)))))),?_⟩)
 rintro ds M Q ⟨A,V,l,c,z,rfl,rd,hz,nx,q⟩
 refine⟨A,V,l,c,z,rfl,rd,hz,nx,?_⟩;unfold HX at q;cases e:xE l V c z with
 | nil=>rw[e]at q;exact⟨pb rfl,M,.refl,q⟩
 | cons x r=>rw[e]at q;exact⟨pb rfl,M,.refl,q⟩
def Kr:Fq P w K mg base 1 a.aW JQ:=by
 refine fq G.aW.toDG zX (λr u=>⟨_,(pj (pQ (pG u (pK v0 pz) pA)
 (pk (pD (pM (rX pA U1))))
 pJ)
 (pj (pQ (pG u (pK v0 pz) pA)
 (pk (pD (pM (rX pA U1))))
 pJ)
 (pk (pD (pM (qe pA)))))),?_⟩)
 rintro ds M Q ⟨x,r,z,rfl,q⟩
 refine i' (xZ _ _) (qD (c:=x=="wait") (λg=>?_) (λg=>?_))
 .rw[df g]at q;exact⟨pb rfl,M,.refl,q⟩
 rw[cZ g]at q;refine i' (xZ _ _) (qD (c:=x=="break") (λg=>?_) (λg=>?_))
 .rw[df g]at q;exact⟨pb rfl,M,.refl,q⟩
 rw[cZ g]at q;exact⟨pb rfl,M,.refl,q⟩
def LH:Fq P w K mg base 8 a.aX (Lr a):=by
 refine fq G.aX.toDG wm (λr u=>⟨_,(pj (pL 4 wm (pY tq rfl G.y sZ (qe U3)))
 (pj (pL 5 wm (qP sX))
 (pj (L7 eQ (pG u U2 v4)
 (pj (pO (rR v4 (qe U2)))
 (pj (pL 6 wm (pI (HK G) r G.aT (rb v0 U1 U2)))
 (pj (pO (rR v5 (qe (pM (rX U2 v6)))))
 (pj (pQ (pG u (pS qx rfl G.g qv (qe v6)) pz)
 (pk (pD (pM (rX (pI (LA G) r G.aV (rb v0 U1 U2)) v5))))
 pJ)
 (pj (pL 7 wm (Cu (R:=IK a) (pK (pC (pC v0)) (pK v6 pz)) (OJ G) (r.mono (by first|decide|omega))))
 (pj (pQ (pG u (pK v7 pz) pA)
 (pk (pD (pM (rX (pI (Kr G) r G.aW (rX v7 U2)) v5))))
 pJ)
 (pk (pL 2 wm (pK v7 pz))))))))))
 (pk (pD (pM (rX (pM (rX pA (pY sy rfl G.z sA (qe (rW v4 (sS (xD v4 (qe U2))) sT))))) v5))))))),?_⟩)
 rintro ds M Q ⟨A,V,l,c,z0,r,X3,rfl,rd,hz0,nx,ZO,hw0,q⟩
 have hz:=dN;have p8:=rd.ok.p8;have g3:=rd.ok.g3;have nl:l.nm.length<=11:=by unfold pH.nm pH.pn pH.gn;rw[cY,cV,cV];omega
 refine i' ZO λp1 X9=>⟨pb rfl,λp2 WP=>?_⟩;have t1:=qr.new (c:=.lst (X3.map D.str)) X9;have t2:=qr.new (c:=.lst []) WP;have c1:oM (pF (pF M p1 (.lst (X3.map D.str))) p2 (.lst [])) p1=some (X3.map D.str):=t2.lst pE;have c2:=@pE (pF M p1 (.lst (X3.map D.str))) p2 [];have n12:p2≠p1:=λy=>by rw[y,pP]at WP;cases WP
 have m2:M p2=none:=t1.none WP;have s2:=t1.trans t2;generalize pF (pF M p1 (.lst (X3.map D.str))) p2 (.lst [])=M2 at c1 c2 s2 ⊢;refine⟨λm δ M'=>∃z way st,qr M M'/\oM M' p1=some (List.map D.str way)/\oM M' p2=some (rm st)/\z∈l.nm/\IJ l way<m/\way.length+m<=8000012/\st.length+m<=100/\xh l V c m z way st=uZ l V c z0 X3/\∃y6 y7,δ=[some (.ref A.b),some (.str c),some (.str z),some (.ref r),some (.ref p1),some (.ref p2),y6,y7],⟨l.nm.length+1,z0,X3,[],s2,c1,c2,hz0,Nat.lt_succ_of_le (gF _ _),by omega,by show 0+(l.nm.length+1)<=100;omega,rfl,none,none,rfl⟩,?_⟩
 rintro m δ M' ⟨z,way,st,sM,l1,l2,XI,WV,hwl,YX,er,y6,y7,rfl⟩
 obtain⟨m,rfl⟩:∃k,m=k+1:=⟨m - 1,by omega⟩;have q2:∀WL,qr M WL->oM WL p2=some (rm (xh l V c (m+1) z way st).2)->Q (.tup [(xh l V c (m+1) z way st).1.d,.ref p2]) WL:=λWL s ll=>by rw[er]at ll ⊢;exact q p2 WL s m2 ll
 clear q;unfold xh at er q2;refine i' l1 ⟨rfl,ql way,?_⟩;show if (!(inD (.str z) (way.map D.str)))=true then _ else _
 rw[rZ];refine qD (c:=!(hasS way z)) (λh1=>?_) (λh1=>?_)
 rotate_left
 .
  have h1:hasS way z=true:=by simpa using h1
  rw[df h1]at q2;refine⟨by show(oM M' p1).isSome=true;rw[l1];rfl,i' l1 ⟨rfl,ql _,i' (EW z way (qw.mp h1)) (i' l1 λp3 Y3=>?_)⟩⟩;have hle:way.findIdx (·==z)<=(way.map D.str).length:=by rw[cV];exact List.findIdx_le_length
  rw[Hv _ _ hle,<-kD];refine i' pE ⟨pb rfl,pb rfl,_,.refl,q2 _ (sM.trans (.new Y3)) ((qr.new Y3).lst l2)⟩
 have h1:hasS way z=false:=by simpa using h1
 rw[h1,cZ dB]at er q2;refine⟨by show(oM M' p1).isSome=true;rw[l1];rfl,i' l1 ⟨by rw[cV];omega,?_⟩⟩;have k3:sv p1 M' (pF M' p1 (.lst (way.map D.str++[D.str z]))):=.put;have s3:qr M (pF M' p1 (.lst (way.map D.str++[D.str z]))):=λx d hx=>by rw[uc (Qv hx X9)];exact sM x d hx
 have c3:=k3.lst n12 l2;have l3:oM (pF M' p1 (.lst (way.map D.str++[D.str z]))) p1=some ((way++[z]).map D.str):=by rw[pE,dS];rfl
 generalize pF M' p1 (.lst (way.map D.str++[D.str z]))=M3 at s3 c3 l3 ⊢;refine⟨A,V,l,c,z,rfl,rd.sub s3,XI,?_⟩;generalize hf:DC l V c z=fs at er q2 ⊢;refine⟨by show(oM M3 p2).isSome=true;rw[c3];rfl,pb rfl,i' c3 ⟨by unfold rm;rw[cV];omega,?_⟩⟩;have es:rm st++[.tup [.str z,wq fs]]=rm (st++[(z,fs)]):=by unfold rm;rw[dS];rfl
 rw[es];have s4:qr M (pF M3 p2 (.lst (rm (st++[(z,fs)])))):=λx d hx=>by rw[uc (Qv hx m2)];exact s3 x d hx
 have c4:=@pE M3 p2 (rm (st++[(z,fs)]));have l4:oM (pF M3 p2 (.lst (rm (st++[(z,fs)])))) p1=some ((way++[z]).map D.str):=sv.lst .put (dP n12) l3;generalize pF M3 p2 (.lst (rm (st++[(z,fs)])))=M4 at s4 c4 l4 ⊢;cases fs with
 | nil=>exact⟨A,V,l,c,z,rfl,rd.sub s4,XI,nx,pb rfl,M4,.refl,q2 M4 s4 c4⟩
 | cons i fr=>
  obtain⟨w0,ew,_⟩:=Fd (l:=l) (V:=V) (f:=xV l V c z) (i:=i) (by show i∈DC l V c z;rw[hf];exact dG);dsimp only at er q2;rw[ew]at er q2;dsimp only[Option.elim]at er q2;obtain⟨ph,gr,ws,Yl,pr,gd,rs,i1,i2,i3,i4,i5,i6,i7,i8⟩:=(rd.sub s4).pl;obtain⟨Zm,e1,e2⟩:=Bk i8 ew;have hwo:=rd.ok.wo w0 (qS ew);have Zn:∀y,IE z w0.2=.inr y->y∈l.nm:=λy h=>BB rd.ok (qS ew) h;refine pq (s4 _ _ rd.bd.at_) (i' rfl (pq i1 (i' rfl (i' (xZ _ _) (i' i4 (i' e1 ?_))))));cases hv:w0.2 with
  | bar x ns=>rw[hv]at q2 e2;exact pq e2 ⟨rfl,_,.inl ⟨.inl rfl,rfl⟩,Zm,rfl,⟨"end",[],z,rfl,pb rfl,M4,.refl,q2 M4 s4 c4⟩⟩
  | shut x ns=>rw[hv]at q2 e2;exact pq e2 ⟨rfl,_,.inl ⟨.inr rfl,rfl⟩,Zm,rfl,⟨"end",[],z,rfl,pb rfl,M4,.refl,q2 M4 s4 c4⟩⟩
  | wait x=>rw[hv]at q2 e2;exact pq e2 ⟨rfl,_,.inr (.inr (.inl ⟨rfl,rfl⟩)),Zm,_,_,_,rfl,e2,rfl,⟨"wait",_,z,rfl,pb rfl,M4,.refl,q2 M4 s4 c4⟩⟩
  | breaks x=>rw[hv]at q2 e2;exact pq e2 ⟨rfl,_,.inr (.inr (.inr ⟨rfl,rfl⟩)),Zm,rfl,⟨"break",_,z,rfl,pb rfl,M4,.refl,q2 M4 s4 c4⟩⟩
  | always x y=>rw[hv]at er e2 Zn;exact pq e2 ⟨rfl,_,.inr (.inl ⟨.inl rfl,rfl⟩),Zm,_,_,_,rfl,e2,rfl,⟨m,fJ _,y,way++[z],st++[(z,i::fr)],s4,l4,c4,Zn y rfl,by have:=Bi XI h1;omega,by rw[cY];show way.length+1+m<=_;omega,by rw[cY];show st.length+1+m<=_;omega,er,_,_,rfl⟩⟩
  | night x y f mm=>rw[hv]at er e2 Zn;exact pq e2 ⟨rfl,_,.inr (.inl ⟨.inr (.inl rfl),rfl⟩),Zm,_,_,_,rfl,e2,rfl,⟨m,fJ _,y,way++[z],st++[(z,i::fr)],s4,l4,c4,Zn y rfl,by have:=Bi XI h1;omega,by rw[cY];show way.length+1+m<=_;omega,by rw[cY];show st.length+1+m<=_;omega,er,_,_,rfl⟩⟩
  | busy x y=>rw[hv]at er e2 Zn;exact pq e2 ⟨rfl,_,.inr (.inl ⟨.inr (.inr (.inl rfl)),rfl⟩),Zm,_,_,_,rfl,e2,rfl,⟨m,fJ _,y,way++[z],st++[(z,i::fr)],s4,l4,c4,Zn y rfl,by have:=Bi XI h1;omega,by rw[cY];show way.length+1+m<=_;omega,by rw[cY];show st.length+1+m<=_;omega,er,_,_,rfl⟩⟩
  | silent x y n=>rw[hv]at er e2 Zn;exact pq e2 ⟨rfl,_,.inr (.inl ⟨.inr (.inr (.inr rfl)),rfl⟩),Zm,_,_,_,rfl,e2,rfl,⟨m,fJ _,y,way++[z],st++[(z,i::fr)],s4,l4,c4,Zn y rfl,by have:=Bi XI h1;omega,by rw[cY];show way.length+1+m<=_;omega,by rw[cY];show st.length+1+m<=_;omega,er,_,_,rfl⟩⟩
noncomputable def yz(V:qB)(i:Nat)(c:pB):qB:={V with calls:=V.calls.set i c}
def so(V:qB)(i:Nat)(c d:pB):yz (yz V i c) i d=yz V i d:=by unfold yz;rw[jJ]
structure CI(a:Ad)(M:Mp)(A:tV)(V:qB)(i:Nat)(k:rA)(c:pB):Prop where
 bd:pN a M A V
 e1:A.cs[i]?=some k
 e2:V.calls[i]?=some c
noncomputable def cF(x:Str)(wy ad md:Addr)(k:Nat):List (Str×D):=List.take (α:=Str×D) k [("state",.str "rings"),("caller",.str x),("way",.ref wy),("at",.ref ad),("members",.ref md),("holder",.mS),("since",.int 0)]
variable {M':Mp}{i:Nat}{k:rA}
section
variable {c:pB}
def CI.cell(h:CI a M A V i k c):rM a M (A.lists++V.fo) k c:=h.bd.cs i k c h.e1 h.e2
def CI.sub(h:CI a M A V i k c)(s:qr M M'):CI a M' A V i k c:=⟨h.bd.sub s,h.e1,h.e2⟩
def CI.put(h:CI a M A V i k c)(c':pB){ad md:Addr}(ew:c'.way=c.way)(la:oM M ad=some (c'.at_.map D.str))(lm:oM M md=some (c'.ms.map D.str))(na:ad∉A.lists++V.fo)(nm:md∉A.lists++V.fo):
  CI a (pF M k.p (.ins a.e (rg c' k.wy ad md))) A (yz V i c') i k c'/\qR A M A (pF M k.p (.ins a.e (rg c' k.wy ad md))):=by
 obtain⟨b,s⟩:=h.bd.oj h.e1 h.e2 ew la lm na nm;refine⟨⟨b,h.e1,?_⟩,s⟩;show(V.calls.set i c')[i]?=some c';rw[fH (c9.mp h.e2).1]
end
inductive QJ(i:Nat)(c:pB):Ev->pB->Prop
 | rings (ps:QQQ):QJ i c (.rings i ps) (c.ring ps)
 | quiet:QJ i c (.quiet i) c.nM
 | waits (x:Str):QJ i c (.waits i x) (c.wait x)
 | talks (ms:QQQ):QJ i c (.talks i ms) (c.nI ms)
 | held (x:Str):QJ i c (.held i x) (c.hold x)
 | leaves (x:Str):QJ i c (.leaves i x) (c.drop x)
 | over (w:Str):QJ i c (.over i w) (c.over w)
def Gn(a:Ad):rf:=λds M Q=>BO λp x=>ds=[.ref p,.str x]/\M p=some (.ins a.e [])/\∀M' wy ad md,sv p M M'->M wy=none->M ad=none->M md=none->ad≠wy->md≠wy->M' p=some (.ins a.e (rg (y0 x) wy ad md))->oM M' wy=some []->oM M' ad=some []->oM M' md=some []->Q .mS M'
def Ox(a:Ad):rf:=λds M Q=>Ky λA V i k c w=>ds=[.ref k.p,.str w]/\CI a M A V i k c/\∀M',qR A M A M'->pN a M' A (yz V i (c.over w))->Q .mS M'
def Nn(a:Ad):rf:=λds M Q=>Ky λA V i k c x=>ds=[.ref k.p,.str x]/\CI a M A V i k c/\c.at_.length<=100/\c.ms.length<=100/\∀M',qR A M A M'->pN a M' A (yz V i (c.drop x))->Q .mS M'
def Ke(a:Ad):rf:=λds M Q=>SV λA V i k c e c'=>ds=[.ref k.p,Ev.d e]/\CI a M A V i k c/\c.at_.length<=100/\c.ms.length<=100/\QJ i c e c'/\∀M',qR A M A M'->pN a M' A (yz V i c')->Q .mS M'
def OS:Fq P w K mg base 1 a.aD (Gn a):=by
 refine fq G.aD.toDG El (λr u=>⟨_,(pj (qc v0 pA)
 (pj (qc v0 U1)
 (pj (qc v0 (qP sX))
 (pj (qc v0 (qP sX))
 (pj (qc v0 (qP sX))
 (pj (qc v0 sD)
 (pj (qc v0 pz)
 (pk (qc v0 sD))))))))),?_⟩)
 rintro ds M Q ⟨p,x,rfl,hb,q⟩
 refine pq hb ⟨(G.j "state" rfl),by show 0<1000;decide,?_⟩;have k1:sv p M (pF M p (.ins a.e [("state",.str "rings")])):=.put;have b1:pF M p (.ins a.e [("state",.str "rings")]) p=some (.ins a.e [("state",.str "rings")]):=pP;show uD _ _ _ _ (pF M p (.ins a.e [("state",.str "rings")]));generalize pF M p (.ins a.e [("state",.str "rings")])=N1 at k1 b1 ⊢;refine pq b1 ⟨(G.j "caller" rfl),by show 1<1000;decide,?_⟩;have k2:=k1.trans (sv.put (p:=p) (c:=.ins a.e [("state",.str "rings"),("caller",.str x)]));have b2:pF N1 p (.ins a.e [("state",.str "rings"),("caller",.str x)]) p=some (.ins a.e [("state",.str "rings"),("caller",.str x)]):=pP;show uD _ _ _ _ (pF N1 p (.ins a.e [("state",.str "rings"),("caller",.str x)]));generalize pF N1 p (.ins a.e [("state",.str "rings"),("caller",.str x)])=N2 at k2 b2 ⊢;refine⟨pb rfl,λwy hwy=>?_⟩;obtain⟨n3,e3,k3,c3,b3⟩:=sY (fs':=(cF x wy 0 0 3)) (c:=.lst []) b2 hwy;refine pq e3 ⟨(G.j "way" rfl),by show 2<1000;decide,?_⟩;show uD _ _ _ _ (pF (pF N2 wy (.lst [])) p (.ins a.e (cF x wy 0 0 3)));generalize pF (pF N2 wy (.lst [])) p (.ins a.e (cF x wy 0 0 3))=N3 at k3 c3 b3 ⊢;have z1:M wy=none:=rE k2 b2 hwy;have kk3:=k2.trans k3;have l3:oM N3 wy=some []:=sQ c3;refine⟨pb rfl,λad Y1=>?_⟩;obtain⟨n4,e4,k4,c4,b4⟩:=sY (fs':=(cF x wy ad 0 4)) (c:=.lst []) b3 Y1;refine pq e4 ⟨(G.j "at" rfl),by show 3<1000;decide,?_⟩;show uD _ _ _ _ (pF (pF N3 ad (.lst [])) p (.ins a.e (cF x wy ad 0 4)));generalize pF (pF N3 ad (.lst [])) p (.ins a.e (cF x wy ad 0 4))=N4 at k4 c4 b4 ⊢;have z2:M ad=none:=rE kk3 b3 Y1;have YL:=kk3.trans k4;have naw:ad≠wy:=λz=>by rw[z,c3]at Y1;cases Y1
 have l4:=k4.lst (pT l3 b3) l3;have m4:oM N4 ad=some []:=sQ c4;refine⟨pb rfl,λmd hmd=>?_⟩;obtain⟨n5,e5,k5,c5,b5⟩:=sY (fs':=(cF x wy ad md 5)) (c:=.lst []) b4 hmd;refine pq e5 ⟨(G.j "members" rfl),by show 4<1000;decide,?_⟩;show uD _ _ _ _ (pF (pF N4 md (.lst [])) p (.ins a.e (cF x wy ad md 5)));generalize pF (pF N4 md (.lst [])) p (.ins a.e (cF x wy ad md 5))=N5 at k5 c5 b5 ⊢;have z3:M md=none:=rE YL b4 hmd;have YM:=YL.trans k5;have nmw:md≠wy:=λz=>by rw[z,qo l4]at hmd;cases hmd
 have l5:=k5.lst (pT l4 b4) l4;have m5:=k5.lst (pT m4 b4) m4;have o5:oM N5 md=some []:=sQ c5;refine pq b5 ⟨(G.j "holder" rfl),by show 5<1000;decide,?_⟩;have k6:sv p N5 (pF N5 p (.ins a.e (cF x wy ad md 6))):=.put;have b6:pF N5 p (.ins a.e (cF x wy ad md 6)) p=some (.ins a.e (cF x wy ad md 6)):=pP;show uD _ _ _ _ (pF N5 p (.ins a.e (cF x wy ad md 6)));generalize pF N5 p (.ins a.e (cF x wy ad md 6))=N6 at k6 b6 ⊢;refine pq b6 ⟨(G.j "since" rfl),by show 6<1000;decide,?_⟩;have k7:=k6.trans (sv.put (p:=p) (c:=.ins a.e (cF x wy ad md 7)));have b7:pF N6 p (.ins a.e (cF x wy ad md 7)) p=some (.ins a.e (cF x wy ad md 7)):=pP;rw[show vU "since" (.int 0) (cF x wy ad md 6)=(cF x wy ad md 7)from rfl];generalize pF N6 p (.ins a.e (cF x wy ad md 7))=N7 at k7 b7 ⊢;refine pq b7 ⟨(G.j "word" rfl),by show 7<1000;decide,_,.refl,?_⟩;have k8:=k7.trans (sv.put (p:=p) (c:=.ins a.e (rg (y0 x) wy ad md)));exact q _ wy ad md (YM.trans k8) z1 z2 z3 naw nmw pP (k8.lst (pT l5 b5) l5) (k8.lst (pT m5 b5) m5) (k8.lst (pT o5 b5) o5)
def Io:Fq P w K mg base 1 a.aa (Ox a):=by
 refine fq G.aa.toDG FP (λr u=>⟨_,(pj (qc v0 pA)
 (pj (qc v0 U1)
 (pj (qc v0 (qP sX))
 (pj (qc v0 (qP sX))
 (pk (qc v0 sD)))))),?_⟩)
 rintro ds M Q ⟨A,V,i,k,c,w0,rfl,h,q⟩
 obtain⟨ad,md,h1,h2,h3,h4,n1,n2⟩:=h.cell;refine pq h1 ⟨(G.j "state" rfl),by show 8<1000;decide,?_⟩;obtain⟨g1,s1⟩:=h.put {c with st:="over"} rfl h3 h4 n1 n2;show uD _ _ _ _ (pF M k.p (.ins a.e (rg {c with st:="over"} k.wy ad md)));generalize pF M k.p (.ins a.e (rg {c with st:="over"} k.wy ad md))=M1 at g1 s1 ⊢;clear h1 h2 h3 h4 n1 n2;obtain⟨ad,md,h1,h2,h3,h4,n1,n2⟩:=g1.cell;refine pq h1 ⟨(G.j "word" rfl),by show 8<1000;decide,?_⟩;obtain⟨g2,s2⟩:=g1.put {c with st:="over",wd:=some w0} rfl h3 h4 n1 n2;show uD _ _ _ _ (pF M1 k.p (.ins a.e (rg {c with st:="over",wd:=some w0} k.wy ad md)));generalize pF M1 k.p (.ins a.e (rg {c with st:="over",wd:=some w0} k.wy ad md))=M2 at g2 s2 ⊢;clear h1 h2 h3 h4 n1 n2;refine⟨pb rfl,λp hp=>?_⟩;have t3:=qr.new (c:=.lst []) hp;have lp:=@pE M2 p [];have np:=g2.bd.nA hp;have Y6:=g2.sub t3;have s2':=s2.trans (.sub t3);generalize pF M2 p (.lst [])=M2' at t3 lp Y6 s2' ⊢;obtain⟨ad,md,h1,h2,h3,h4,n1,n2⟩:=Y6.cell;refine pq h1 ⟨(G.j "at" rfl),by show 8<1000;decide,?_⟩;obtain⟨g3,s3⟩:=Y6.put {c with st:="over",wd:=some w0,at_:=[]} rfl lp h4 np n2;show uD _ _ _ _ (pF M2' k.p (.ins a.e (rg {c with st:="over",wd:=some w0,at_:=[]} k.wy p md)));generalize pF M2' k.p (.ins a.e (rg {c with st:="over",wd:=some w0,at_:=[]} k.wy p md))=M3 at g3 s3 ⊢;clear h1 h2 h3 h4 n1 n2 lp t3 np g2 Y6;refine⟨pb rfl,λp2 WP=>?_⟩;have t4:=qr.new (c:=.lst []) WP;have lp:=@pE M3 p2 [];have np:=g3.bd.nA WP;have Zo:=g3.sub t4;have s3':=s3.trans (.sub t4);generalize pF M3 p2 (.lst [])=M3' at t4 lp Zo s3' ⊢;obtain⟨ad,md,h1,h2,h3,h4,n1,n2⟩:=Zo.cell;refine pq h1 ⟨(G.j "members" rfl),by show 8<1000;decide,?_⟩;obtain⟨g4,s4⟩:=Zo.put {c with st:="over",wd:=some w0,at_:=[],ms:=[]} rfl h3 lp n1 np;rw[show vU "members" (.ref p2) (rg {c with st:="over",wd:=some w0,at_:=[]} k.wy ad md)=rg {c with st:="over",wd:=some w0,at_:=[],ms:=[]} k.wy ad p2 from rfl];generalize pF M3' k.p (.ins a.e (rg {c with st:="over",wd:=some w0,at_:=[],ms:=[]} k.wy ad p2))=M4 at g4 s4 ⊢;clear h1 h2 h3 h4 n1 n2 lp t4 np g3 Zo;obtain⟨ad,md,h1,h2,h3,h4,n1,n2⟩:=g4.cell;refine pq h1 ⟨(G.j "holder" rfl),by show 8<1000;decide,_,.refl,?_⟩;obtain⟨g5,s5⟩:=g4.put (c.over w0) rfl h3 h4 n1 n2;refine q _ ((s1.trans s2').trans (s3'.trans (s4.trans s5))) ?_;have:=g5.bd;rw[so,so,so,so]at this;exact this
def LR:Fq P w K mg base 1 a.aQ (Nn a):=by
 refine fq G.aQ.toDG Dd (λr u=>⟨_,(pj (qc v0 (qH rfl (xy (ix:=[none,some 1]) (N':=["other","phone"])) (qF (pC v0)) (qG 0) (uY (pG u v0 U1)) v0))
 (pk (qc v0 (qH rfl (xy (ix:=[none,some 1]) (N':=["other","phone"])) (qF (pC v0)) (qG 0) (uY (pG u v0 U1)) v0)))),?_⟩)
 rintro ds M Q ⟨A,V,i,k,c,x,rfl,h,la,lm,q⟩
 have hz:=dN;obtain⟨ad,md,h1,h2,h3,h4,n1,n2⟩:=h.cell;refine pq h1 (i' rfl (i' h3 (tP (f:=id) (t:=O0 x) h3 _ [] _ (by rw[cV];simp only[dJ];omega) (λd hd k0 hk=>?_) (λd hd _ k0 hk=>?_) λp hp=>?_)))
 .obtain⟨y,hy,rfl⟩:=dC.mp hd;exact hk
 .obtain⟨y,hy,rfl⟩:=dC.mp hd;exact hk
 rw[BS];have t1:=qr.new (c:=.lst ((rK c.at_ x).map D.str)) hp;have lp:=@pE M p ((rK c.at_ x).map D.str);have np:=h.bd.nA hp;have h':=h.sub t1;have s1:qR A M A (pF M p (.lst ((rK c.at_ x).map D.str))):=.sub t1;generalize pF M p (.lst ((rK c.at_ x).map D.str))=M1 at t1 lp h' s1 ⊢;clear h1 h2 h3 h4 n1 n2;obtain⟨ad,md,h1,h2,h3,h4,n1,n2⟩:=h'.cell;refine pq h1 ⟨(G.j "at" rfl),by show 8<1000;decide,?_⟩;obtain⟨g2,s2⟩:=h'.put {c with at_:=rK c.at_ x} rfl lp h4 np n2;rw[show vU "at" (.ref p) (rg c k.wy ad md)=rg {c with at_:=rK c.at_ x} k.wy p md from rfl];generalize pF M1 k.p (.ins a.e (rg {c with at_:=rK c.at_ x} k.wy p md))=M2 at g2 s2 ⊢;clear h1 h2 h3 h4 n1 n2 lp np;obtain⟨ad,md,h1,h2,h3,h4,n1,n2⟩:=g2.cell;refine pq h1 (i' rfl (i' h4 (tP (f:=id) (t:=O0 x) h4 _ [] _ (by rw[cV];simp only[dJ];show 0+c.ms.length<=sizeLine;omega) (λd hd k0 hk=>?_) (λd hd _ k0 hk=>?_) λp2 WP=>?_)))
 .obtain⟨y,hy,rfl⟩:=dC.mp hd;exact hk
 .obtain⟨y,hy,rfl⟩:=dC.mp hd;exact hk
 rw[BS];have t3:=qr.new (c:=.lst ((rK c.ms x).map D.str)) WP;have lp:=@pE M2 p2 ((rK c.ms x).map D.str);have np:=g2.bd.nA WP;have Y6:=g2.sub t3;have s3:qR A M2 A (pF M2 p2 (.lst ((rK c.ms x).map D.str))):=.sub t3;generalize pF M2 p2 (.lst ((rK c.ms x).map D.str))=M3 at t3 lp Y6 s3 ⊢;clear h1 h2 h3 h4 n1 n2;obtain⟨ad,md,h1,h2,h3,h4,n1,n2⟩:=Y6.cell;refine pq h1 ⟨(G.j "members" rfl),by show 8<1000;decide,_,.refl,?_⟩;obtain⟨g4,s4⟩:=Y6.put (c.drop x) rfl h3 lp n1 np;refine q _ ((s1.trans s2).trans (s3.trans s4)) ?_;have:=g4.bd;rw[so]at this;exact this
def KA:Fq P w K mg base 2 a.aR (Ke a):=by
 refine fq G.aR.toDG xB (λr u=>⟨_,(pj (pL 2 xB (pK U1 pz))
 (pk (pQ (pG u U2 pA)
 (pj (qc v0 pA)
 (pj (qc v0 (pY tq rfl G.y sZ (qe (pK U1 pz))))
 (pk (qc v0 pz))))
 (pk (pQ (pG u U2 pA)
 (pk (qc v0 (qP sX)))
 (pk (pQ (pG u U2 pA)
 (pj (qc v0 pA)
 (pk (qc v0 (qP (qe (pK U1 pz))))))
 (pk (pQ (pG u U2 pA)
 (pj (qc v0 pA)
 (pj (qc v0 (pY tq rfl G.y sZ (qe (pK U1 pz))))
 (pj (qc v0 (qP sX))
 (pk (qc v0 sD)))))
 (pk (pQ (pG u U2 pA)
 (pj (qc v0 pA)
 (pk (qc v0 (pK U1 pz))))
 (pk (pQ (pG u U2 pA)
 (pk (pO (pI (LR G) r G.aQ (rX v0 (pK U1 pz)))))
 (pk (pQ (pG u U2 pA)
 (pk (pO (pI (Io G) r G.aa (rX v0 (pK U1 pz)))))
 pJ))))))))))))))),?_⟩)
 rintro ds M Q ⟨A,V,i,k,c,e,c',rfl,h,la,lm,hc,q⟩
 cases hc with
 | over w0=>exact⟨A,V,i,k,c,w0,rfl,h,λM' s b=>⟨M',.refl,q M' s b⟩⟩
 | leaves x=>exact⟨A,V,i,k,c,x,rfl,h,la,lm,λM' s b=>⟨M',.refl,q M' s b⟩⟩
 | quiet=>refine⟨pb rfl,λp hp=>?_⟩;have t3:=qr.new (c:=.lst []) hp;have lp:=@pE M p [];have np:=h.bd.nA hp;have g1:=h.sub t3;generalize pF M p (.lst [])=M1 at t3 lp g1 ⊢;obtain⟨ad,md,h1,h2,h3,h4,n1,n2⟩:=g1.cell;refine pq h1 ⟨(G.j "at" rfl),by show 8<1000;decide,_,.refl,?_⟩;obtain⟨g5,s5⟩:=g1.put c.nM rfl lp h4 np n2;exact q _ ((qR.sub t3).trans s5) g5.bd
 | waits x=>obtain⟨ad,md,h1,h2,h3,h4,n1,n2⟩:=h.cell;refine pq h1 ⟨(G.j "state" rfl),by show 8<1000;decide,?_⟩;obtain⟨g1,s1⟩:=h.put {c with st:="waits"} rfl h3 h4 n1 n2;show uD _ _ _ _ (pF M k.p (.ins a.e (rg {c with st:="waits"} k.wy ad md)));generalize pF M k.p (.ins a.e (rg {c with st:="waits"} k.wy ad md))=M1 at g1 s1 ⊢;clear h1 h2 h3 h4 n1 n2;refine⟨pb rfl,λp hp=>?_⟩;have t3:=qr.new (c:=.lst [D.str x]) hp;have lp:=@pE M1 p [D.str x];have np:=g1.bd.nA hp;have YD:=g1.sub t3;generalize pF M1 p (.lst [D.str x])=M1' at t3 lp YD ⊢;obtain⟨ad,md,h1,h2,h3,h4,n1,n2⟩:=YD.cell;refine pq h1 ⟨(G.j "at" rfl),by show 8<1000;decide,_,.refl,?_⟩;obtain⟨g5,s5⟩:=YD.put (c.wait x) rfl lp h4 np n2;refine q _ (s1.trans ((qR.sub t3).trans s5)) ?_;have:=g5.bd;rw[so]at this;exact this
 | held x=>obtain⟨ad,md,h1,h2,h3,h4,n1,n2⟩:=h.cell;refine pq h1 ⟨(G.j "state" rfl),by show 8<1000;decide,?_⟩;obtain⟨g1,s1⟩:=h.put {c with st:="held"} rfl h3 h4 n1 n2;show uD _ _ _ _ (pF M k.p (.ins a.e (rg {c with st:="held"} k.wy ad md)));generalize pF M k.p (.ins a.e (rg {c with st:="held"} k.wy ad md))=M1 at g1 s1 ⊢;clear h1 h2 h3 h4 n1 n2;obtain⟨ad,md,h1,h2,h3,h4,n1,n2⟩:=g1.cell;refine pq h1 ⟨(G.j "holder" rfl),by show 8<1000;decide,_,.refl,?_⟩;obtain⟨g5,s5⟩:=g1.put (c.hold x) rfl h3 h4 n1 n2;refine q _ (s1.trans s5) ?_;have:=g5.bd;rw[so]at this;exact this
 | rings ps=>obtain⟨ad,md,h1,h2,h3,h4,n1,n2⟩:=h.cell;refine pq h1 ⟨(G.j "state" rfl),by show 8<1000;decide,?_⟩;obtain⟨g1,s1⟩:=h.put {c with st:="rings"} rfl h3 h4 n1 n2;show uD _ _ _ _ (pF M k.p (.ins a.e (rg {c with st:="rings"} k.wy ad md)));generalize pF M k.p (.ins a.e (rg {c with st:="rings"} k.wy ad md))=M1 at g1 s1 ⊢;clear h1 h2 h3 h4 n1 n2;refine λp hp=>?_;have t3:=qr.new (c:=.lst (ps.map D.str)) hp;have lp:=@pE M1 p (ps.map D.str);have np:=g1.bd.nA hp;have YD:=g1.sub t3;have s1':=s1.trans (.sub t3);generalize pF M1 p (.lst (ps.map D.str))=M1' at t3 lp YD s1' ⊢;obtain⟨ad,md,h1,h2,h3,h4,n1,n2⟩:=YD.cell;refine pq h1 ⟨(G.j "at" rfl),by show 8<1000;decide,?_⟩;obtain⟨g3,s3⟩:=YD.put {c with st:="rings",at_:=ps} rfl lp h4 np n2;rw[show vU "at" (.ref p) (rg {c with st:="rings"} k.wy ad md)=rg {c with st:="rings",at_:=ps} k.wy p md from rfl];generalize pF M1' k.p (.ins a.e (rg {c with st:="rings",at_:=ps} k.wy p md))=M3 at g3 s3 ⊢;clear h1 h2 h3 h4 n1 n2 lp t3 np;obtain⟨ad,md,h1,h2,h3,h4,n1,n2⟩:=g3.cell;refine pq h1 ⟨(G.j "since" rfl),by show 8<1000;decide,_,.refl,?_⟩;obtain⟨g5,s5⟩:=g3.put (c.ring ps) rfl h3 h4 n1 n2;refine q _ (s1'.trans (s3.trans s5)) ?_;have:=g5.bd;rw[so,so]at this;exact this
 | talks ms=>obtain⟨ad,md,h1,h2,h3,h4,n1,n2⟩:=h.cell;refine pq h1 ⟨(G.j "state" rfl),by show 8<1000;decide,?_⟩;obtain⟨g1,s1⟩:=h.put {c with st:="talks"} rfl h3 h4 n1 n2;show uD _ _ _ _ (pF M k.p (.ins a.e (rg {c with st:="talks"} k.wy ad md)));generalize pF M k.p (.ins a.e (rg {c with st:="talks"} k.wy ad md))=M1 at g1 s1 ⊢;clear h1 h2 h3 h4 n1 n2;refine λp hp=>?_;have t3:=qr.new (c:=.lst (ms.map D.str)) hp;have lp:=@pE M1 p (ms.map D.str);have np:=g1.bd.nA hp;have YD:=g1.sub t3;have s1':=s1.trans (.sub t3);generalize pF M1 p (.lst (ms.map D.str))=M1' at t3 lp YD s1' ⊢;obtain⟨ad,md,h1,h2,h3,h4,n1,n2⟩:=YD.cell;refine pq h1 ⟨(G.j "members" rfl),by show 8<1000;decide,?_⟩;obtain⟨g3,s3⟩:=YD.put {c with st:="talks",ms:=ms} rfl h3 lp n1 np;show uD _ _ _ _ (pF M1' k.p (.ins a.e (rg {c with st:="talks",ms:=ms} k.wy ad p)));generalize pF M1' k.p (.ins a.e (rg {c with st:="talks",ms:=ms} k.wy ad p))=M3 at g3 s3 ⊢;clear h1 h2 h3 h4 n1 n2 lp t3 np;refine⟨pb rfl,λp2 WP=>?_⟩;have t4:=qr.new (c:=.lst []) WP;have lp:=@pE M3 p2 [];have np:=g3.bd.nA WP;have Zo:=g3.sub t4;have s3':=s3.trans (.sub t4);generalize pF M3 p2 (.lst [])=M3' at t4 lp Zo s3' ⊢;obtain⟨ad,md,h1,h2,h3,h4,n1,n2⟩:=Zo.cell;refine pq h1 ⟨(G.j "at" rfl),by show 8<1000;decide,?_⟩;obtain⟨g4,s4⟩:=Zo.put {c with st:="talks",ms:=ms,at_:=[]} rfl lp h4 np n2;rw[show vU "at" (.ref p2) (rg {c with st:="talks",ms:=ms} k.wy ad md)=rg {c with st:="talks",ms:=ms,at_:=[]} k.wy p2 md from rfl];generalize pF M3' k.p (.ins a.e (rg {c with st:="talks",ms:=ms,at_:=[]} k.wy p2 md))=M4 at g4 s4 ⊢;clear h1 h2 h3 h4 n1 n2 lp t4 np;obtain⟨ad,md,h1,h2,h3,h4,n1,n2⟩:=g4.cell;refine pq h1 ⟨(G.j "holder" rfl),by show 8<1000;decide,_,.refl,?_⟩;obtain⟨g5,s5⟩:=g4.put (c.nI ms) rfl h3 h4 n1 n2;refine q _ (s1'.trans (s3'.trans (s4.trans s5))) ?_;have:=g5.bd;rw[so,so,so]at this;exact this
theorem tO{α:Type}{f:α->α}:∀{l:List α} {i:Nat} {c:α},l[i]?=some c->l.modify i f=l.set i (f c)
 | [],_,_,h=>by simp at h
 | _::_,0,_,h=>by cases h;rfl
 | x::r,i+1,c,h=>by rw[List.modify_succ_cons,lb,tO (l:=r) (by simpa using h)]
def Hw(ps:List (Str×Int))(z:Str)(n:Int):CC (tH ps) (.inr z) (.int n)=tH (Cj ps z n):=by
 have ea:((tH ps).any λkv=>decide (kv.1=(Sum.inr z:qW)))=ps.any λp=>decide (p.1=z):=by unfold tH;rw[jM];congr 1;funext p;have:((Sum.inr p.1:qW)=Sum.inr z)=(p.1=z):=propext ⟨λh=>jZ h,λh=>by rw[h]⟩;simp only[Function.comp,this]
 unfold CC Cj;rw[ea];by_cases h:(ps.any λp=>decide (p.1=z))=true
 .rw[df h,df h];unfold tH;rw[eh,eh];refine gw λp _=>?_;by_cases hp:p.1=z
  .simp[hp]
  .have:¬(Sum.inr p.1:qW)=Sum.inr z:=λy=>hp (jZ y);simp[hp]
 .rw[cZ h,cZ h];unfold tH;rw[dS];rfl
def Gd{α:Type}{l:List α}{i:Nat}{x:α}(h:l[i]?=some x):l.set i x=l:=by obtain⟨hi,e⟩:=c9.mp h;rw[<-e,List.set_getElem_self]
structure We(V:qB):Prop where
 lo:V.log.length<10000000
 le:V.mY.length<10000000
 ca:V.calls.length<=1000000
 ps:V.ps.length<10000000
 cs:∀c∈V.calls,c.way.length<10000000/\c.at_.length<=100/\c.ms.length<=100
def AL(a:Ad):rf:=λds M Q=>G7 λA V k c v=>ds=[.ref A.b,se.d v]/\CI a M A V v.i k c/\V.mY.length<10000000/\c.way.length<10000000/\∀M',qR A M A M'->pN a M' A {yz V v.i (c.go v.g)with mY:=V.mY++[v]}->Q .mS M'
def Di(a:Ad):rf:=λds M Q=>Ql λA V i j ki ci cj ms=>ds=[.ref A.b,.int (i:Nat),.int (j:Nat),names ms]/\CI a M A V i ki ci/\V.calls[j]?=some cj/\i≠j/\V.mY.length<10000000/\∀M' A',A'.b=A.b->qR A M A' M'->pN a M' A' {yz (yz V i (ci.over "merged")) j (cj.mem ms)with mY:=V.mY.map (se.to i j)}->Q .mS M'
def zb(a:Ad):rf:=λds M Q=>BO λA V=>ds=[.ref A.b]/\pN a M A V/\∀M',qR A M A M'->pN a M' A {V with t:=V.t+1,calls:=V.calls.map pB.tick}->Q .mS M'
def vV(a:Ad):rf:=λds M Q=>Ba λb A V e=>ds=[.ref b,Ev.d e]/\A.b=b/\pN a M A V/\We V/\e.ok V/\∀M' A',A'.b=A.b->qR A M A' M'->pN a M' A' (qg V e)->Q .mS M'
noncomputable def Re(m k:Nat):D->D
 | .tup (.int i::r)=>if i=(m:Int)then .tup (.int (k:Nat)::r)else .tup (.int i::r)
 | d=>d
def Rw(m k:Nat)(v:se):Re m k v.d=(v.to m k).d:=by
 show(if ((v.i:Nat):Int)=(m:Int)then _ else _)=_;unfold se.to;by_cases h:v.i=m
 .rw[df h,df (by rw[h])];rfl
 .rw[cZ h,cZ (by omega)];rfl
def Hb:Fq P w K mg base 1 a.bE (AL a):=by
 refine fq G.bE.toDG zO (λr u=>⟨_,(pj (pO (rR (pC v0) (qe U1)))
 (pk (pO (rR (pC (pK (pC v0) (pK U1 pz))) (qe (pK U1 pz)))))),?_⟩)
 rintro ds M Q ⟨A,V,k,c,v,rfl,ci,l1,l2,q⟩
 have hz:=dN;have bd:=ci.bd;refine pq bd.at_ (i' rfl ⟨by show(oM M A.le).isSome=true;rw[bd.le];rfl,i' bd.le ⟨by rw[cV];omega,?_⟩⟩);obtain⟨b1,s1⟩:=bd.oB (es:=V.mY++[v]);rw[dS]at b1 s1;have b1:pN a (pF M A.le (.lst (V.mY.map se.d++[v.d]))) A {V with mY:=V.mY++[v]}:=b1;have s1:qR A M A (pF M A.le (.lst (V.mY.map se.d++[v.d]))):=s1;generalize pF M A.le (.lst (V.mY.map se.d++[v.d]))=M1 at b1 s1 ⊢;obtain⟨ad,md,h1,h2,h3,h4,n1,n2⟩:=b1.cs v.i k c ci.e1 ci.e2;refine pq b1.at_ (i' rfl (i' b1.ca (i' (rj ci.e1) (pq h1 (i' rfl ⟨by show(oM M1 k.wy).isSome=true;rw[h2];rfl,i' h2 ⟨by rw[cV];omega,?_⟩⟩)))));obtain⟨b2,s2⟩:=b1.oA (ws:=c.way++[v.g]) ci.e1 ci.e2;rw[dS]at b2 s2;exact⟨_,.refl,q _ (s1.trans s2) b2⟩
def Lv:Fq P w K mg base 2 a.bF (Di a):=by
 refine fq G.bF.toDG xG (λr u=>⟨_,(pj (pO (pI (Io G) r G.aa (rX (pK (pC v0) U1) pA)))
 (pj (qc v0 (qH rfl (xy (ix:=[none,some 1,some 2]) (N':=["leg","merged","kept"])) (qF (pC v0)) (qG 0) rS (Qy (pG u (pK v0 pz) U1) (pU (pM (qe U2)) (rW v0 (sS pz) sT)) v0)))
 (pj (pL 4 xG (pK (pC v0) U2))
 (pk (qc v4 (pY tq rfl G.y sZ (qe U3))))))),?_⟩)
 rintro ds M Q ⟨A,V,i,j,ki,ci,cj,ms,rfl,hi,hj,XD,l1,q⟩
 have hz:=dN;refine pq hi.bd.at_ (i' rfl (i' rfl (i' hi.bd.ca (i' (rj hi.e1) ⟨A,V,i,ki,ci,"merged",rfl,hi,λM1 s1 b1=>?_⟩))));have hj1:(yz V i (ci.over "merged")).calls[j]?=some cj:=by show(V.calls.set i _)[j]?=_;rw[fG XD];exact hj
 have le1:oM M1 A.le=some (V.mY.map se.d):=b1.le;refine pq b1.at_ (i' rfl (i' le1 (qZ (f:=Re i j) le1 _ [] _ (by rw[cV];simp only[dJ];omega) (λd hd k hk=>?_) λp hp=>?_)))
 .obtain⟨v,_,rfl⟩:=dC.mp hd;refine i' rfl ?_;have hk:k (if ((v.i:Nat):Int)=(i:Int)then .tup [.int (j:Nat),.str v.f,.str v.g,.str v.y]else .tup [.int (v.i:Nat),.str v.f,.str v.g,.str v.y]) M1:=hk;refine qD (c:=((v.i:Nat):Int)==(i:Nat)) (λz=>?_) (λz=>?_)
  .rw[df (eq_of_beq z)]at hk;exact⟨pb rfl,fB _ _,by show 1+3<=sizeLine;omega,hk⟩
  .rw[cZ (λy=>z (by rw[y];exact fh _))]at hk;exact hk
 have em:[]++(V.mY.map se.d).map (Re i j)=(V.mY.map (se.to i j)).map se.d:=by rw[dZ,eh,eh];exact gw λv _=>Rw i j v
 rw[em];obtain⟨b2,s2⟩:=b1.oq (es:=V.mY.map (se.to i j)) hp;have t:=qr.new (c:=.lst ((V.mY.map (se.to i j)).map se.d)) hp;refine pq (t _ _ b1.at_) ⟨(G.E "legs" rfl),by show 8<1000;decide,?_⟩;show uD _ _ _ _ (pF (pF M1 p (.lst ((V.mY.map (se.to i j)).map se.d))) A.b (.ins a.c (tT (.ref V.p) V.h V.t A.ca p A.nx A.on A.lo)));have b2:pN a (pF (pF M1 p (.lst ((V.mY.map (se.to i j)).map se.d))) A.b (.ins a.c (tT (.ref V.p) V.h V.t A.ca p A.nx A.on A.lo))) {A with le:=p} {yz V i (ci.over "merged")with mY:=V.mY.map (se.to i j)}:=b2;have s2:qR A M1 {A with le:=p} (pF (pF M1 p (.lst ((V.mY.map (se.to i j)).map se.d))) A.b (.ins a.c (tT (.ref V.p) V.h V.t A.ca p A.nx A.on A.lo))):=s2;generalize pF (pF M1 p (.lst ((V.mY.map (se.to i j)).map se.d))) A.b (.ins a.c (tT (.ref V.p) V.h V.t A.ca p A.nx A.on A.lo))=M2 at b2 s2 ⊢;have hjk:j<A.cs.length:=by rw[hi.bd.len];exact(c9.mp hj).1
 have ej:A.cs[j]?=some A.cs[j]:=cX hjk;generalize A.cs[j]=kj at ej;have cj2:CI a M2 {A with le:=p} _ j kj cj:=⟨b2,ej,hj1⟩;refine pq b2.at_ (i' rfl (i' rfl (i' b2.ca (i' (rj ej) ?_))));refine λr ZO=>?_;have t3:=qr.new (c:=.lst (ms.map D.str)) ZO;have lr:=@pE M2 r (ms.map D.str);have nr:=b2.nA ZO;have cj3:=cj2.sub t3;generalize pF M2 r (.lst (ms.map D.str))=M3 at t3 lr cj3 ⊢;obtain⟨ad,md,h1,h2,h3,h4,n1,n2⟩:=cj3.cell;refine pq h1 ⟨(G.j "members" rfl),by show 8<1000;decide,_,.refl,?_⟩;obtain⟨g5,s5⟩:=cj3.put (cj.mem ms) rfl h3 lr n1 nr;exact q _ {A with le:=p} rfl (s1.trans (s2.trans ((qR.sub t3).trans s5))) g5.bd
def Ee:Fq P w K mg base 1 a.bG (zb a):=by
 refine fq G.bG.toDG vt (λr u=>⟨_,(pj (DI v0 pz)
 (pk (uk eQ rfl (qF (pC v0)) (rh 1 vt)
 (pk (pQ (pG u (pC U1) pA)
 (pk (DI U1 pz))
 pJ))))),?_⟩)
 rintro ds M Q ⟨A,V,rfl,bd,q⟩
 refine pq bd.at_ ⟨(G.E "turn" rfl),i' rfl (i' rfl (pq bd.at_ ⟨rfl,by show 8<1000;decide,?_⟩))⟩;obtain⟨b1,s1⟩:=bd.putT (t:=V.t+1);rw[show vU "turn" (.int (V.t+1)) (tT (.ref V.p) V.h V.t A.ca A.le A.nx A.on A.lo)=tT (.ref V.p) V.h (V.t+1) A.ca A.le A.nx A.on A.lo from rfl];generalize pF M A.b (.ins a.c (tT (.ref V.p) V.h (V.t+1) A.ca A.le A.nx A.on A.lo))=M1 at b1 s1 ⊢;refine pq b1.at_ (i' rfl (i' b1.ca ?_));refine uU (A.cs.map λk=>D.ref k.p) (λpre δ M'=>pN a M' A {V with t:=V.t+1,calls:=(V.calls.take pre.length).map pB.tick++V.calls.drop pre.length}/\qR A M A M'/\∃y,δ=[some (.ref A.b),y]) (λ_ _ M' j=>j.1.ca) _ [] _ _ rfl ⟨b1,s1,none,rfl⟩ ?_ ?_
 .rintro pre d post e δ M' ⟨b2,s2,y,rfl⟩ nx WS
  have hd:(A.cs.map λk=>D.ref k.p)[pre.length]?=some d:=by rw[<-e];simp
  rw[dD]at hd;cases ek:A.cs[pre.length]? with
  | none=>rw[ek]at hd;cases hd
  | some k=>
   rw[ek]at hd;have hd:D.ref k.p=d:=dh hd;subst hd;have hi:pre.length<V.calls.length:=by rw[<-bd.len];exact(c9.mp ek).1
   have ec:V.calls[pre.length]?=some V.calls[pre.length]:=cX hi;have ed:V.calls.drop pre.length=V.calls[pre.length]::V.calls.drop (pre.length+1):=ik hi;have et:V.calls.take (pre.length+1)=V.calls.take pre.length++[V.calls[pre.length]]:=by rw[gH,ec];rfl
   generalize V.calls[pre.length]=c at ec ed et;have hl:((V.calls.take pre.length).map pB.tick).length=pre.length:=by rw[cV,fz];omega
   have ec2:((V.calls.take pre.length).map pB.tick++V.calls.drop pre.length)[pre.length]?=some c:=by rw[eV (by rw[hl];exact dv _),hl,h9,ed];rfl
   rw[cY,dO,et]at WS;have en:((V.calls.take pre.length).map pB.tick++V.calls.drop pre.length).set pre.length c.tick=(V.calls.take pre.length++[c]).map pB.tick++V.calls.drop (pre.length+1):=by rw[kl _ _ (by rw[hl];exact dv _),hl,h9,ed,dS,ft];rfl
   have ci:CI a M' A _ pre.length k c:=⟨b2,ek,ec2⟩;obtain⟨ad,md,h1,h2,h3,h4,n1,n2⟩:=ci.cell;refine pq h1 (i' rfl ?_);have ht:c.tick=if (c.st=="rings")=true then{c with si:=c.si+1}else c:=rfl;refine qD (c:=c.st=="rings") (λg=>?_) (λg=>?_)
   .rw[df g]at ht;refine pq h1 ⟨(G.j "since" rfl),i' rfl (i' rfl (pq h1 ⟨rfl,by show 8<1000;decide,?_⟩))⟩;obtain⟨g5,s5⟩:=ci.put c.tick (by rw[ht]) (by rw[ht];exact h3) (by rw[ht];exact h4) n1 n2;have b5:=g5.bd;unfold yz at b5;rw[en]at b5;rw[ht]at b5 s5;exact WS _ _ ⟨b5,s2.trans s5,_,rfl⟩
   .rw[cZ g]at ht;rw[ht,Gd ec2]at en;rw[en]at b2;exact WS _ _ ⟨b2,s2,_,rfl⟩
 .rintro δ M' ⟨b2,s2,y,rfl⟩
  rw[cV,bd.len,fg,jI,eZ]at b2;exact⟨M',.refl,q M' s2 b2⟩
def ra:Fq P w K mg base 3 a.k (vV a):=by
 refine fq G.k.toDG xI (λr u=>⟨_,(pj (pO (rR (pC v0) (qe U1)))
 (pj (pL 2 xI (pK U1 pz))
 (pk (pQ (pG u U2 pA)
 (pk (pO (rR (pC v0) (qe (vk (OS G) r G.e G.ch G.aD.toDG (qe (pK U1 pz)))))))
 (pk (pQ (pG u U2 pA)
 (pk (pO (pX v0 G.c.toCls G.bE (Hb G) r (qe (rW U1 (sS pz) sT)))))
 (pk (pQ (pG u U2 pA)
 (pk (OY u (pC v0) (pK U1 pz) (pK U1 pz)))
 (pk (pQ (pG u U2 pA)
 (pk (pO (pX v0 G.c.toCls G.bF (Lv G) r (rb (pK U1 pz) (pK U1 pz) (pK U1 pz)))))
 (pk (pQ (pG u U2 pA)
 (pk (pO (ya v0 G.c.toCls G.bG (Ee G) r)))
 (pk (pQ (pG u U2 (pM (rX pA pA)))
 (pk (Rq (pZ u U2 pA) (QO (pC v0) (pK U1 pz))))
 (pk (pQ (pG u U2 pA)
 (pk (pO (pI (KA G) r G.aR (rX (pK (pC v0) (pK U1 pz)) U1))))
 pJ)))))))))))))))),?_⟩)
 rintro ds M Q ⟨_,A,V,e,rfl,rfl,bd,lim,ev,q⟩
 have hz:=dN;have ll:=lim.lo;have lc:=lim.ca;have lp:=lim.ps;refine pq bd.at_ (i' rfl ⟨by show(oM M A.lo).isSome=true;rw[bd.lo];rfl,i' bd.lo ⟨by rw[cV];omega,?_⟩⟩);have hb:=bd.ou (es:=V.log++[e]);rw[dS]at hb;obtain⟨b1,s1⟩:pN a (pF M A.lo (.lst (V.log.map Ev.d++[e.d]))) A (qN V e)/\qR A M A (pF M A.lo (.lst (V.log.map Ev.d++[e.d]))):=hb;show uD _ _ _ _ (pF M A.lo (.lst (V.log.map Ev.d++[e.d])));generalize pF M A.lo (.lst (V.log.map Ev.d++[e.d]))=M1 at b1 s1 ⊢;have YN:∀i,i<V.calls.length->∃k c,A.cs[i]?=some k/\V.calls[i]?=some c/\c∈V.calls:=λi hi=>by
  have XA:i<A.cs.length:=by rw[bd.len];exact hi
  exact⟨_,_,cX XA,cX hi,ib hi⟩
 have ZP:∀(i:Nat) (k:rA) (c:pB) (c':pB) (f:pB->pB),A.cs[i]?=some k->V.calls[i]?=some c->f c=c'->qg V e=xJ (qN V e) i f->∀(M2:Mp),qR A M1 A M2->pN a M2 A (yz (qN V e) i c')->∃WL,qr WL M2/\Q .mS WL:=λi k c c' f e1 e2 e3 e4 M2 s2 b2=>⟨M2,.refl,q M2 A rfl (s1.trans s2) (by
  rw[e4];unfold xJ;rw[show(qN V e).calls=V.calls from rfl,tO e2,e3];exact b2)⟩
 cases e with
 | new n x=>refine pq b1.at_ (i' rfl ⟨by show(oM M1 A.ca).isSome=true;rw[b1.ca];rfl,λp hp=>⟨p,x,rfl,pP,λM2 wy ad md kp z1 z2 z3 n1 n2 h1 h2 h3 h4=>⟨rfl,?_⟩⟩⟩);have sp:=qr.new (c:=.ins a.e []) hp;have s2:qr M1 M2:=λy d hy=>kp y d (Qv hy hp) (sp y d hy);refine i' (s2.lst b1.ca) ⟨by rw[cV,b1.len];show V.calls.length<sizeLine;omega,?_⟩;obtain⟨b3,s3⟩:=b1.om s2 (c:=y0 x) hp (sp.none z1) (sp.none z2) (sp.none z3) h1 h2 h3 h4 n1 n2;exact⟨_,.refl,q _ (A.add ⟨p,wy⟩) rfl (s1.trans s3) b3⟩
 | leg v=>obtain⟨k,c,ek,ec,hc⟩:=YN v.i ev;refine pq b1.at_ ⟨rfl,_,⟨rfl,rfl⟩,A,qN V (.leg v),k,c,v,rfl,⟨b1,ek,ec⟩,lim.le,(lim.cs c hc).1,λM2 s2 b2=>⟨M2,.refl,q M2 A rfl (s1.trans s2) ?_⟩⟩;show pN a M2 A {qN V (.leg v)with mY:=V.mY++[v],calls:=V.calls.modify v.i (·.go v.g)};rw[tO ec];exact b2
 | next z n=>refine pq b1.at_ (i' rfl (i' b1.nx ⟨by show(tH V.ps).length<sizeLine;unfold tH;rw[cV];omega,?_⟩));rw[Hw];obtain⟨b2,s2⟩:=b1.oX (ps:=Cj V.ps z n);exact⟨_,.refl,q _ A rfl (s1.trans s2) b2⟩
 | merge i j ms=>obtain⟨hi,hj,hij,_⟩:=ev;obtain⟨ki,ci,eki,eci,hci⟩:=YN i hi;obtain⟨kj,cj,ekj,ecj,hcj⟩:=YN j hj;refine pq b1.at_ ⟨rfl,_,⟨rfl,rfl⟩,A,qN V (.merge i j ms),i,j,ki,ci,cj,ms,rfl,⟨b1,eki,eci⟩,ecj,hij,lim.le,λM2 A2 eb s2 b2=>⟨M2,.refl,q M2 A2 eb (s1.trans s2) ?_⟩⟩;show pN a M2 A2 {qN V (.merge i j ms)with calls:=(V.calls.modify i (·.over "merged")).modify j (·.mem ms),mY:=V.mY.map (se.to i j)};rw[tO eci,tO (show(V.calls.set i _)[j]?=some cj by rw[fG hij];exact ecj)];exact b2
 | asks i z ns=>exact⟨pb rfl,rfl,rfl,M1,.refl,q M1 A rfl s1 b1⟩
 | turn=>exact pq b1.at_ ⟨rfl,_,⟨rfl,rfl⟩,A,qN V .turn,rfl,b1,λM2 s2 b2=>⟨M2,.refl,q M2 A rfl (s1.trans s2) b2⟩⟩
 | sw b i=>
  have hi:i<V.on.length:=ev;obtain⟨b2,s2⟩:=b1.oV (bs:=V.on.set i b);have es:(V.on.map D.bl).set i (.bl b)=(V.on.set i b).map D.bl:=(mD).symm;have ix:GH (V.on.map D.bl).length (i:Nat)=some i:=by rw[cV];unfold GH;simp[hi]
  have WM:∃WL,qr WL (pF M1 A.on (.lst ((V.on.map D.bl).set i (.bl b))))/\Q .mS WL:=by rw[es];exact⟨_,.refl,q _ A rfl (s1.trans s2) b2⟩
  cases b with
  | true=>exact⟨pb rfl,rfl,rfl,pq b1.at_ (i' rfl (i' b1.on (i' ix WM)))⟩
  | false=>exact⟨pb rfl,rfl,rfl,pq b1.at_ (i' rfl (i' b1.on (i' ix WM)))⟩
 | rings i ps=>obtain⟨k,c,ek,ec,hc⟩:=YN i ev.1;exact⟨pb rfl,rfl,rfl,pq b1.at_ (i' rfl (i' b1.ca (i' (rj ek) ⟨A,qN V _,i,k,c,_,_,rfl,⟨b1,ek,ec⟩,(lim.cs c hc).2.1,(lim.cs c hc).2.2,.rings ps,ZP i k c _ _ ek ec rfl rfl⟩)))⟩
 | quiet i=>obtain⟨k,c,ek,ec,hc⟩:=YN i ev;exact⟨pb rfl,rfl,rfl,pq b1.at_ (i' rfl (i' b1.ca (i' (rj ek) ⟨A,qN V _,i,k,c,_,_,rfl,⟨b1,ek,ec⟩,(lim.cs c hc).2.1,(lim.cs c hc).2.2,.quiet,ZP i k c _ _ ek ec rfl rfl⟩)))⟩
 | waits i x=>obtain⟨k,c,ek,ec,hc⟩:=YN i ev;exact⟨pb rfl,rfl,rfl,pq b1.at_ (i' rfl (i' b1.ca (i' (rj ek) ⟨A,qN V _,i,k,c,_,_,rfl,⟨b1,ek,ec⟩,(lim.cs c hc).2.1,(lim.cs c hc).2.2,.waits x,ZP i k c _ _ ek ec rfl rfl⟩)))⟩
 | talks i ms=>obtain⟨k,c,ek,ec,hc⟩:=YN i ev.1;exact⟨pb rfl,rfl,rfl,pq b1.at_ (i' rfl (i' b1.ca (i' (rj ek) ⟨A,qN V _,i,k,c,_,_,rfl,⟨b1,ek,ec⟩,(lim.cs c hc).2.1,(lim.cs c hc).2.2,.talks ms,ZP i k c _ _ ek ec rfl rfl⟩)))⟩
 | held i x=>obtain⟨k,c,ek,ec,hc⟩:=YN i ev;exact⟨pb rfl,rfl,rfl,pq b1.at_ (i' rfl (i' b1.ca (i' (rj ek) ⟨A,qN V _,i,k,c,_,_,rfl,⟨b1,ek,ec⟩,(lim.cs c hc).2.1,(lim.cs c hc).2.2,.held x,ZP i k c _ _ ek ec rfl rfl⟩)))⟩
 | leaves i x=>obtain⟨k,c,ek,ec,hc⟩:=YN i ev;exact⟨pb rfl,rfl,rfl,pq b1.at_ (i' rfl (i' b1.ca (i' (rj ek) ⟨A,qN V _,i,k,c,_,_,rfl,⟨b1,ek,ec⟩,(lim.cs c hc).2.1,(lim.cs c hc).2.2,.leaves x,ZP i k c _ _ ek ec rfl rfl⟩)))⟩
 | over i w0=>obtain⟨k,c,ek,ec,hc⟩:=YN i ev;exact⟨pb rfl,rfl,rfl,pq b1.at_ (i' rfl (i' b1.ca (i' (rj ek) ⟨A,qN V _,i,k,c,_,_,rfl,⟨b1,ek,ec⟩,(lim.cs c hc).2.1,(lim.cs c hc).2.2,.over w0,ZP i k c _ _ ek ec rfl rfl⟩)))⟩
noncomputable def Lj:QQQ:=["barred","ring","engaged","left","refused","done","merged"]
def Mb(o:Bool)(c:pB):Prop:=(c.st="rings"/\c.ms=[]/\c.hd=none/\c.wd=none/\(o=true->c.at_=[])/\(o=false->c.at_≠[]))\/(o=false/\((c.st="waits"/\c.ms=[]/\c.hd=none/\c.wd=none/\c.at_.length=1)\/(c.st="talks"/\(c.ms.length=2\/c.ms.length=3)/\c.hd=none/\c.wd=none/\c.at_=[])\/
 (∃x,c.st="held"/\c.ms.length=2/\c.hd=some x/\x∈c.ms/\c.wd=none/\c.at_=[])\/(c.st="over"/\c.ms=[]/\c.hd=none/\c.at_=[]/\∃w∈Lj,c.wd=some w)))
structure vS(l:pH)(o:Bool)(c:pB):Prop where
 sh:Mb o c
 cr:c.cr∈l.pn
 at_:∀x∈c.at_,x∈l.pn
 ms:∀x∈c.ms,x∈l.pn
 an:c.at_.Nodup
 mn:c.ms.Nodup
 ca:c.cr∉c.at_
 wy:c.way≠[]/\∀z∈c.way,z∈l.nm
def Be(c:pB)(x:Str):Prop:=c.nq x=true\/c.mW x=true
structure zK(l:pH)(V:qB)(o:Option Nat):Prop where
 ok:∀(i:Nat) c,V.calls[i]?=some c->vS l (o==some i) c
 un:∀(i j:Nat) ci cj x,V.calls[i]?=some ci->V.calls[j]?=some cj->Be ci x->Be cj x->i=j
 ln:∀x∈l.pn,(uq V x:Int)<=wJ l x
 wt:∀(i j:Nat) ci cj x,V.calls[i]?=some ci->V.calls[j]?=some cj->ci.mR x=true->cj.mR x=true->i=j
 nx:uy l V
abbrev WF(l:pH)(V:qB):Prop:=zK l V none
structure Sz(V:qB)(c n:Nat):Prop where
 lo:V.log.length<=n
 le:V.mY.length<=n
 ca:V.calls.length<=c
 ps:V.ps.length<=n
 cs:∀k∈V.calls,k.way.length<=n/\k.at_.length<=100/\k.ms.length<=100
def Sz.mono{V:qB}{c n c' n':Nat}(h:Sz V c n)(hc:c<=c')(hn:n<=n'):Sz V c' n':=⟨d6 h.lo hn,d6 h.le hn,d6 h.ca hc,d6 h.ps hn,λk hk=>⟨d6 (h.cs k hk).1 hn,(h.cs k hk).2⟩⟩
noncomputable def Ev.nw:Ev->Nat
 | .new _ _=>1
 | _=>0
def MJ(ps:List (Str×Int))(z:Str)(n:Int):(Cj ps z n).length<=ps.length+1:=by
 unfold Cj;split
 .rw[cV];omega
 .rw[cY];exact dv _
def Jp(ss:QQQ)(x:Str):(rK ss x).length<=ss.length:=gF _ _
def Ey{α:Type}{f:α->α}{l:List α}{i:Nat}{x:α}(h:x∈l.modify i f):x∈l\/∃y∈l,x=f y:=by
 cases e:l[i]? with
 | none=>rw[kK (by simpa using e)]at h;exact .inl h
 | some c=>
  rw[tO e]at h;rcases List.mem_or_eq_of_mem_set h with g|g
  .exact .inl g
  .exact .inr ⟨c,fu e,g⟩
def Sz.step{V:qB}{c n:Nat}{e:Ev}(h:Sz V c n)(ok:e.ok V):Sz (qg V e) (c+e.nw) (n+1):=by
 have h1:Sz (qN V e) c (n+1):=⟨by show(V.log++[e]).length<=n+1;rw[cY];exact ic h.lo,jr h.le,h.ca,jr h.ps,λk hk=>⟨jr (h.cs k hk).1,(h.cs k hk).2⟩⟩;have md:∀(i:Nat) (f:pB->pB),(∀k∈V.calls,(f k).way=k.way/\(f k).at_.length<=100/\(f k).ms.length<=100)->Sz (xJ (qN V e) i f) c (n+1):=λi f hf=>⟨h1.lo,h1.le,by show(V.calls.modify i f).length<=c;rw[gk];exact h.ca,h1.ps,λk hk=>by
  rcases Ey hk with g|⟨y,hy,rfl⟩
  .exact h1.cs k g
  .obtain⟨a1,a2,a3⟩:=hf y hy;exact⟨by rw[a1];exact(h1.cs y hy).1,a2,a3⟩⟩
 cases e with
 | new m x=>
  refine⟨h1.lo,h1.le,by show(V.calls++[y0 x]).length<=c+1;rw[cY];exact ic h.ca,h1.ps,λk hk=>?_⟩;rcases dY.mp hk with g|g
  .exact h1.cs k g
  .rw[dz.mp g];exact⟨eL _,eL _,eL _⟩
 | leg v=>
  refine⟨h1.lo,by show(V.mY++[v]).length<=n+1;rw[cY];exact ic h.le,by show(V.calls.modify v.i _).length<=c;rw[gk];exact h.ca,h1.ps,λk hk=>?_⟩;rcases Ey (l:=V.calls) hk with g|⟨y,hy,rfl⟩
  .exact h1.cs k g
  .exact⟨by show(y.way++[v.g]).length<=n+1;rw[cY];exact ic (h.cs y hy).1,(h.cs y hy).2⟩
 | asks i z ns=>exact h1
 | next z m=>exact⟨h1.lo,h1.le,h1.ca,d6 (MJ _ _ _) (ic h.ps),h1.cs⟩
 | merge i j ms=>
  have m1:=md i (·.over "merged") λk hk=>⟨rfl,eL _,eL _⟩;refine⟨h1.lo,by show(V.mY.map _).length<=n+1;rw[cV];exact h1.le,by show((V.calls.modify i _).modify j _).length<=c;rw[gk,gk];exact h.ca,h1.ps,λk hk=>?_⟩;rcases Ey (l:=V.calls.modify i (·.over "merged")) hk with g|⟨y,hy,rfl⟩
  .exact m1.cs k g
  .exact⟨(m1.cs y hy).1,(m1.cs y hy).2.1,ok.2.2.2⟩
 | turn=>
  refine⟨h1.lo,h1.le,by show(V.calls.map pB.tick).length<=c;rw[cV];exact h.ca,h1.ps,λk hk=>?_⟩;obtain⟨y,hy,rfl⟩:=dC.mp hk;have e:y.tick.way=y.way/\y.tick.at_=y.at_/\y.tick.ms=y.ms:=by unfold pB.tick;split<;>exact⟨rfl,rfl,rfl⟩
  rw[e.1,e.2.1,e.2.2];exact h1.cs y hy
 | sw b i=>exact⟨h1.lo,h1.le,h1.ca,h1.ps,h1.cs⟩
 | rings i ps=>exact md i _ λk hk=>⟨rfl,ok.2,(h.cs k hk).2.2⟩
 | quiet i=>exact md i _ λk hk=>⟨rfl,eL _,(h.cs k hk).2.2⟩
 | waits i x=>exact md i _ λk hk=>⟨rfl,by show 1<=100;decide,(h.cs k hk).2.2⟩
 | talks i ms=>exact md i _ λk hk=>⟨rfl,eL _,ok.2⟩
 | held i x=>exact md i _ λk hk=>⟨rfl,(h.cs k hk).2.1,(h.cs k hk).2.2⟩
 | leaves i x=>exact md i _ λk hk=>⟨rfl,d6 (Jp _ _) (h.cs k hk).2.1,d6 (Jp _ _) (h.cs k hk).2.2⟩
 | over i w=>exact md i _ λk hk=>⟨rfl,eL _,eL _⟩
def RE(V:qB)(e:Ev):(qg V e).p=V.p/\(qg V e).h=V.h/\(qg V e).on.length=V.on.length:=by cases e<;>first|exact⟨rfl,rfl,rfl⟩|exact⟨rfl,rfl,ij⟩
structure uG(a:Ad)(M0 M:Mp)(b:Addr)(A:tV)(V:qB)(l:pH)(c n:Nat):Prop where
 bd:pN a M A V
 pl0:tI a M0 V.p l
 s0:qr M0 M
 fr:∀x∈A.foot,M0 x=none
 b:A.b=b
 sz:Sz V c n
 ok:rL l
 on:V.on.length=l.mO.length
variable {M0:Mp}{b:Addr}{A':tV}{V':qB}{l:pH}{n:Nat}
section
variable {c:Nat}
def uG.at_(h:uG a M0 M b A V l c n):M b=some (.ins a.c (tT (.ref V.p) V.h V.t A.ca A.le A.nx A.on A.lo)):=h.b ▸ h.bd.at_
def uG.sub(h:uG a M0 M b A V l c n)(s:qr M M'):uG a M0 M' b A V l c n:=⟨h.bd.sub s,h.pl0,h.s0.trans s,h.fr,h.b,h.sz,h.ok,h.on⟩
def uG.pl(h:uG a M0 M b A V l c n):tI a M V.p l:=h.pl0.sub h.s0
def uG.mono(h:uG a M0 M b A V l c n){c' n':Nat}(hc:c<=c')(hn:n<=n'):uG a M0 M b A V l c' n':=⟨h.bd,h.pl0,h.s0,h.fr,h.b,h.sz.mono hc hn,h.ok,h.on⟩
def uG.lim(h:uG a M0 M b A V l c n)(hc:c<=1000000)(hn:n<9000000):We V:=⟨iC h.sz.lo (by omega),iC h.sz.le (by omega),d6 h.sz.ca hc,iC h.sz.ps (by omega),λk hk=>⟨iC (h.sz.cs k hk).1 (by omega),(h.sz.cs k hk).2⟩⟩
def uG.rd(h:uG a M0 M b A V l c n)(hc:c<=1000000){o:Option Nat}(wf:zK l V o):Rd a M A V l:=⟨h.bd,d6 h.sz.ca hc,h.pl,h.ok,h.on,λk hk=>by
 obtain⟨i,hi,e⟩:=fS hk;exact⟨(wf.ok i k (by rw[cX hi,e])).ms,(h.sz.cs k hk).2.2⟩⟩
def uG.call(h:uG a M0 M b A V l c n){i:Nat}{v:pB}(e:V.calls[i]?=some v):∃k,CI a M A V i k v:=by
 have hi:i<A.cs.length:=by rw[h.bd.len];exact(c9.mp e).1
 exact⟨A.cs[i],h.bd,cX hi,e⟩
def uG.after(h:uG a M0 M b A V l c n){e:Ev}(ok:e.ok V)(eb:A'.b=A.b)(st:qR A M A' M')(bd:pN a M' A' (qg V e)):uG a M0 M' b A' (qg V e) l (c+e.nw) (n+1):=by
 obtain⟨p1,p2,p3⟩:=RE V e;refine⟨bd,p1 ▸ h.pl0,λx d hx=>st.1 x d (λz=>?_) (h.s0 x d hx),λx hx=>?_,eb.trans h.b,h.sz.step ok,h.ok,p3.trans h.on⟩
 .rw[h.fr x z]at hx;cases hx
 .rcases st.2.1 x hx with z|z
  .exact h.fr x z
  .exact h.s0.none z
end
def GY(l:pH)(V:qB)(c:Str):wc->Prop
 | .rings z ps=>z∈l.nm/\ps≠[]/\ps=xE l V c z
 | .breaks z=>∃x,x=c/\Hs l V x c z=true
 | .waits z=>z∈l.pn/\z≠c/\wn V z=false
 | .ring ns=>ns≠[]
 | _=>True
def FU{l:pH}{V:qB}{c z:Str}:(∀x∈xE l V c z,x∈sU l V c z/\x∈l.mK z)/\(xE l V c z).length<=(l.mK z).length:=by
 have hr:∀x∈sU l V c z,x∈l.mK z:=λx hx=>(eO.mp hx).1;unfold xE;split
 .refine⟨λx hx=>?_,?_⟩
  .have hx:=(eO.mp (iV hx)).2;have hx:=qw.mp hx;exact⟨hx,hr x hx⟩
  .cases e:(vb (l.mK z) (zD V z)).filter λx=>hasS (sU l V c z) x with
   | nil=>exact eL _
   | cons y r=>
    have hy:y∈vb (l.mK z) (zD V z):=(eO.mp (by rw[e];exact dG)).1;have hy:y∈l.mK z:=by
     unfold vb at hy;rcases dY.mp hy with q|q
     .exact kx q
     .exact iV q
    rw[fz];have:=List.length_pos_of_mem hy;omega
 .exact⟨λx hx=>⟨hx,hr x hx⟩,gF _ _⟩
def Pf{l:pH}{V:qB}{c z:Str}(hz:z∈l.nm):GY l V c (HX l V c z):=by
 unfold HX;split
 .trivial
 .rename_i x r e;exact⟨hz,fB _ _,e.symm⟩
structure ye(l:pH)(V:qB)(c:Str)(n:Nat)(st:tL)(r:wc×tL):Prop where
 e:GY l V c r.1
 len:r.2.length<=st.length+n
 nm:∀s∈r.2,s∈st\/s.1∈l.nm
 wy:∀ns,r.1=.ring ns->∀z∈ns,z∈l.nm
theorem zp{l:pH}{V:qB}{c:Str}(ok:rL l):∀(n:Nat) (z:Str) (way:QQQ) (st:tL),z∈l.nm->(∀x∈way,x∈l.nm)->ye l V c n st (xh l V c n z way st)
 | 0,z,way,st,_,_=>⟨trivial,dv _,λs hs=>.inl hs,λns h=>by cases h⟩
 | n+1,z,way,st,hz,hw=>by
  unfold xh;by_cases h:hasS way z=true
  .rw[df h];refine⟨?_,by show st.length<=_;omega,λs hs=>.inl hs,λns e y hy=>?_⟩
   .have h1:way.findIdx (·==z)<way.length:=List.findIdx_lt_length_of_exists ⟨z,qw.mp h,fh z⟩;show way.drop _≠[];intro g;have:=eX List.length g;rw[gx]at this;simp only[dJ]at this;omega
   .cases e;exact hw y (kx hy)
  rw[cZ h];have sn:∀(fs:List Nat),∀s∈st++[(z,fs)],s∈st\/s.1∈l.nm:=λfs s hs=>by
   rcases dY.mp hs with g|g
   .exact .inl g
   .rw[dz.mp g];exact .inr hz
  have sl:∀fs:List Nat,(st++[(z,fs)]).length=st.length+1:=λfs=>by rw[cY];rfl
  cases hf:DC l V c z with
  | nil=>refine⟨Pf hz,by show(st++[(z,[])]).length<=_;rw[sl];omega,sn [],λns e=>?_⟩;have e:HX l V c z=.ring ns:=e;unfold HX at e;split at e<;>cases e
  | cons i r=>
   obtain⟨w,ew,Xg⟩:=Fd (l:=l) (V:=V) (f:=xV l V c z) (i:=i) (by show i∈DC l V c z;rw[hf];exact dG);dsimp only;rw[ew];dsimp only[Option.elim];have stop:∀e:wc,GY l V c e->(∀ns,e≠.ring ns)->ye l V c (n+1) st (e,st++[(z,i::r)]):=λe he W8=>⟨he,by show(st++[(z,i::r)]).length<=_;rw[sl];omega,sn _,λns g=>absurd g (W8 ns)⟩
   have Y7:∀y,IE z w.2=.inr y->ye l V c (n+1) st (xh l V c n y (way++[z]) (st++[(z,i::r)])):=λy hy=>by
    have hr:=zp (V:=V) (c:=c) ok n y (way++[z]) (st++[(z,i::r)]) (BB ok (qS ew) hy) λx hx=>by
     rcases dY.mp hx with g|g
     .exact hw x g
     .rw[dz.mp g];exact hz
    refine⟨hr.e,by have:=hr.len;rw[sl]at this;omega,λs hs=>?_,hr.wy⟩;rcases hr.nm s hs with g|g
    .exact sn _ s g
    .exact .inr g
   cases hv:w.2 with
   | bar x ns=>exact stop _ trivial λns g=>by cases g
   | shut x ns=>exact stop _ trivial λns g=>by cases g
   | wait x=>
    rw[hv]at Xg;have hf2:(if (!(z==x)||(c==x))=true then false else sO l V c z&&!(wn V z))=true:=Xg;have hx:xt l.pn x:=by have:=ok.wo w (qS ew);rw[hv]at this;exact this
    by_cases g:(!(z==x)||(c==x))=true
    .rw[df g]at hf2;cases hf2
    rw[cZ g]at hf2;simp only[gW,gI,fN,js,dU]at g hf2;have ezx:=eq_of_beq g.1;subst ezx;exact stop _ ⟨qw.mp hx,λy=>g.2 (by rw[y];exact fh _),hf2.2⟩ λns g=>by cases g
   | breaks x=>
    rw[hv]at Xg;refine stop _ ⟨x,?_,?_⟩ λns g=>by cases g
    .have Xg:Hs l V x c z=true:=Xg;unfold Hs at Xg;by_cases g:(!(c==x)||(z==x))=true
     .rw[df g]at Xg;cases Xg
     .simp only[gW,gI,fN,js]at g;exact(eq_of_beq g.1).symm
    .exact Xg
   | always x y=>exact Y7 y (by rw[hv];rfl)
   | night x y f m=>exact Y7 y (by rw[hv];rfl)
   | busy x y=>exact Y7 y (by rw[hv];rfl)
   | silent x y m=>exact Y7 y (by rw[hv];rfl)
def F'{l:pH}{V:qB}{x c z:Str}(h:Hs l V x c z=true):∃j k,vP V z=some j/\V.calls[j]?=some k/\k.st="talks"/\z∈k.ms/\k.ms.length=2/\z≠c:=by
 unfold Hs at h;by_cases g:(!(c==x)||(z==x))=true
 .rw[df g]at h;cases h
 rw[cZ g]at h;simp only[gW,gI,fN,js]at g;by_cases g2:(!(hasS l.pn z)||!(sO l V c z))=true
 .rw[df g2]at h;cases h
 rw[cZ g2]at h;cases e:vP V z with
 | none=>rw[e]at h;cases h
 | some j=>obtain⟨hj,ht,_⟩:=iI.mp e;rw[e]at h;have h:((V.calls[j]?).elim false λk=>(k.ms.length==2)&&HP l x k.ms)=true:=h;rw[cX hj]at h;have h:((V.calls[j].ms.length==2)&&HP l x V.calls[j].ms)=true:=h;unfold pB.mX at ht;rw[dU]at h ht;refine⟨j,V.calls[j],rfl,cX hj,eq_of_beq ht.1,qw.mp ht.2,eq_of_beq h.1,λy=>?_⟩;rw[y]at g;have:=eq_of_beq g.1;rw[this,fh]at g;exact absurd rfl g.2
noncomputable def pB.bare(c:pB):pB:={c with way:=[]}
def tS(V V':qB):Prop:=V'.calls.map pB.bare=V.calls.map pB.bare
def tS.at_{V V':qB}(h:tS V V'){i:Nat}{c:pB}(e:V.calls[i]?=some c):∃c',V'.calls[i]?=some c'/\c'.bare=c.bare:=by
 have:=eX (·[i]?) h;simp only[dD,e]at this;cases e':V'.calls[i]? with
 | none=>rw[e']at this;cases this
 | some c'=>rw[e']at this;exact⟨c',rfl,dh this⟩
def yZ(f:pB->Bool)(hf:∀c,f c.bare=f c)(cs:List pB):(cs.map pB.bare).findIdx? f=cs.findIdx? f:=by rw[hJ];congr 1;funext c;exact hf c
def tS.nI{V V':qB}(h:tS V V')(z:Str):vP V' z=vP V z:=by unfold vP;rw[<-yZ _ (λ_=>rfl) V'.calls,h,yZ _ (λ_=>rfl)]
def tS.ends{l:pH}{V V':qB}(h:tS V V')(i:Nat)(e:wc):tK l V' i e=tK l V i e:=by
 cases e with
 | breaks z=>
  unfold tK;dsimp only;rw[h.nI];have key:∀j:Nat,(V'.calls[j]?).map pB.bare=(V.calls[j]?).map pB.bare:=λj=>by
   have:=eX (·[j]?) h
   simpa only [dD]using this
  have ki:=key i;cases vP V z with
  | none=>rfl
  | some j=>
   have kj:=key j;cases e1:V.calls[i]? with
   | none=>rw[e1]at ki;rw[show V'.calls[i]?=none by cases q:V'.calls[i]? with|none=>rfl|some _=>rw[q]at ki;cases ki]
   | some c=>
    rw[e1]at ki;cases e2:V'.calls[i]? with
    | none=>rw[e2]at ki;cases ki
    | some c'=>
     rw[e2]at ki;have k1:c'.cr=c.cr:=by have kb:c'.bare=c.bare:=dh ki;exact show c'.bare.cr=c.bare.cr by rw[kb]
     have k2:(V'.calls[j]?).elim [] pB.ms=(V.calls[j]?).elim [] pB.ms:=by
      cases e3:V.calls[j]? with
      | none=>rw[e3]at kj;rw[show V'.calls[j]?=none by cases q:V'.calls[j]? with|none=>rfl|some _=>rw[q]at kj;cases kj]
      | some d=>
       rw[e3]at kj;cases e4:V'.calls[j]? with
       | none=>rw[e4]at kj;cases kj
       | some d'=>rw[e4]at kj;exact show d'.bare.ms=d.bare.ms by rw[show d'.bare=d.bare from dh kj]
     dsimp only;rw[k1,k2]
 | _=>rfl
def tS.trans{V V1 V2:qB}(h:tS V V1)(g:tS V1 V2):tS V V2:=Eq.trans g h
def zi(V:qB)(v:se):tS V (qg V (.leg v)):=by
 show(V.calls.modify v.i (·.go v.g)).map pB.bare=V.calls.map pB.bare;cases e:V.calls[v.i]? with
 | none=>rw[kK (by simpa using e)]
 | some c=>rw[tO e,mD,show(c.go v.g).bare=c.bare from rfl,Gd (by rw[dD,e];rfl)]
def DU(V:qB)(i:Nat)(z:Str)(ns:List Nat):tS V (qg V (.asks i z ns)):=rfl
def tS.len{V V':qB}(h:tS V V'):V'.calls.length=V.calls.length:=by
 have:=eX List.length h
 rwa [cV,cV]at this
noncomputable def FS:Option Str->tL->Option Str
 | o,[]=>o
 | _,(z,_)::r=>FS (some z) r
noncomputable def To(i:Nat)(z:Str)(fs:List Nat):Option Str->List Ev
 | none=>[.asks i z fs]
 | some y=>[.leg ⟨i,y,z,y⟩,.asks i z fs]
theorem yR(i:Nat)(z:Str)(fs:List Nat):∀(st:tL) (o:Option Str),rG i o (st++[(z,fs)])=rG i o st++To i z fs (FS o st)
 | [],none=>rfl
 | [],some _=>rfl
 | (y,gs)::r,none=>by show .asks i y gs::rG i (some y) (r++[(z,fs)])=_;rw[yR i z fs r];rfl
 | (y,gs)::r,some u=>by show .leg ⟨i,u,y,u⟩::.asks i y gs::rG i (some y) (r++[(z,fs)])=_;rw[yR i z fs r];rfl
theorem BM(z:Str)(fs:List Nat):∀(st:tL) (o:Option Str),FS o (st++[(z,fs)])=some z
 | [],_=>rfl
 | _::r,_=>BM z fs r _
theorem vi(i:Nat):∀(st:tL) (o:Option Str) (V:qB),tS V (qI V (rG i o st))
 | [],_,V=>rfl
 | (y,gs)::r,none,V=>(DU V i y gs).trans (vi i r (some y) _)
 | (y,gs)::r,some u,V=>((zi V ⟨i,u,y,u⟩).trans (DU _ i y gs)).trans (vi i r (some y) _)
def NO(a:Ad):rf:=λds M Q=>Lu λM0 b A V l c n i st r=>ds=[.ref b,.int ((i:Nat):Int),.ref r]/\uG a M0 M b A V l c n/\c<=1000000/\n<=8000000/\st.length<=100/\i<V.calls.length/\oM M r=some (rm st)/\r∉A.foot/\∀M' A',uG a M0 M' b A' (qI V (rG i none st)) l c (n+2*st.length)->qR A M A' M'->Q .mS M'
def LG(a:Ad):rf:=λds M Q=>Lu λM0 b A V l c n i z ps=>ds=[.ref b,.int ((i:Nat):Int),.str z,names ps]/\uG a M0 M b A V l c n/\c<=1000000/\n<=8000000/\i<V.calls.length/\z∈l.nm/\ps≠[]/\(∀x∈ps,x∈l.mK z)/\ps.length<=100/\∀M' A',uG a M0 M' b A' (qI V (tK l V i (.rings z ps))) l c (n+2)->qR A M A' M'->Q .mS M'
def G2(l:pH)(V:qB)(i:Nat):wc->Prop
 | .rings z ps=>z∈l.nm/\ps≠[]/\(∀x∈ps,x∈l.mK z)/\ps.length<=100
 | .breaks z=>∃j k,vP V z=some j/\V.calls[j]?=some k/\i≠j/\k.ms.length=2
 | _=>True
def K'(a:Ad):rf:=λds M Q=>TJ λM0 b A V l c n i z=>ds=[.ref b,.int ((i:Nat):Int),.str z]/\uG a M0 M b A V l c n/\c<=1000000/\n<=8000000/\i<V.calls.length/\G2 l V i (.breaks z)/\∀M' A',uG a M0 M' b A' (qI V (tK l V i (.breaks z))) l c (n+2)->qR A M A' M'->Q .mS M'
def Ir(a:Ad):rf:=λds M Q=>TJ λM0 b A V l c n i e=>ds=[.ref b,.int ((i:Nat):Int),wc.d e]/\uG a M0 M b A V l c n/\c<=1000000/\n<=8000000/\i<V.calls.length/\G2 l V i e/\∀M' A',uG a M0 M' b A' (qI V (tK l V i e)) l c (n+2)->qR A M A' M'->Q .mS M'
def NJ(a:Ad):rf:=λds M Q=>TJ λM0 b A V l c n i k=>ds=[.ref b,.int ((i:Nat):Int)]/\uG a M0 M b A V l c n/\c<=1000000/\n<=7000000/\zK l V (some i)/\V.calls[i]?=some k/\∀M' A',uG a M0 M' b A' (qI V (xk l V i)) l c (n+30)->qR A M A' M'->Q .mS M'
def KM(a:Ad):rf:=λds M Q=>TJ λM0 b A V l c n y z=>ds=[.ref b,.str y,.str z]/\uG a M0 M b A V l c n/\c<1000000/\n<=6000000/\zK l (qI V [.new V.calls.length y,.leg ⟨V.calls.length,y,z,y⟩]) (some V.calls.length)/\∀M' A',uG a M0 M' b A' (qI V (Fx l V y z)) l (c+1) (n+32)->qR A M A' M'->Q .mS M'
def MY{st:tL}{pre post:List D}{d:D}(e:pre++d::post=rm st):∃z fs,st[pre.length]?=some (z,fs)/\d=.tup [.str z,wq fs]/\st.take (pre.length+1)=st.take pre.length++[(z,fs)]:=by
 have h:(rm st)[pre.length]?=some d:=by rw[<-e];simp
 unfold rm at h;rw[dD]at h;cases q:st[pre.length]? with
 | none=>rw[q]at h;cases h
 | some s=>rw[q]at h;refine⟨s.1,s.2,rfl,(dh h).symm,?_⟩;rw[gH,q];rfl
noncomputable def Vb:Option Str->D
 | none=>.mS
 | some x=>.str x
def Fe{ss:QQQ}{x:Str}(h:ss.getLast?=some x):vC (ss.map D.str) (-1)=some (.str x):=by
 have hp:0<ss.length:=by cases ss with|nil=>cases h|cons _ _=>exact mE _
 unfold vC;have e:GH (ss.map D.str).length (-1)=some (ss.length - 1):=by
  rw[cV];unfold GH;have:¬((-1:Int)>=0):=by decide
  simp;omega
 rw[e];show(ss.map D.str)[ss.length - 1]?=_;rw[dD,<-jx,h];rfl
def L0(ds:List D):L3.uR ds none (some (-1:Int))=ds.dropLast:=by
 unfold L3.uR;have e:HT.tw ds.length ds.length (some (-1:Int))=ds.length - 1:=by show(if (-1:Int)<0 then((-1:Int)+(ds.length:Int)).toNat else min (-1:Int).toNat ds.length)=ds.length - 1;rw[df (by decide)];omega
 rw[e,HT.Cy,kg,kW,List.dropLast_eq_take]
def OO:Fq P w K mg base 4 a.a3 (NO a):=by
 refine fq G.a3.toDG tY (λr u=>⟨_,(pj (pL 3 tY sD)
 (pk (uk eQ rfl (qF U2) (uL (n:=2) rfl (qp (rh 4 tY) (qp (rh 5 tY) tN)))
 (pj (pQ (pG u U3 sD)
 (pk (pO (pX v0 G.c.toCls G.k (ra G) r (qe (pM (pV pA (pV U1 (rb U3 v4 U3))))))))
 pJ)
 (pj (pO (pX v0 G.c.toCls G.k (ra G) r (qe (pM (pV pA (rb U1 v4 v5))))))
 (pk (pL 3 tY v4))))))),?_⟩)
 rintro ds M Q ⟨M0,b,A,V,l,c,n,i,st,r,rfl,cu,hc,hn,W6,hi,lr,nf,q⟩
 refine i' lr (uU (rm st) (λpre δ M'=>(∃A',uG a M0 M' b A' (qI V (rG i none (st.take pre.length))) l c (n+2*pre.length)/\qR A M A' M')/\∃y4 y5,δ=[some (.ref b),some (.int ((i:Nat):Int)),some (.ref r),some (Vb (FS none (st.take pre.length))),y4,y5]) (λpre δ M' j=>?_) _ [] _ _ rfl ⟨⟨A,cu,.refl⟩,none,none,rfl⟩ ?_ ?_)
 .obtain⟨⟨A',c1,Xm⟩,_⟩:=j;exact sQ (Xm.1 r _ nf (qo lr))
 .rintro pre d post e δ M' ⟨⟨A',c1,Xm⟩,y4,y5,rfl⟩ nx WS
  obtain⟨z,fs,es,rfl,et⟩:=MY e;have hp:pre.length<100:=dR (c9.mp es).1 W6;rw[cY,dO,et,yR,BM]at WS;have len:∀es,tS V (qI V es)->i<(qI V es).calls.length:=λes h=>by rw[h.len];exact hi
  have Yj:=len _ (vi i (st.take pre.length) none V);generalize hV:qI V (rG i none (st.take pre.length))=V1 at c1 Yj;rw[rF,hV]at WS;refine⟨rfl,?_⟩;dsimp only[sP,BL,Jo];have asks:∀(M2:Mp) (A2:tV) (V2:qB) (m:Nat) (y3:Option D),m<9000000->uG a M0 M2 b A2 V2 l c m->qR A M A2 M2->(∀M3 A3,uG a M0 M3 b A3 (qg V2 (.asks i z fs)) l c (m+1)->qR A M A3 M3->nx [some (.ref b),some (.int ((i:Nat):Int)),some (.ref r),some (.str z),some (.str z),some (wq fs)] M3)->AN (M2 b) λC fs'=>fs'.lookup ("apply":Str)=none/\∃sp,(C=a.c/\sp=vV a)/\4<=sizeLine/\sp [.ref b,.tup [.str "asks",.int ((i:Nat):Int),.str z,wq fs]] M2 λ_ M3=>nx [some (.ref b),some (.int ((i:Nat):Int)),some (.ref r),some (.str z),some (.str z),some (wq fs)] M3:=λM2 A2 V2 m y3 hm c2 s2 k=>pq c2.at_ ⟨rfl,_,⟨rfl,rfl⟩,by rw[dN];decide,b,A2,V2,.asks i z fs,rfl,c2.b,c2.bd,c2.lim hc hm,trivial,λM3 A3 eb s3 bd=>k M3 A3 (c2.after trivial eb s3 bd) (s2.trans s3)⟩;cases hl:FS none (st.take pre.length)with
  | none=>rw[hl]at WS;refine asks M' A' V1 _ none (by omega) c1 Xm λM3 A3 c3 s3=>WS _ _ ⟨⟨A3,c3.mono (dv _) (by omega),s3⟩,_,_,rfl⟩
  | some y=>rw[hl]at WS;refine pq c1.at_ ⟨rfl,_,⟨rfl,rfl⟩,pb rfl,b,A',V1,.leg ⟨i,y,z,y⟩,rfl,c1.b,c1.bd,c1.lim hc (by omega),Yj,λM2 A2 eb s2 bd=>?_⟩;have c2:=c1.after (e:=.leg ⟨i,y,z,y⟩) Yj eb s2 bd;refine asks M2 A2 _ _ none (by omega) c2 (Xm.trans s2) λM3 A3 c3 s3=>WS _ _ ⟨⟨A3,c3.mono (dv _) (by omega),s3⟩,_,_,rfl⟩
 .rintro δ M' ⟨⟨A',c1,Xm⟩,_⟩
  have hl:(rm st).length=st.length:=by unfold rm;rw[cV]
  rw[hl,fg]at c1;exact⟨M',.refl,q M' A' c1 Xm⟩
def LF:Fq P w K mg base 4 a.a4 (LG a):=by
 refine fq G.a4.toDG uJ (λr u=>⟨_,(pj (pQ (pG u (pX (pC v0) G.h.toCls G.aM (xT G) r (qe U2)) pA)
 (pj (pL 4 uJ (pX (pC v0) G.h.toCls G.X (uB G) r (qe U2)))
 (pj (pL 5 uJ (pU (pU (xD v4 (qe (pK U3 pz))) pz) (pS qx rfl G.g qv (qe v4))))
 (pk (pO (pX v0 G.c.toCls G.k (ra G) r (qe (pM (rb pA U2 v5))))))))
 pJ)
 (pk (pO (pX v0 G.c.toCls G.k (ra G) r (qe (pM (rb pA U1 U3))))))),?_⟩)
 rintro ds M Q ⟨M0,b,A,V,l,c,n,i,z,ps,rfl,cu,hc,hn,hi,hz,W8,hm,hps,q⟩
 obtain⟨ph,gr,ws,Yl,pr,gd,rs,i1,_⟩:=cu.pl;have pl:=cu.pl;obtain⟨x,ps',rfl⟩:=gi W8;obtain⟨⟨pne,_⟩,_⟩:=cu.ok.of hz;refine KF (t:=Nc _ _ _) (λδ M'=>(∃A',uG a M0 M' b A' (qI V (if (l.mU z=="turns")=true then[.next z (Qu (l.mK z) x)]else[])) l c (n+1)/\qR A M A' M')/\∃y1 y2,δ=[some (.ref b),some (.int ((i:Nat):Int)),some (.str z),some (names (x::ps')),y1,y2]) (λnx h=>?_) ?_
 .refine pq cu.at_ (i' rfl (pq i1 ⟨rfl,_,⟨rfl,rfl⟩,V.p,z,l,rfl,pl,?_⟩));refine qD (c:=l.mU z=="turns") (λg=>?_) (λg=>?_)
  .rw[df g]at h;refine pq cu.at_ (i' rfl (pq i1 ⟨rfl,_,⟨rfl,rfl⟩,V.p,z,l,rfl,pl,λp hp=>?_⟩));have t:=qr.new (c:=.lst ((l.mK z).map D.str)) hp;have lp:=@pE M p ((l.mK z).map D.str);have cu':=cu.sub t;have st0:qR A M A (pF M p (.lst ((l.mK z).map D.str))):=.sub t;generalize pF M p (.lst ((l.mK z).map D.str))=M1 at t lp cu' st0 ⊢;have ej:=EW x (l.mK z) (hm x dG);have lpos:0<(l.mK z).length:=fC.mpr pne;have el:(((l.mK z).map D.str).length:Int)=(l.mK z).length:=by rw[cV]
   refine⟨by show(oM M1 p).isSome=true;rw[lp];rfl,i' (xZ _ _) (i' lp ⟨rfl,ql _,i' ej (i' lp ⟨by rw[el];omega,?_⟩)⟩)⟩;rw[el];refine pq cu'.at_ ⟨rfl,_,⟨rfl,rfl⟩,pb rfl,b,A,V,.next z (Qu (l.mK z) x),rfl,cu'.b,cu'.bd,cu'.lim hc (by omega),trivial,λM2 A2 eb st Yf=>?_⟩;exact h _ _ ⟨⟨A2,cu'.after (e:=.next z (Qu (l.mK z) x)) trivial eb st Yf,st0.trans st⟩,_,_,rfl⟩
  .rw[cZ g]at h;exact h _ _ ⟨⟨A,cu.mono (dv _) (by omega),.refl⟩,_,_,rfl⟩
 rintro δ M1 ⟨⟨A1,c1,Xm⟩,y1,y2,rfl⟩
 have q:∀M' A',uG a M0 M' b A' (qI V ((if (l.mU z=="turns")=true then[.next z (Qu (l.mK z) x)]else[])++[.rings i (x::ps')])) l c (n+2)->qR A M A' M'->Q .mS M':=q;rw[rF]at q;have Yj:i<(qI V (if (l.mU z=="turns")=true then[.next z (Qu (l.mK z) x)]else[])).calls.length:=by
  split
  .exact hi
  .exact hi
 generalize qI V (if (l.mU z=="turns")=true then[.next z (Qu (l.mK z) x)]else[])=V1 at c1 q Yj;refine pq c1.at_ ⟨rfl,_,⟨rfl,rfl⟩,pb rfl,b,A1,V1,.rings i (x::ps'),rfl,c1.b,c1.bd,c1.lim hc (by omega),⟨Yj,hps⟩,λM2 A2 eb W7 Yf=>?_⟩;exact⟨M2,.refl,q M2 A2 (c1.after (e:=.rings i (x::ps')) ⟨Yj,hps⟩ eb W7 Yf) (Xm.trans W7)⟩
def LI:Fq P w K mg base 4 a.a5 (K' a):=by
 refine fq G.a5.toDG xH (λr u=>⟨_,(pj (pL 3 xH (pX v0 G.c.toCls G.R (yQ G) r (qe U2)))
 (pj (pL 4 xH (pU (pY sy rfl G.z sA (qe (pC (pK (pC v0) U3)))) (pM (qe (pC (pK (pC v0) U1))))))
 (pk (pO (pX v0 G.c.toCls G.k (ra G) r (qe (pM (pV pA (rb U1 U3 v4))))))))),?_⟩)
 rintro ds M Q ⟨M0,b,A,V,l,c,n,i,z,rfl,cu,hc,hn,hi,⟨j,k,ej,ek,XD,XU⟩,q⟩
 have hz:=dN;have ei:V.calls[i]?=some V.calls[i]:=cX hi;generalize V.calls[i]=ci at ei;obtain⟨ka,qi⟩:=cu.call ei;obtain⟨kb,qj⟩:=cu.call ek;obtain⟨ad,md,h1,h2,h3,h4,_⟩:=qi.cell;obtain⟨ad',md',g1,g2,g3,g4,_⟩:=qj.cell;have hee:tK l V i (.breaks z)=[.merge i j (k.ms++[ci.cr])]:=by unfold tK;dsimp only;rw[ej,ei];dsimp only;rw[ek];rfl
 rw[hee]at q;have ok:(Ev.merge i j (k.ms++[ci.cr])).ok V:=⟨hi,(c9.mp ek).1,XD,by rw[cY,XU];show 3<=100;decide⟩;refine pq cu.at_ ⟨rfl,_,⟨rfl,rfl⟩,A,V,z,by rw[cu.b],cu.bd,d6 cu.sz.ca hc,?_⟩;rw[show Au V z=.int (j:Nat)from by unfold Au;rw[ej];rfl];refine pq cu.at_ (i' rfl (i' rfl (i' cu.bd.ca (i' (rj qj.e1) (pq g1 (i' rfl (i' g4 ?_)))))));refine pq cu.at_ (i' rfl (i' rfl (i' cu.bd.ca (i' (rj qi.e1) (pq h1 (i' rfl ⟨pb rfl,?_⟩))))));refine⟨(by intro y;rw[List.map_eq_nil_iff]at y;rw[y]at XU;cases XU),(by rw[cV,XU];show 2+1<=sizeLine;omega),?_⟩;rw[show k.ms.map D.str++[D.str ci.cr]=(k.ms++[ci.cr]).map D.str by rw[dS];rfl];refine pq cu.at_ ⟨rfl,_,⟨rfl,rfl⟩,pb rfl,b,A,V,.merge i j (k.ms++[ci.cr]),rfl,cu.b,cu.bd,cu.lim hc (by omega),ok,λM2 A2 eb W7 Yf=>?_⟩;exact⟨M2,.refl,q M2 A2 ((cu.after ok eb W7 Yf).mono (dv _) (by omega)) W7⟩
def O2:Fq P w K mg base 5 a.a6 (Ir a):=by
 refine fq G.a6.toDG xO (λr u=>⟨_,(pj (pL 3 xO (pK U2 pz))
 (pk (pQ (pG u U3 pA)
 (pk (pO (pI (LF G) r G.a4 (pV v0 (rb U1 (pK U2 pz) (pK U2 pz))))))
 (pk (pQ (pG u U3 pA)
 (pk (pO (pX v0 G.c.toCls G.k (ra G) r (qe (pM (rb pA U1 (pK U2 pz)))))))
 (pk (pQ (pG u U3 pA)
 (pk (pO (pI (LI G) r G.a5 (rb v0 U1 (pK U2 pz)))))
 (pk (pO (pX v0 G.c.toCls G.k (ra G) r (qe (pM (rb pA U1 U3))))))))))))),?_⟩)
 rintro ds M Q ⟨M0,b,A,V,l,c,n,i,e,rfl,cu,hc,hn,hi,he,q⟩
 have one:∀(ev:Ev) (ok:ev.ok V),ev.nw=0->tK l V i e=[ev]->∀M2 A2,A2.b=A.b->qR A M A2 M2->pN a M2 A2 (qg V ev)->∃WL,qr WL M2/\Q .mS WL:=λev ok h0 h1 M2 A2 eb W7 Yf=>by rw[h1]at q;have c2:=cu.after ok eb W7 Yf;rw[h0]at c2;exact⟨M2,.refl,q M2 A2 (c2.mono (dv _) (by omega)) W7⟩
 cases e with
 | rings z ps=>exact⟨M0,b,A,V,l,c,n,i,z,ps,rfl,cu,hc,hn,hi,he.1,he.2.1,he.2.2.1,he.2.2.2,λM' A' c1 st=>⟨M',.refl,q M' A' c1 st⟩⟩
 | waits z=>exact pq cu.at_ ⟨rfl,_,⟨rfl,rfl⟩,pb rfl,b,A,V,.waits i z,rfl,cu.b,cu.bd,cu.lim hc (by omega),hi,one (.waits i z) hi rfl rfl⟩
 | breaks z=>exact⟨M0,b,A,V,l,c,n,i,z,rfl,cu,hc,hn,hi,he,λM' A' c1 st=>⟨M',.refl,q M' A' c1 st⟩⟩
 | engaged z=>exact pq cu.at_ ⟨rfl,_,⟨rfl,rfl⟩,pb rfl,b,A,V,.over i "engaged",rfl,cu.b,cu.bd,cu.lim hc (by omega),hi,one (.over i "engaged") hi rfl rfl⟩
 | barred=>exact pq cu.at_ ⟨rfl,_,⟨rfl,rfl⟩,pb rfl,b,A,V,.over i "barred",rfl,cu.b,cu.bd,cu.lim hc (by omega),hi,one (.over i "barred") hi rfl rfl⟩
 | ring ns=>exact pq cu.at_ ⟨rfl,_,⟨rfl,rfl⟩,pb rfl,b,A,V,.over i "ring",rfl,cu.b,cu.bd,cu.lim hc (by omega),hi,one (.over i "ring") hi rfl rfl⟩
def Mh{l:pH}{V:qB}{i:Nat}{k:pB}{e:wc}(ok:rL l)(wf:zK l V (some i))(hk:V.calls[i]?=some k)(h:GY l V k.cr e):G2 l V i e:=by
 cases e with
 | rings z ps=>obtain⟨hz,W8,rfl⟩:=h;have h1:=(FU (l:=l) (V:=V) (c:=k.cr) (z:=z));have h2:=(ok.of hz).1.2.1;exact⟨hz,W8,λx hx=>(h1.1 x hx).2,by have:=h1.2;omega⟩
 | breaks z=>
  obtain⟨x,rfl,hb⟩:=h;obtain⟨j,d,e1,e2,e3,e4,e5,_⟩:=F' hb;refine⟨j,d,e1,e2,λy=>?_,e5⟩;subst y;rw[hk]at e2;cases e2;have sh:=(wf.ok i k hk).sh;rw[show(some i==some i)=true from fh _]at sh;rcases sh with g|g
  .rw[g.1]at e3;exact absurd e3 (by decide)
  .cases g.1
 | _=>trivial
def IA:Fq P w K mg base 9 a.ad (NJ a):=by
 refine fq G.ad.toDG wj (λr u=>⟨_,(pj (pL 2 wj (pK (pC v0) U1))
 (pj (pL 3 wj (pI (LH G) r G.aX (pV v0 (rb (pC U2) (pK (pC U2) (zS pz)) (rW (pC U2) sT (sS (zS pz)))))))
 (pj (pL 4 wj (pK U3 pz))
 (pj (pL 5 wj (pK U3 pz))
 (pj (pO (pI (OO G) r G.a3 (rb v0 U1 v5)))
 (pj (pQ (W3.b3 (wI (pG u (pK v4 pz) pA) (vI (pG u (pS qx rfl G.g qv (qe v5)) pz))))
 (pj (pL 6 wj (pK (pK v5 (zS pz)) pz))
 (pk (pO (pX v0 G.c.toCls G.k (ra G) r (qe (pM (pV pA (pV U1 (rb v6 (pK (pK v4 pz) pz) v6)))))))))
 pJ)
 (pk (pO (pI (O2 G) r G.a6 (rb v0 U1 v4)))))))))),?_⟩)
 rintro ds M Q ⟨M0,b,A,V,l,c,n,i,k,rfl,cu,hc,hn,wf,hk,q⟩
 obtain⟨ka,ci⟩:=cu.call hk;obtain⟨ad,md,h1,h2,h3,h4,n1,n2⟩:=ci.cell;have XJ:=wf.ok i k hk;have hi:=(c9.mp hk).1;obtain⟨z,hz⟩:∃z,k.way.getLast?=some z:=by
  cases e:k.way.getLast? with
  | none=>exact absurd (gK.mp e) XJ.wy.1
  | some z=>exact⟨z,rfl⟩
 have XI:z∈l.nm:=XJ.wy.2 z (gL hz);have hdn:∀x∈k.way.dropLast,x∈l.nm:=λx hx=>XJ.wy.2 x (iW _ hx);have hwl:=(cu.sz.cs k (qS hk)).1;have hev:xk l V i=rG i none (uZ l V k.cr z k.way.dropLast).2++(ub i (uZ l V k.cr z k.way.dropLast).2 (uZ l V k.cr z k.way.dropLast).1++tK l V i (uZ l V k.cr z k.way.dropLast).1):=by
  unfold xk;rw[hk];have:k.way.getLastD Str.empty=z:=by rw[im,hz];rfl
  dsimp only[Option.elim];rw[this]
 rw[hev]at q;have ro:ye l V k.cr (l.nm.length+1) [] (uZ l V k.cr z k.way.dropLast):=zp cu.ok _ _ _ _ XI hdn;have rl:=ro.len;have eo:=Mh cu.ok wf hk ro.e;have nl:l.nm.length<=11:=by have p8:=cu.ok.p8;have g3:=cu.ok.g3;unfold pH.nm pH.pn pH.gn;rw[cY,cV,cV];omega
 have re:=ro.e;refine KF (t:=Ab _ _) (λδ M'=>M=M'/\δ=[some (.ref b),some (.int ((i:Nat):Int)),some (.ref ka.p),none,none,none,none]) (λnx0 h=>pq cu.at_ (i' rfl (i' rfl (i' ci.bd.ca (i' (rj ci.e1) (h _ _ ⟨rfl,rfl⟩)))))) ?_
 rintro δ _ ⟨rfl,rfl⟩
 refine KF (t:=Ab _ _) (λδ M'=>qr M M'/\∃r,M r=none/\oM M' r=some (rm (uZ l V k.cr z k.way.dropLast).2)/\δ=[some (.ref b),some (.int ((i:Nat):Int)),some (.ref ka.p),some (.tup [(uZ l V k.cr z k.way.dropLast).1.d,.ref r]),none,none,none]) (λnx0 h=>?_) ?_
 .refine pq h1 (i' rfl (pq h1 (i' rfl (i' h2 (i' (Fe hz) (pq h1 (i' rfl (i' h2 λp hp=>?_))))))));rw[show L3.uR (k.way.map D.str) none (some (-1:Int))=k.way.dropLast.map D.str from(L0 _).trans (List.map_dropLast).symm];have t:=qr.new (c:=.lst (k.way.dropLast.map D.str)) hp;have lp:=@pE M p (k.way.dropLast.map D.str);refine⟨A,V,l,k.cr,z,p,k.way.dropLast,by rw[cu.b],(cu.rd hc wf).sub t,XI,wf.nx,lp,by rw[List.length_dropLast];omega,λr M' s hr lr=>?_⟩;exact h _ _ ⟨t.trans s,r,t.none hr,lr,rfl⟩
 rintro δ M1 ⟨s1,r,hr,lr,rfl⟩
 generalize uZ l V k.cr z k.way.dropLast=R at lr ro rl eo re q;obtain⟨e,st⟩:=R;have cu1:=cu.sub s1;have rl:st.length<=0+(l.nm.length+1):=rl;refine⟨M0,b,A,V,l,c,n,i,st,r,rfl,cu1,hc,by omega,by omega,hi,lr,cu.bd.n9 hr,λM2 A2 c2 W7=>?_⟩;have same:=vi i st none V;have XA:i<(qI V (rG i none st)).calls.length:=by rw[same.len];exact hi
 have Zp:oM M2 r=some (rm st):=sQ (W7.1 r _ (cu.bd.n9 hr) (qo lr));rw[rF,rF]at q;have hee:=λV' (h:tS V V')=>h.ends (l:=l) i e;have YW:∀V',tS V V'->G2 l V' i e:=λV' h=>by
  cases e with
  | breaks z'=>obtain⟨j,d,a1,a2,a3,a4⟩:=eo;obtain⟨d',b1,b2⟩:=h.at_ a2;exact⟨j,d',by rw[h.nI];exact a1,b1,a3,by rw[show d'.ms=d.ms from show d'.bare.ms=d.bare.ms by rw[b2]];exact a4⟩
  | rings _ _=>exact eo
  | _=>trivial
 generalize qI V (rG i none st)=V2 at c2 XA same q;have XM:∀(M3:Mp) (A3:tV) (V3:qB),uG a M0 M3 b A3 V3 l c (n+2*st.length+1)->qR A M A3 M3->tS V V3->i<V3.calls.length->V3=qI V2 (ub i st e)->Ir a [.ref b,.int ((i:Nat):Int),e.d] M3 λ_ M'=>∃WL,qr WL M'/\Q .mS WL:=λM3 A3 V3 c3 s3 XN hi3 e3=>⟨M0,b,A3,V3,l,c,_,i,e,rfl,c3,hc,by omega,hi3,YW V3 XN,λM4 A4 c4 s4=>⟨M4,.refl,q M4 A4 (by
  rw[<-e3];rw[hee V3 XN]at c4;exact c4.mono (dv _) (by omega)) (s3.trans s4)⟩⟩
 have c2':=c2.mono (dv c) (show n+2*st.length<=n+2*st.length+1 by omega);have X4:=(qR.sub s1 (A:=A)).trans W7;cases e with
 | ring ns=>
  obtain⟨x,ns',rfl⟩:=gi (show ns≠[]from re);refine i' Zp ?_;cases hl:st.getLast? with
  | none=>have:st=[]:=gK.mp hl;subst this;exact XM M2 A2 V2 c2' X4 same XA rfl
  | some s0=>
   have YA:0<st.length:=by cases st with|nil=>cases hl|cons _ _=>exact mE _
   have hd:decide ((0:Int)<((rm st).length:Int))=true:=dW (by unfold rm;rw[cV];omega);refine AX (c:=decide ((0:Int)<((rm st).length:Int))) hd ?_;have hat1:vC (rm st) (-1)=some (.tup [.str s0.1,wq s0.2]):=by
    unfold vC;have e1:GH (rm st).length (-1)=some (st.length - 1):=by unfold rm;rw[cV];unfold GH;simp;omega
    rw[e1];show(rm st)[st.length - 1]?=_;unfold rm;rw[dD,<-jx,hl];rfl
   have hrv:ub i st (.ring (x::ns'))=[.leg ⟨i,s0.1,x,s0.1⟩]:=by unfold ub;dsimp only;rw[hl];rfl
   rw[hrv]at XM;refine i' Zp (i' hat1 ?_);refine pq c2.at_ ⟨rfl,_,⟨rfl,rfl⟩,i' (xZ _ _) ⟨pb rfl,b,A2,V2,.leg ⟨i,s0.1,x,s0.1⟩,rfl,c2.b,c2.bd,c2.lim hc (by omega),XA,λM3 A3 eb Xs bd3=>?_⟩⟩;have XN:=same.trans (zi V2 ⟨i,s0.1,x,s0.1⟩);exact XM M3 A3 _ (c2.after (e:=.leg ⟨i,s0.1,x,s0.1⟩) XA eb Xs bd3) (X4.trans Xs) XN (by rw[XN.len];exact hi) rfl
 | rings z' ps=>exact XM M2 A2 V2 c2' X4 same XA rfl
 | waits z'=>exact XM M2 A2 V2 c2' X4 same XA rfl
 | breaks z'=>exact XM M2 A2 V2 c2' X4 same XA rfl
 | engaged z'=>exact XM M2 A2 V2 c2' X4 same XA rfl
 | barred=>exact XM M2 A2 V2 c2' X4 same XA rfl
def MD:Fq P w K mg base 10 a.a7 (KM a):=by
 refine fq G.a7.toDG zv (λr u=>⟨_,(pj (pL 3 zv (pS qx rfl G.g qv (qe (pC v0))))
 (pj (pO (pX v0 G.c.toCls G.k (ra G) r (qe (pM (rb pA U3 U1)))))
 (pj (pO (pX v0 G.c.toCls G.k (ra G) r (qe (pM (pV pA (pV U3 (rb U1 U2 U1)))))))
 (pk (pO (pI (IA G) r G.ad (rX v0 U3))))))),?_⟩)
 rintro ds M Q ⟨M0,b,A,V,l,c,n,y,z,rfl,cu,hc,hn,wf,q⟩
 have lc:((A.cs.map λk=>D.ref k.p).length:Int)=(V.calls.length:Nat):=by rw[cV,cu.bd.len]
 refine pq cu.at_ (i' rfl (i' cu.bd.ca ?_));rw[lc];refine pq cu.at_ ⟨rfl,_,⟨rfl,rfl⟩,pb rfl,b,A,V,.new V.calls.length y,rfl,cu.b,cu.bd,cu.lim (by omega) (by omega),trivial,λM1 A1 eb1 Xm bd1=>?_⟩;have c1:=cu.after (e:=.new V.calls.length y) trivial eb1 Xm bd1;have ok2:(Ev.leg ⟨V.calls.length,y,z,y⟩).ok (qg V (.new V.calls.length y)):=by show V.calls.length<(V.calls++[y0 y]).length;rw[cY];exact fJ _
 refine pq c1.at_ ⟨rfl,_,⟨rfl,rfl⟩,pb rfl,b,A1,_,.leg ⟨V.calls.length,y,z,y⟩,rfl,c1.b,c1.bd,c1.lim (by show c+1<=_;omega) (by omega),ok2,λM2 A2 eb2 W7 Yf=>?_⟩;have c2:=c1.after ok2 eb2 W7 Yf;obtain⟨k,hk⟩:∃k,(qI V [.new V.calls.length y,.leg ⟨V.calls.length,y,z,y⟩]).calls[V.calls.length]?=some k:=by
  have:V.calls.length<(qI V [.new V.calls.length y,.leg ⟨V.calls.length,y,z,y⟩]).calls.length:=by show V.calls.length<((V.calls++[y0 y]).modify _ _).length;rw[gk];exact ok2
  exact⟨_,cX this⟩
 refine⟨M0,b,A2,_,l,c+1,n+2,V.calls.length,k,rfl,c2,by omega,by omega,wf,hk,λM3 A3 c3 Xs=>⟨M3,.refl,q M3 A3 ?_ (Xm.trans (W7.trans Xs))⟩⟩;unfold Fx;rw[rF];exact c3.mono (dv _) (by omega)
noncomputable def E8(V:qB)(x:Str):D:=CF (uH V x)
abbrev DJ:=Kp E8
def L4(a:Ad):rf:=λds M Q=>G7 λA V l x z=>ds=[.ref A.b,.str x,.str z]/\Rd a M A V l/\x∈l.pn/\Q (CF (F7 l V x z)) M
inductive vN(a:Ad)(M:Mp)(L:QXQ):List rA->List pB->Prop
 | nil:vN a M L [] []
 | cons (k:rA) (c:pB) (ks:List rA) (cs:List pB) (h:rM a M L k c) (r:vN a M L ks cs):vN a M L (k::ks) (c::cs)
def uo.nf(w:Str)(m:Nat):Prop:=((w="answer"\/w="hang"\/w="hold"\/w="back")/\m=1)\/((w="hand"\/w="join")/\m=2)
def LU(a:Ad):rf:=λds M Q=>Ky λwd x r L ks cs=>ds=[.str wd,.str x,.ref r]/\oM M r=some (List.map (λk:rA=>D.ref k.p) ks)/\vN a M L ks cs/\uo.nf wd cs.length/\Q (.bl (Iz wd x cs)) M
def IL(a:Ad):rf:=λds M Q=>Ky λA V l wd x ns=>ds=[.ref A.b,.str wd,.str x,.tup (List.map D.int ns)]/\Rd a M A V l/\x∈l.pn/\uo.nf wd ns.length/\Q (CF (L6 l V wd x ns)) M
def RW(a:Ad):rf:=λds M Q=>Ba λA V b i=>ds=[.ref A.b,.str (UC b),.int i]/\pN a M A V/\Q (CF (PP V b i)) M
def H9(a:Ad):rf:=λds M Q=>Ba λA V l e=>ds=[.ref A.b,uo.d e]/\Rd a M A V l/\e.nH/\Q (CF (xu l V e)) M
noncomputable def V8(m:Nat):D->D
 | .int i=>.bl (zq m i)
 | _=>.bl false
noncomputable def Wd(A:tV):D->D
 | .int i=>(A.cs[i.toNat]?).elim .mS λk=>.ref k.p
 | _=>.mS
theorem QH{a:Ad}{M:Mp}{A:tV}{V:qB}(bd:pN a M A V):∀{ns:List Int},ns.all (zq V.calls.length)=true->∃ks,vN a M (A.lists++V.fo) ks (tR V ns)/\(ns.map D.int).map (Wd A)=ks.map (λk:rA=>D.ref k.p)/\(tR V ns).length=ns.length/\∀i∈ns,∃k,0<=i/\A.cs[i.toNat]?=some k
 | [],_=>⟨[],.nil,rfl,rfl,λi hi=>by cases hi⟩
 | i::r,h=>by
  rw[eW,dU]at h;obtain⟨ks,h1,h2,h3,h4⟩:=QH bd h.2;have hh:(decide (0<=i)&&decide (i<V.calls.length))=true:=h.1;rw[dU,eB,eB]at hh;have hi:i.toNat<V.calls.length:=by omega
  have hk:i.toNat<A.cs.length:=by rw[bd.len];exact hi
  have e1:A.cs[i.toNat]?=some A.cs[i.toNat]:=cX hk;have e2:V.calls[i.toNat]?=some V.calls[i.toNat]:=cX hi;have ec:tR V (i::r)=V.calls[i.toNat]::tR V r:=by unfold tR;rw[List.filterMap_cons_some (f:=λi:Int=>V.calls[i.toNat]?) e2]
  rw[ec];refine⟨A.cs[i.toNat]::ks,.cons _ _ _ _ (bd.cs _ _ _ e1 e2) h1,?_,eX Nat.succ h3,λj hj=>?_⟩
  .rw[dX,dX,h2];show(A.cs[i.toNat]?).elim _ _::_=_;rw[e1];rfl
  .rcases dg.mp hj with rfl|hj
   .exact⟨_,hh.1,e1⟩
   .exact h4 j hj
def vN.sub{a:Ad}{M M':Mp}{L:QXQ}{ks:List rA}{cs:List pB}(h:vN a M L ks cs)(s:qr M M'):vN a M' L ks cs:=by
 induction h with
 | nil=>exact .nil
 | cons k c ks cs h r ih=>exact .cons k c ks cs (h.sub s) ih
def RB{bs:List Bool}{i:Int}(h:zq bs.length i=true):vC (bs.map D.bl) i=some (.bl (bs.getD i.toNat false)):=by
 have hh:(decide (0<=i)&&decide (i<bs.length))=true:=h;rw[dU,eB,eB]at hh;obtain⟨n,rfl⟩:=eC hh.1;have hn:n<bs.length:=by omega
 refine ur ?_;rw[dD,cX hn];show some (D.bl bs[n])=some (.bl (bs.getD n false));rw[gh,cX hn];rfl
def D3:Fq P w K mg base 4 a.ac (DJ a):=by
 refine fq G.ac.toDG yJ (λr u=>⟨_,(pj (pQ (pG u (pX v0 G.c.toCls G.bH (KY G) r (qe U1)) sD)
 (pk (pD pA))
 pJ)
 (pj (pQ (pG u (pX v0 G.c.toCls G.bI (Ht G) r (qe U1)) sD)
 (pk (pD pA))
 pJ)
 (pk (pD sD)))),?_⟩)
 rintro ds M Q ⟨A,V,x,rfl,bd,hk,q⟩
 unfold E8 uH at q;refine pq bd.at_ ⟨rfl,_,⟨rfl,rfl⟩,A,V,x,rfl,bd,hk,?_⟩;unfold L5;cases e:Er V x with
 | some j=>rw[e]at q;exact⟨M,.refl,q⟩
 | none=>
  rw[e]at q;refine pq bd.at_ ⟨rfl,_,⟨rfl,rfl⟩,A,V,x,rfl,bd,hk,?_⟩;unfold T9;cases e:Jr V x with
  | some j=>rw[e]at q;exact⟨M,.refl,q⟩
  | none=>rw[e]at q;exact⟨M,.refl,q⟩
def Ld:Fq P w K mg base 5 a.aY (L4 a):=by
 refine fq G.aY.toDG wg (λr u=>⟨_,(pj (pQ (pG u U2 (ya (pC v0) G.h.toCls G.bD (CN G) r))
 (pk (pD pA))
 pJ)
 (pj (pL 3 wg (pI (D3 G) r G.ac (rX v0 U1)))
 (pj (pQ (W3.b3 (wI (pG u U3 sD) (vI (vT (uI (pX v0 G.c.toCls G.T (yO G) r (qe U1)))))))
 (pk (pD pA))
 pJ)
 (pk (pD U3))))),?_⟩)
 rintro ds M Q ⟨A,V,l,x,z,rfl,rd,hx,q⟩
 obtain⟨ph,gr,ws,Yl,pr,gd,rs,i1,_⟩:=rd.pl;have p8:=rd.ok.p8;have g3:=rd.ok.g3;unfold F7 at q;refine pq rd.bd.at_ (i' rfl (pq i1 ⟨rfl,_,⟨rfl,rfl⟩,V.p,l,rfl,rd.pl,by omega,by omega,λp hp=>i' pE ⟨rfl,ql _,?_⟩⟩));have t:=qr.new (c:=.lst (l.nm.map D.str)) hp;have W9:=rd.sub t;generalize pF M p (.lst (l.nm.map D.str))=M1 at t W9 ⊢;show if (!(inD (.str z) (l.nm.map D.str)))=true then _ else _
 rw[rZ];refine qD (c:=!(hasS l.nm z)) (λg=>?_) (λg=>?_)
 .rw[df (by simpa using g)]at q;exact⟨M,t,q⟩
 rw[cZ (by simpa using g)]at q;refine⟨A,V,x,rfl,W9.bd,W9.k,?_⟩;unfold E8;cases e:uH V x with
 | some w0=>rw[e]at q;exact⟨M,t,q⟩
 | none=>
  rw[e]at q;refine pq W9.bd.at_ ⟨rfl,_,⟨rfl,rfl⟩,A,V,l,x,rfl,W9,hx,?_⟩;refine qD (c:=!(tG l V x)) (λg=>?_) (λg=>?_)
  .rw[g]at q;exact⟨M,t,q⟩
  .rw[show(!(tG l V x))=false from dH.mpr g]at q;exact⟨M,t,q⟩
def ND:Fq P w K mg base 3 a.aZ (LU a):=by
 refine fq G.aZ.toDG KN (λr u=>⟨_,(pj (pQ (pG u v0 pA)
 (pk (pD (pZ u U1 (pC (pK U2 pz)))))
 pJ)
 (pj (pQ (pG u v0 pA)
 (pk (pD (pX (pK U2 pz) G.e.toCls G.bL (MA G) r (qe U1))))
 pJ)
 (pj (pQ (pG u v0 pA)
 (pk (pD (pX (pK U2 pz) G.e.toCls G.aG (GS G) r (qe U1))))
 pJ)
 (pj (pQ (pG u v0 pA)
 (pk (pD (pZ u (pC (pK U2 pz)) U1)))
 pJ)
 (pk (pD (sF (pZ u (pC (pK U2 pz)) U1) (rY (pX (pK U2 pz) G.e.toCls G.aG (GS G) r (qe U1)))))))))),?_⟩)
 rintro ds M Q ⟨wd,x,r,L,ks,cs,rfl,lr,Zb,hw,q⟩
 cases Zb with
 | nil=>rcases hw with⟨_,h⟩|⟨_,h⟩<;>cases h
 | cons k c ks cs hc Xq=>
 obtain⟨ad,md,h1,h2,h3,h4,_⟩:=id hc;have a0:=xZ (.ref k.p) (ks.map λk:rA=>D.ref k.p);have hold:∀K:DK,K (.bl (c.hd==some x)) M->Option.elim (xx M 9 (CF c.hd) (.str x)) False λb=>K (.bl b) M:=λK hK=>by
  cases e:c.hd with
  | none=>rw[e]at hK;exact hK
  | some y=>rw[e]at hK;exact hK
 rcases hw with⟨rfl|rfl|rfl|rfl,h⟩|⟨hw,h⟩
 .exact i' lr (i' a0 (pq h1 (i' rfl (Ap h3 ⟨M,.refl,q⟩))))
 .exact i' lr (i' a0 (pq h1 ⟨rfl,_,⟨rfl,rfl⟩,L,k,c,x,rfl,hc,M,.refl,q⟩))
 .exact i' lr (i' a0 (pq h1 ⟨rfl,_,⟨rfl,rfl⟩,L,k,c,x,rfl,hc,M,.refl,q⟩))
 .exact i' lr (i' a0 (pq h1 (i' rfl (hold _ ⟨M,.refl,q⟩))))
 .cases Xq with
  | nil=>cases h
  | cons k' d ks cs hd _=>
   obtain⟨ad',md',f1,_⟩:=id hd;have a1:vC (.ref k.p::.ref k'.p::ks.map λk:rA=>D.ref k.p) 1=some (.ref k'.p):=ur (j:=1) rfl;have qq:Q (.bl ((c.hd==some x)&&d.mZ x)) M:=by
    rcases hw with rfl|rfl
    .exact q
    .exact q
   rcases hw with rfl|rfl
   all_goals
    refine i' lr (i' a0 (pq h1 (i' rfl ?_)));cases e:c.hd with
    | none=>rw[e]at qq;exact⟨M,.refl,qq⟩
    | some y=>
     rw[e]at qq;have qq:Q (.bl ((y==x)&&d.mZ x)) M:=qq;refine qD (c:=y==x) (λg=>?_) (λg=>?_)
     .rw[g,eE]at qq;exact i' lr (i' a1 (pq f1 ⟨rfl,_,⟨rfl,rfl⟩,L,k',d,x,rfl,hd,M,.refl,qq⟩))
     .rw[show(y==x)=false from dH.mpr g,eR]at qq;exact⟨M,.refl,qq⟩
def Ol:Fq P w K mg base 5 a.a0 (IL a):=by
 refine fq G.a0.toDG tU (λr u=>⟨_,(pj (pQ (vT (uI (pS (EC rfl) rfl G.bQ E4 (qe (qH rfl (xy (ix:=[none,some 0]) (N':=["number","board"])) (qF U3) (qG 0) rS (uz u pz v0 (pS qx rfl G.g qv (qe (pC U1)))))))))
 (pk (pD pA))
 pJ)
 (pj (vA (i:=4) tU.nd rfl (Or.inl rfl) rfl (xy (ix:=[none,some 0]) (N':=["number","board"])) (qF U3) (qG 0) rS (pK (pC U1) v0))
 (pj (pQ (vT (uI (pI (ND G) r G.aZ (rb U1 U2 v4))))
 (pk (pD pA))
 pJ)
 (pj (pQ (pG u U1 (pM (rX pA pA)))
 (pk (pD sD))
 pJ)
 (pj (pL 5 tU (pI (D3 G) r G.ac (rX v0 U2)))
 (pj (pQ (W3.b3 (wI (pG u v5 sD) (wI (uI (pX (pK v4 pz) G.e.toCls G.aE (GZ G) r (qe U2))) (vI (vT (uI (pX v0 G.c.toCls G.T (yO G) r (qe U2))))))))
 (pk (pD pA))
 pJ)
 (pk (pD v5)))))))),?_⟩)
 rintro ds M Q ⟨A,V,l,wd,x,ns,rfl,rd,hx,hw,q⟩
 have hz:=dN;have Zq:ns.length<=2:=by rcases hw with⟨_,h⟩|⟨_,h⟩<;>omega
 have lca:((A.cs.map λk=>D.ref k.p).length:Int)=V.calls.length:=by rw[cV,rd.bd.len]
 unfold L6 at q;refine qZ (f:=V8 V.calls.length) trivial _ [] _ (by rw[cV];simp only[dJ];omega) (λd hd k hk=>?_) λp hp=>?_
 .obtain⟨i,_,rfl⟩:=dC.mp hd;have hk:k (.bl (decide (0<=i)&&decide (i<V.calls.length))) M:=hk;refine qD (c:=decide (0<=i)) (λg=>?_) (λg=>?_)
  .rw[g,eE]at hk;refine pq rd.bd.at_ (i' rfl (i' rd.bd.ca ?_));rw[lca];exact hk
  .rw[show decide (0<=i)=false from dH.mpr g,eR]at hk;exact hk
 have em:[]++(ns.map D.int).map (V8 V.calls.length)=ns.map λi=>D.bl (zq V.calls.length i):=by rw[dZ,eh];rfl
 rw[em];have t:=qr.new (c:=.lst (ns.map λi=>D.bl (zq V.calls.length i))) hp;refine i' pE (i' (yh (zq V.calls.length) ns) ?_);have W9:=rd.sub t;generalize pF M p (.lst (ns.map λi=>D.bl (zq V.calls.length i)))=M1 at t W9 ⊢;rw[ze];refine qD (c:=!(ns.all (zq V.calls.length))) (λg=>?_) (λXh=>?_)
 .rw[df (by simpa using g)]at q;exact⟨M,t,q⟩
 have Xh:ns.all (zq V.calls.length)=true:=by simpa using Xh
 rw[cZ (by rw[Xh];exact Bool.noConfusion)]at q;obtain⟨ks,hks,eks,lcs,YG⟩:=QH W9.bd Xh;refine qZ (f:=Wd A) trivial _ [] _ (by rw[cV];simp only[dJ];omega) (λd hd k0 hk=>?_) λp2 WP=>?_
 .obtain⟨i,hi,rfl⟩:=dC.mp hd;obtain⟨k,i0,e1⟩:=YG i hi;obtain⟨n,rfl⟩:=eC i0;have e1:A.cs[n]?=some k:=e1;have hk:k0 ((A.cs[n]?).elim .mS λk=>.ref k.p) M1:=hk;rw[e1]at hk;exact pq W9.bd.at_ (i' rfl (i' rfl (i' W9.bd.ca (i' (rj e1) hk))))
 rw[dZ,eks];have t2:=qr.new (c:=.lst (ks.map λk:rA=>D.ref k.p)) WP;have l2:=@pE M1 p2 (ks.map λk:rA=>D.ref k.p);have YO:=W9.sub t2;have s2:=t.trans t2;generalize pF M1 p2 (.lst (ks.map λk:rA=>D.ref k.p))=M2 at l2 YO s2 t2 ⊢;have hks:=hks.sub t2;generalize tR V ns=cs at hks lcs q;refine⟨wd,x,p2,_,ks,cs,rfl,l2,hks,by rw[lcs];exact hw,?_⟩;refine qD (c:=!Iz wd x cs) (λg=>?_) (λg=>?_)
 .rw[df (by simpa using g)]at q;exact⟨M,s2,q⟩
 rw[cZ (by simpa using g)]at q;have two:∀wd:Str,(wd=="answer"||wd=="back")=true->Q (CF (if ((uH V x).isNone&&(cs.head?.elim false (λc=>c.mR x)&&!(tG l V x)))=true then some "full" else uH V x)) M->cs.length=1->DJ a [.ref A.b,.str x] M2 λdue M3=>uD (Nc (Pc (b3 (k3 .Is (v3 5) (c3 .mS))) (Pc (b3 (AB "waits_with" (λD s=>D=a.e/\s=vJ a) (i3 (v3 4) (c3 (.int 0))) (sf (v3 2) uT))) (Se (b3 (AB "is_free" (λD s=>D=a.c/\s=xj a) (v3 0) (sf (v3 2) uT)))))) (O8 (c3 (.str "full"))) UN) (O8 (v3 5)) {nx:=λ_ M'=>∃WL,qr WL M'/\Q .mS WL,rt:=λd M'=>∃WL,qr WL M'/\Q d WL} [some (.ref A.b),some (.str wd),some (.str x),some (.tup (ns.map D.int)),some (.ref p2),some due] M3:=λwd _ q hl=>by
  cases hks with
  | nil=>cases hl
  | cons k c ks cs hc _=>
  have q:Q (CF (if ((uH V x).isNone&&(c.mR x&&!(tG l V x)))=true then some "full" else uH V x)) M:=q;obtain⟨ad,md,h1,_⟩:=id hc;refine⟨A,V,x,rfl,YO.bd,YO.k,?_⟩;unfold E8;cases e:uH V x with
  | some w0=>rw[e]at q;exact⟨M,s2,q⟩
  | none=>
   rw[e]at q;refine i' l2 (i' (xZ _ _) (pq h1 ⟨rfl,_,⟨rfl,rfl⟩,_,k,c,x,rfl,hc,?_⟩));refine qD (c:=c.mR x) (λg1=>?_) (λg1=>?_)
   .rw[g1]at q;refine pq YO.bd.at_ ⟨rfl,_,⟨rfl,rfl⟩,A,V,l,x,rfl,YO,hx,?_⟩;refine qD (c:=!(tG l V x)) (λg=>?_) (λg=>?_)
    .rw[g]at q;exact⟨M,s2,q⟩
    .rw[show(!(tG l V x))=false from dH.mpr g]at q;exact⟨M,s2,q⟩
   .rw[show c.mR x=false from dH.mpr g1]at q;exact⟨M,s2,q⟩
 rcases hw with⟨rfl|rfl|rfl|rfl,h⟩|⟨rfl|rfl,h⟩
 .exact⟨pb rfl,rfl,rfl,two "answer" rfl q (lcs.trans h)⟩
 .exact⟨pb rfl,rfl,rfl,M,s2,q⟩
 .exact⟨pb rfl,rfl,rfl,M,s2,q⟩
 .exact⟨pb rfl,rfl,rfl,two "back" rfl q (lcs.trans h)⟩
 .exact⟨pb rfl,rfl,rfl,M,s2,q⟩
 .exact⟨pb rfl,rfl,rfl,M,s2,q⟩
def R8:Fq P w K mg base 1 a.a1 (RW a):=by
 refine fq G.a1.toDG yG (λr u=>⟨_,(pj (pQ (vT (Gv u pz U2 (pS qx rfl G.g qv (qe (pC v0)))))
 (pk (pD pA))
 pJ)
 (pj (pQ (pG u (pK (pC v0) U2) (pZ u U1 pA))
 (pk (pD pA))
 pJ)
 (pk (pD sD)))),?_⟩)
 rintro ds M Q ⟨A,V,b,i,rfl,bd,q⟩
 unfold PP at q;have YG:zq V.on.length i=(decide (0<=i)&&decide (i<V.on.length)):=rfl;have lon:((V.on.map D.bl).length:Int)=V.on.length:=by rw[cV]
 have no:zq V.on.length i=false->Q (.str "wish") M:=λh=>by rw[df h]at q;exact q
 have yes:zq V.on.length i=true->Q (CF (if (V.on.getD i.toNat false==b)=true then some "wish" else none)) M:=λh=>by rw[h,cZ Bool.noConfusion]at q;exact q
 refine qD (c:=decide (0<=i)) (λg0=>?_) (λg0=>⟨M,.refl,no (by rw[YG,show decide (0<=i)=false from dH.mpr g0];rfl)⟩);refine pq bd.at_ (i' rfl (i' bd.on ?_));rw[lon];refine qD (c:=!(decide (i<(V.on.length:Int)))) (λg1=>⟨M,.refl,no (by rw[YG,g0,show decide (i<(V.on.length:Int))=false by simpa using g1];rfl)⟩) (λg1=>?_);have h:zq V.on.length i=true:=by rw[YG,g0,show decide (i<(V.on.length:Int))=true by simpa using g1];rfl
 have q:=yes h;refine pq bd.at_ (i' rfl (i' rfl (i' bd.on (i' (RB h) ?_))));have es:(UC b=="on")=b:=by cases b<;>rfl
 show if (V.on.getD i.toNat false==(UC b=="on"))=true then _ else _
 rw[es];refine qD (λg=>?_) (λg=>?_)
 .rw[df g]at q;exact⟨M,.refl,q⟩
 .rw[cZ g]at q;exact⟨M,.refl,q⟩
def Ij:Fq P w K mg base 6 a.a2 (H9 a):=by
 refine fq G.a2.toDG BX (λr u=>⟨_,(pj (pL 2 BX (pK U1 pz))
 (pj (pQ (pG u U2 pA)
 (pk (pD sD))
 pJ)
 (pj (pQ (pG u U2 (pM (rX pA pA)))
 (pk (pD (pI (R8 G) r G.a1 (rb v0 U2 (pK U1 pz)))))
 pJ)
 (pj (pQ (pG u (pK U1 pz) (ya (pC v0) G.h.toCls G.S (tW G) r))
 (pk (pD pA))
 pJ)
 (pj (pQ (pG u U2 pA)
 (pk (pD (pI (Ld G) r G.aY (rb v0 (pK U1 pz) (pK U1 pz)))))
 pJ)
 (pk (pD (pI (Ol G) r G.a0 (pV v0 (rb U2 (pK U1 pz) (rW U1 (sS pz) sT))))))))))),?_⟩)
 rintro ds M Q ⟨A,V,l,e,rfl,rd,hf,q⟩
 obtain⟨ph,gr,ws,Yl,pr,gd,rs,i1,_⟩:=rd.pl;have p8:=rd.ok.p8;cases e with
 | turn=>exact⟨M,.refl,q⟩
 | sw b i=>
  cases b with
  | true=>exact⟨pb rfl,rfl,rfl,A,V,true,i,rfl,rd.bd,M,.refl,q⟩
  | false=>exact⟨pb rfl,rfl,rfl,A,V,false,i,rfl,rd.bd,M,.refl,q⟩
 | call x z=>
  have q:Q (CF (if hasS l.pn x=false then some "name" else F7 l V x z)) M:=q;refine⟨pb rfl,rfl,rfl,?_⟩;refine pq rd.bd.at_ (i' rfl (pq i1 ⟨rfl,_,⟨rfl,rfl⟩,V.p,l,rfl,rd.pl,by omega,λp WP=>i' pE ⟨rfl,ql _,?_⟩⟩));have t:=qr.new (c:=.lst (l.pn.map D.str)) WP;have W9:=rd.sub t;generalize pF M p (.lst (l.pn.map D.str))=M1 at t W9 ⊢;show if (!(inD (.str x) (l.pn.map D.str)))=true then _ else _
  rw[rZ];refine qD (c:=!(hasS l.pn x)) (λg=>?_) (λg=>?_)
  .rw[df (by simpa using g)]at q;exact⟨M,t,q⟩
  .have g:hasS l.pn x=true:=by simpa using g
   rw[g,cZ Bool.noConfusion]at q;exact⟨A,V,l,x,z,rfl,W9,qw.mp g,M,t,q⟩
 | num wd x ns=>
  have q:Q (CF (if hasS l.pn x=false then some "name" else L6 l V wd x ns)) M:=q;have hf:uo.nf wd ns.length:=hf;have key:∀(M1:Mp),qr M M1->if (!(inD (.str x) (l.pn.map D.str)))=true then(∃WL,qr WL M1/\Q (.str "name") WL)else IL a [.ref A.b,.str wd,.str x,.tup (ns.map D.int)] M1 λd M'=>∃WL,qr WL M'/\Q d WL:=λM1 t=>by
   rw[rZ];refine qD (c:=!(hasS l.pn x)) (λg=>?_) (λg=>?_)
   .rw[df (by simpa using g)]at q;exact⟨M,t,q⟩
   .have g:hasS l.pn x=true:=by simpa using g
    rw[g,cZ Bool.noConfusion]at q;exact⟨A,V,l,wd,x,ns,rfl,rd.sub t,qw.mp g,hf,M,t,q⟩
  have one:ns.length=1->∃i,ns=[i]:=List.length_eq_one_iff.mp;have two:ns.length=2->∃i j,ns=[i,j]:=λh=>by
   match ns,h with
   | [i,j],_=>exact⟨i,j,rfl⟩
  rcases id hf with⟨rfl|rfl|rfl|rfl,h⟩|⟨rfl|rfl,h⟩
  .obtain⟨i,rfl⟩:=one h;exact⟨pb rfl,rfl,rfl,pq rd.bd.at_ (i' rfl (pq i1 ⟨rfl,_,⟨rfl,rfl⟩,V.p,l,rfl,rd.pl,by omega,λp WP=>i' pE ⟨rfl,ql _,key _ (.new WP)⟩⟩))⟩
  .obtain⟨i,rfl⟩:=one h;exact⟨pb rfl,rfl,rfl,pq rd.bd.at_ (i' rfl (pq i1 ⟨rfl,_,⟨rfl,rfl⟩,V.p,l,rfl,rd.pl,by omega,λp WP=>i' pE ⟨rfl,ql _,key _ (.new WP)⟩⟩))⟩
  .obtain⟨i,rfl⟩:=one h;exact⟨pb rfl,rfl,rfl,pq rd.bd.at_ (i' rfl (pq i1 ⟨rfl,_,⟨rfl,rfl⟩,V.p,l,rfl,rd.pl,by omega,λp WP=>i' pE ⟨rfl,ql _,key _ (.new WP)⟩⟩))⟩
  .obtain⟨i,rfl⟩:=one h;exact⟨pb rfl,rfl,rfl,pq rd.bd.at_ (i' rfl (pq i1 ⟨rfl,_,⟨rfl,rfl⟩,V.p,l,rfl,rd.pl,by omega,λp WP=>i' pE ⟨rfl,ql _,key _ (.new WP)⟩⟩))⟩
  .obtain⟨i,j,rfl⟩:=two h;exact⟨pb rfl,rfl,rfl,pq rd.bd.at_ (i' rfl (pq i1 ⟨rfl,_,⟨rfl,rfl⟩,V.p,l,rfl,rd.pl,by omega,λp WP=>i' pE ⟨rfl,ql _,key _ (.new WP)⟩⟩))⟩
  .obtain⟨i,j,rfl⟩:=two h;exact⟨pb rfl,rfl,rfl,pq rd.bd.at_ (i' rfl (pq i1 ⟨rfl,_,⟨rfl,rfl⟩,V.p,l,rfl,rd.pl,by omega,λp WP=>i' pE ⟨rfl,ql _,key _ (.new WP)⟩⟩))⟩
def Df(V:qB)(x:Str):Prop:=∀c∈V.calls,¬Be c x
def EE{V:qB}{x:Str}(h:uH V x=none):Df V x:=by
 unfold uH at h;cases e1:Er V x with
 | some j=>rw[e1]at h;cases h
 | none=>
  cases e2:Jr V x with
  | some j=>rw[e1,e2]at h;cases h
  | none=>
   intro c hc g;have h1:=jy.mp e1 c hc;have h2:=jy.mp e2 c hc;rcases g with g|g
   .rw[h1]at g;cases g
   .rw[h2]at g;cases g
def sL{c:pB}(h:c.st="rings"){x:Str}:Be c x↔x=c.cr:=by unfold Be pB.nq pB.mW pB.mX;rw[h];simp(decide:=true)
def DY{c:pB}(h:c.st="waits"){x:Str}:Be c x↔x=c.cr:=by unfold Be pB.nq pB.mW pB.mX;rw[h];simp(decide:=true)
def tQ{c:pB}(h:c.st="talks"){x:Str}:Be c x↔x∈c.ms:=by unfold Be pB.nq pB.mW pB.mX;rw[h,<-qw];simp(decide:=true)
def B8{c:pB}(h:c.st="held"){x:Str}:Be c x↔x∈c.ms/\c.hd≠some x:=by unfold Be pB.nq pB.mW;rw[h,<-qw];simp(decide:=true)
def GO{c:pB}(h:c.st="over"){x:Str}:¬Be c x:=by unfold Be pB.nq pB.mW pB.mX;rw[h];simp(decide:=true)
def sN{c:pB}(h:c.st="rings"){x:Str}:c.hasB x=true↔x=c.cr\/x∈c.at_:=by unfold pB.hasB;rw[h,<-qw];simp(decide:=true)
def DV{c:pB}(h:c.st="waits"){x:Str}:c.hasB x=true↔x=c.cr:=by unfold pB.hasB;rw[h];simp(decide:=true)
def sW{c:pB}(h:c.st="talks"\/c.st="held"){x:Str}:c.hasB x=true↔x∈c.ms:=by unfold pB.hasB;rw[<-qw];rcases h with h|h<;>(rw[h];simp(decide:=true))
def Ga{c:pB}(h:c.st="over"){x:Str}:c.hasB x=false:=by unfold pB.hasB;rw[h];simp(decide:=true)
def sj{c:pB}{x:Str}:c.mR x=true↔c.st="waits"/\x∈c.at_:=by unfold pB.mR;rw[dU,fj,qw]
theorem Eu{α:Type}(f:α->Bool):∀{l:List α} {i:Nat} {c:α} (c':α),l[i]?=some c->((l.set i c').filter f).length+(if f c=true then 1 else 0)=(l.filter f).length+(if f c'=true then 1 else 0)
 | [],_,_,_,h=>by simp at h
 | x::r,0,c,c',h=>by cases h;rw[List.set_cons_zero,gN,gN];split<;>split<;>simp
 | x::r,i+1,c,c',h=>by
  have ih:=Eu f (l:=r) (i:=i) (c:=c) c' (by simpa using h);rw[lb,gN,gN];split
  .rw[d9,d9];omega
  .exact ih
def zK.set{l:pH}{V V':qB}{o o':Option Nat}{i:Nat}{c c':pB}(h:zK l V o)(e:V'.calls=V.calls.set i c')(hc:V.calls[i]?=some c)(ho:∀j,j≠i->(o==some j)=(o'==some j))(ok:vS l (o'==some i) c')(he:∀x,Be c' x->Be c x\/Df V x)(hu:∀x,c'.hasB x=true->c.hasB x=true\/(uq V x:Int)<wJ l x)(hw:∀x,c'.mR x=true->c.mR x=true\/wn V x=false)(nx:uy l V'):zK l V' o':=by
 have si:∀{j:Nat} {d:pB},V'.calls[j]?=some d->(j=i/\d=c')\/(j≠i/\V.calls[j]?=some d):=λ{j d} g=>by rw[e]at g;exact(Ep g).imp (λg=>⟨g.1,g.2.1⟩) id
 have key:∀(j:Nat) cj x,j≠i->V.calls[j]?=some cj->Be c' x->Be cj x->False:=λj cj x hj e1 g1 g2=>by
  rcases he x g1 with z|z
  .exact hj (h.un j i cj c x e1 hc g2 z)
  .exact z cj (qS e1) g2
 have keyw:∀(j:Nat) cj x,j≠i->V.calls[j]?=some cj->c'.mR x=true->cj.mR x=true->False:=λj cj x hj e1 g1 g2=>by
  rcases hw x g1 with z|z
  .exact hj (h.wt j i cj c x e1 hc g2 z)
  .unfold wn at z;exact absurd g2 (by rw[lj.mp z cj (qS e1)|>dH.mpr];exact Bool.noConfusion)
 refine⟨λj d g=>?_,λm n cm cn x e1 e2 g1 g2=>?_,λx hx=>?_,λm n cm cn x e1 e2 g1 g2=>?_,nx⟩
 .rcases si g with⟨rfl,rfl⟩|⟨hj,g⟩
  .exact ok
  .rw[<-ho j hj];exact h.ok j d g
 .rcases si e1 with⟨rfl,rfl⟩|⟨hm,e1⟩<;>rcases si e2 with⟨rfl,rfl⟩|⟨hn,e2⟩
  .rfl
  .exact(key n cn x hn e2 g1 g2).elim
  .exact(key m cm x hm e1 g2 g1).elim
  .exact h.un m n cm cn x e1 e2 g1 g2
 .have cs:=Eu (λk:pB=>k.hasB x) c' hc;have hl:=h.ln x hx;unfold uq at hl ⊢;rw[e];by_cases g:c'.hasB x=true
  .rw[df g]at cs;rcases hu x g with z|z
   .rw[df z]at cs;omega
   .unfold uq at z;omega
  .rw[cZ g]at cs;omega
 .rcases si e1 with⟨rfl,rfl⟩|⟨hm,e1⟩<;>rcases si e2 with⟨rfl,rfl⟩|⟨hn,e2⟩
  .rfl
  .exact(keyw n cn x hn e2 g1 g2).elim
  .exact(keyw m cm x hm e1 g2 g1).elim
  .exact h.wt m n cm cn x e1 e2 g1 g2
def zK.add{l:pH}{V V':qB}{c':pB}(h:WF l V)(e:V'.calls=V.calls++[c'])(ok:vS l true c')(he:∀x,Be c' x->Df V x)(hu:∀x,c'.hasB x=true->(uq V x:Int)<wJ l x)(hw:∀x,c'.mR x=false)(nx:uy l V'):zK l V' (some V.calls.length):=by
 have si:∀{j:Nat} {d:pB},V'.calls[j]?=some d->(j=V.calls.length/\d=c')\/(j≠V.calls.length/\V.calls[j]?=some d):=λ{j d} g=>by
  rw[e]at g;by_cases z:j<V.calls.length
  .rw[e9 z]at g;exact .inr ⟨by omega,g⟩
  .have:=(c9.mp g).1;rw[cY,dO]at this;have z:j=V.calls.length:=by omega
   subst z;rw[eV (dv _)]at g;simp only[h9,iE,jq]at g;exact .inl ⟨rfl,g.symm⟩
 refine⟨λj d g=>?_,λm n cm cn x e1 e2 g1 g2=>?_,λx hx=>?_,λm n cm cn x e1 e2 g1 g2=>?_,nx⟩
 .rcases si g with⟨rfl,rfl⟩|⟨hj,g⟩
  .rw[fh];exact ok
  .rw[show(some V.calls.length==some j)=false by simpa using dP hj];exact h.ok j d g
 .rcases si e1 with⟨rfl,rfl⟩|⟨hm,e1⟩<;>rcases si e2 with⟨rfl,rfl⟩|⟨hn,e2⟩
  .rfl
  .exact(he x g1 cn (qS e2) g2).elim
  .exact(he x g2 cm (qS e1) g1).elim
  .exact h.un m n cm cn x e1 e2 g1 g2
 .have hl:=h.ln x hx;unfold uq at hl ⊢;rw[e,iB,cY,gN];split
  .rename_i g;have:=hu x g;unfold uq at this;simp only[iU,dO];omega
  .simp only[iU,dJ];omega
 .rcases si e1 with⟨rfl,rfl⟩|⟨hm,e1⟩<;>rcases si e2 with⟨rfl,rfl⟩|⟨hn,e2⟩
  .rfl
  .rw[hw x]at g1;cases g1
  .rw[hw x]at g2;cases g2
  .exact h.wt m n cm cn x e1 e2 g1 g2
noncomputable def pB.core(c:pB):pB:={c with way:=[],si:=0}
def zF(V V':qB):Prop:=V'.calls.map pB.core=V.calls.map pB.core
def zF.at_{V V':qB}(h:zF V V'){i:Nat}{c':pB}(e:V'.calls[i]?=some c'):∃c,V.calls[i]?=some c/\c'.core=c.core:=by
 have:=eX (·[i]?) h;simp only[dD,e]at this;cases e':V.calls[i]? with
 | none=>rw[e']at this;cases this
 | some c=>rw[e']at this;exact⟨c,rfl,dh this⟩
def zF.used{V V':qB}(h:zF V V')(x:Str):uq V' x=uq V x:=by
 have key:∀cs:List pB,(cs.filter (·.hasB x)).length=((cs.map pB.core).filter (·.hasB x)).length:=λcs=>by rw[gX,cV];rfl
 unfold uq;rw[key,h,<-key]
def zF.wf{l:pH}{V V':qB}{o:Option Nat}(h:zF V V')(wf:zK l V o)(hw:∀(i:Nat) c',V'.calls[i]?=some c'->c'.way≠[]/\∀z∈c'.way,z∈l.nm)(nx:uy l V'):zK l V' o:=by
 refine⟨λi c' e=>?_,λi j ci cj x e1 e2 g1 g2=>?_,λx hx=>by rw[h.used];exact wf.ln x hx,λi j ci cj x e1 e2 g1 g2=>?_,nx⟩
 .obtain⟨c,ec,ee⟩:=h.at_ e;have k:=wf.ok i c ec;have k1:c'.at_=c.at_:=show c'.core.at_=c.core.at_ by rw[ee]
  have k2:c'.ms=c.ms:=show c'.core.ms=c.core.ms by rw[ee]
  have k3:c'.cr=c.cr:=show c'.core.cr=c.core.cr by rw[ee]
  exact⟨by show Mb _ c'.core;rw[ee];exact k.sh,by rw[k3];exact k.cr,by rw[k1];exact k.at_,by rw[k2];exact k.ms,by rw[k1];exact k.an,by rw[k2];exact k.mn,by rw[k1,k3];exact k.ca,hw i c' e⟩
 .obtain⟨di,a1,a2⟩:=h.at_ e1;obtain⟨dj,b1,b2⟩:=h.at_ e2;exact wf.un i j di dj x a1 b1 (by show Be di.core x;rw[<-a2];exact g1) (by show Be dj.core x;rw[<-b2];exact g2)
 .obtain⟨di,a1,a2⟩:=h.at_ e1;obtain⟨dj,b1,b2⟩:=h.at_ e2;exact wf.wt i j di dj x a1 b1 (by show di.core.mR x=true;rw[<-a2];exact g1) (by show dj.core.mR x=true;rw[<-b2];exact g2)
def tS.core{V V':qB}(h:tS V V'):zF V V':=by have:=eX (List.map pB.core) h;rw[eh,eh]at this;exact this
def Kw(V:qB):zF V (qg V .turn):=by show(V.calls.map pB.tick).map pB.core=V.calls.map pB.core;rw[eh];refine gw λc _=>?_;show(pB.tick c).core=c.core;unfold pB.tick;split<;>rfl
def E7{l:pH}{V:qB}(wf:WF l V):WF l (qg V .turn):=(Kw V).wf wf (λi c' e=>by
 have e:(V.calls.map pB.tick)[i]?=some c':=e;rw[dD]at e;cases q:V.calls[i]? with
 | none=>rw[q]at e;cases e
 | some c=>
  rw[q]at e;have e:c.tick=c':=dh e;have hw:c.tick.way=c.way:=by unfold pB.tick;split<;>rfl
  rw[<-e,hw];exact(wf.ok i c q).wy) wf.nx
def Ux{l:pH}{V:qB}{b:Bool}{i:Nat}(wf:WF l V):WF l (qg V (.sw b i)):=⟨wf.ok,wf.un,wf.ln,wf.wt,wf.nx⟩
def Fv{l:pH}{V:qB}{o:Option Nat}{i:Nat}{z:Str}{ns:List Nat}(wf:zK l V o):zK l (qg V (.asks i z ns)) o:=⟨wf.ok,wf.un,wf.ln,wf.wt,wf.nx⟩
def HQ{l:pH}{V:qB}{o:Option Nat}{v:se}(wf:zK l V o)(hz:v.g∈l.nm):zK l (qg V (.leg v)) o:=(zi V v).core.wf wf (λi c' e=>by
 have e:(V.calls.modify v.i (·.go v.g))[i]?=some c':=e;rw[iX]at e;cases q:V.calls[i]? with
 | none=>rw[q]at e;cases e
 | some c=>
  rw[q]at e;have k:=(wf.ok i c q).wy;have e:(if v.i=i then c.go v.g else c)=c':=dh e;by_cases g:v.i=i
  .rw[df g]at e;rw[<-e];refine⟨by show c.way++[v.g]≠[];simp,λz hz'=>?_⟩;rcases dY.mp (show z∈c.way++[v.g]from hz')with y|y
   .exact k.2 z y
   .rw[dz.mp y];exact hz
  .rw[cZ g]at e;rw[<-show c=c' from e];exact k) wf.nx
theorem BV{l:pH}{o:Option Nat}(i:Nat):∀(st:tL) (q:Option Str) {V:qB},zK l V o->(∀s∈st,s.1∈l.nm)->zK l (qI V (rG i q st)) o
 | [],_,V,wf,_=>wf
 | (y,gs)::r,none,V,wf,h=>BV i r (some y) (Fv wf) λs hs=>h s (dE _ hs)
 | (y,gs)::r,some u,V,wf,h=>BV i r (some y) (Fv (HQ wf (h _ dG))) λs hs=>h s (dE _ hs)
def rB{V:qB}{i:Nat}{c:pB}{f:pB->pB}(h:V.calls[i]?=some c):(xJ V i f).calls=V.calls.set i (f c):=by unfold xJ;rw[tO h]
def Bh{i:Nat}:∀j,j≠i->((some i:Option Nat)==some j)=((none:Option Nat)==some j):=λj hj=>by rw[show((some i:Option Nat)==some j)=false by simpa using dP hj];rfl
def Ve{l:pH}{V:qB}{i:Nat}{c:pB}(wf:zK l V (some i))(hc:V.calls[i]?=some c):c.st="rings"/\c.ms=[]/\c.hd=none/\c.wd=none/\c.at_=[]:=by
 have sh:=(wf.ok i c hc).sh;rw[fh]at sh;rcases sh with g|g
 .exact⟨g.1,g.2.1,g.2.2.1,g.2.2.2.1,g.2.2.2.2.1 rfl⟩
 .cases g.1
def OZ{l:pH}{c:pB}{o:Bool}{w:Str}(k:vS l o c)(hw:w∈Lj):vS l false (c.over w):=⟨.inr ⟨rfl,.inr (.inr (.inr ⟨rfl,rfl,rfl,rfl,w,hw,rfl⟩))⟩,k.cr,(λx hx=>by cases hx),(λx hx=>by cases hx),eJ,eJ,(λhx=>by cases hx),k.wy⟩
def wH{l:pH}{V V':qB}{o:Option Nat}{i:Nat}{c:pB}{w:Str}(wf:zK l V o)(hc:V.calls[i]?=some c)(ho:o=none\/o=some i)(hw:w∈Lj)(e:V'.calls=V.calls.set i (c.over w))(nx:uy l V'):WF l V':=
 wf.set e hc (λj hj=>by rcases ho with rfl|rfl;rfl;exact Bh j hj) (OZ (wf.ok i c hc) hw) (λx g=>(GO rfl g).elim) (λx g=>by rw[Ga (c:=c.over w) rfl]at g;cases g) (λx g=>by have:=(sj.mp g).1;exact absurd this (show("over":Str)≠"waits" by decide)) nx
def HW{l:pH}{V:qB}{c z:Str}(h:(l.mK z).Nodup):(xE l V c z).Nodup:=by
 unfold xE;split
 .cases(vb (l.mK z) (zD V z)).filter λx=>hasS (sU l V c z) x with
  | nil=>exact eJ
  | cons y r=>exact dQ.mpr ⟨dF,eJ⟩
 .exact h.sublist gf
def K2(ps:List (Str×Int))(z:Str)(n:Int)(y:Str):(Cj ps z n).find? (λp=>decide (p.1=y))=if y=z then some (z,n)else ps.find? λp=>decide (p.1=y):=by
 unfold Cj;by_cases h:ps.any (λp=>decide (p.1=z))=true
 .rw[df h];induction ps with
  | nil=>cases h
  | cons p r ih=>
   rw[dX,fM,fM];by_cases hp:p.1=z
   .rw[df hp];by_cases hy:y=z
    .rw[df hy,hy];simp[hp]
    .rw[cZ hy];have n1:decide (p.1=y)=false:=eN (λq=>hy (q.symm.trans hp));simp only[n1];by_cases hr:r.any (λp=>decide (p.1=z))=true
     .have:=ih hr;rw[cZ hy]at this;exact this
     .have hr:∀q∈r,¬q.1=z:=λq hq g=>hr (gz.mpr ⟨q,hq,dW g⟩);rw[show r.map (λp=>if p.1=z then(p.1,n)else p)=r from(gw λq hq=>cZ (hr q hq)).trans (je _)]
   .rw[cZ hp];have hr:r.any (λp=>decide (p.1=z))=true:=by
     rw[fW,gW]at h;rcases h with g|g
     .exact absurd (fK g) hp
     .exact g
    have ih:=ih hr;by_cases hy:y=z
    .rw[df hy]at ih ⊢;have n1:decide (p.1=y)=false:=eN (λq=>hp (q.trans hy));simp only[n1];exact ih
    .rw[cZ hy]at ih ⊢;cases decide (p.1=y)with
     | true=>rfl
     | false=>exact ih
 .rw[cZ h,lC];have hr:∀q∈ps,¬q.1=z:=λq hq g=>h (gz.mpr ⟨q,hq,dW g⟩);by_cases hy:y=z
  .subst hy;rw[df rfl,gC.mpr λq hq=>by simpa using hr q hq,Option.none_or];simp
  .rw[cZ hy,fM,eN (λq:z=y=>hy q.symm)];simp
def KP{l:pH}{V:qB}{z:Str}{n:Int}(h:uy l V)(h0:0<=n)(h1:n<=((l.mK z).length:Int)):uy l (qg V (.next z n)):=λy hy ht=>by
 show ∃v,(Cj V.ps z n).find? _=some v/\_;rw[K2];by_cases e:y=z
 .subst e;rw[df rfl];exact⟨_,rfl,h0,h1⟩
 .rw[cZ e];exact h y hy ht
def Ej{l:pH}{V:qB}{x:Str}(h:tG l V x=true):(uq V x:Int)<wJ l x:=fK h
def Kq{l:pH}{V V':qB}{o:Option Nat}{i:Nat}{c:pB}{w x:Str}(wf:zK l V o)(hc:V.calls[i]?=some c)(e:V'.calls=V.calls.set i (c.over w))(hx:Be c x):Df V' x:=λd hd g=>by
 rw[e]at hd;obtain⟨j,hj,ed⟩:=fS hd;have ej:(V.calls.set i (c.over w))[j]?=some d:=by rw[cX hj,ed]
 rcases Ep ej with⟨_,rfl,_⟩|⟨W8,ej⟩
 .exact GO rfl g
 .exact W8 (wf.un j i d c x ej hc g hx)
def JL{V V':qB}{i:Nat}{c:pB}{w x:Str}(hc:V.calls[i]?=some c)(e:V'.calls=V.calls.set i (c.over w))(hx:c.hasB x=true):uq V' x+1=uq V x:=by
 have:=Eu (λk:pB=>k.hasB x) (c.over w) hc;unfold uq;rw[e];simp only[hx,jb,Ga (c:=c.over w) rfl]at this
 simpa using this
def Ge{l:pH}{V V':qB}{o:Option Nat}{i j:Nat}{c d:pB}{ms:QQQ}(wf:zK l V o)(ho:o=none\/o=some i)(hc:V.calls[i]?=some c)(hd:V.calls[j]?=some d)(XD:i≠j)(e:V'.calls=(V.calls.set i (c.over "merged")).set j (d.mem ms))(nx:uy l V')(dt:d.st="talks")(m1:ms.Nodup)(m2:ms.length=2\/ms.length=3)(m3:∀x∈ms,x∈d.ms\/(Be c x/\c.hasB x=true))(m4:∀x∈ms,x∈l.pn):WF l V':=by
 have e1:(xJ V i (·.over "merged")).calls=V.calls.set i (c.over "merged"):=rB hc;have w1:WF l (xJ V i (·.over "merged")):=wH wf hc ho (by decide) e1 wf.nx;have hd1:(xJ V i (·.over "merged")).calls[j]?=some d:=by rw[e1,fG XD];exact hd
 have kd:=w1.ok j d hd1;have kd':d.hd=none/\d.wd=none/\d.at_=[]:=by
  rcases kd.sh with g|⟨_,g|g|⟨_,g⟩|g⟩
  .rw[dt]at g;exact absurd g.1 (by decide)
  .rw[dt]at g;exact absurd g.1 (by decide)
  .exact⟨g.2.2.1,g.2.2.2.1,g.2.2.2.2⟩
  .rw[dt]at g;exact absurd g.1 (by decide)
  .rw[dt]at g;exact absurd g.1 (by decide)
 refine w1.set (c':=d.mem ms) (by rw[e,e1]) hd1 (λ_ _=>rfl) ⟨.inr ⟨rfl,.inr (.inl ⟨dt,m2,kd'.1,kd'.2.1,kd'.2.2⟩)⟩,kd.cr,kd.at_,m4,kd.an,m1,kd.ca,kd.wy⟩ (λx g=>?_) (λx g=>?_) (λx g=>?_) nx
 .have g:=(tQ (c:=d.mem ms) dt).mp g;rcases m3 x g with y|y
  .exact .inl ((tQ dt).mpr y)
  .exact .inr (Kq wf hc e1 y.1)
 .have g:=(sW (c:=d.mem ms) (.inl dt)).mp g;rcases m3 x g with y|y
  .exact .inl ((sW (.inl dt)).mpr y)
  .have:=JL hc e1 y.2;have:=wf.ln x (m4 x g);exact .inr (by omega)
 .have:=(sj.mp g).1;rw[show(d.mem ms).st="talks" from dt]at this;exact absurd this (by decide)
def RS{l:pH}{V V1:qB}{i:Nat}{c:pB}{e:wc}(ok:rL l)(wf:zK l V1 (some i))(same:zF V V1)(hc:V1.calls[i]?=some c)(he:GY l V c.cr e):WF l (qI V1 (tK l V1 i e)):=by
 obtain⟨p1,p2,p3,p4,p5⟩:=Ve wf hc;have k:=wf.ok i c hc;have hi:=(c9.mp hc).1;cases e with
 | rings z ps=>
  obtain⟨hz,W8,rfl⟩:=he;obtain⟨⟨q1,q2,q3,q4⟩,_⟩:=ok.of hz;obtain⟨r1,r2⟩:=FU (l:=l) (V:=V) (c:=c.cr) (z:=z);generalize hps:xE l V c.cr z=ps at W8 r1 r2;have WM:∀V2:qB,V2.calls=V1.calls->uy l V2->WF l (qg V2 (.rings i ps)):=λV2 e2 nx=>by
   have e3:(qg V2 (.rings i ps)).calls=V1.calls.set i (c.ring ps):=by show(xJ (qN V2 _) i _).calls=_;rw[rB (c:=c) (by show V2.calls[i]?=_;rw[e2];exact hc)];show V2.calls.set i _=_;rw[e2]
   have free:∀x∈ps,tG l V x=true/\x≠c.cr:=λx hx=>by have h:=(eO.mp (r1 x hx).1).2;simp only[dU,gI]at h;exact⟨h.2,by simpa using h.1⟩
   refine wf.set e3 hc Bh ⟨.inl ⟨rfl,p2,p3,p4,(λh=>by cases h),λ_=>W8⟩,k.cr,λx hx=>q4 x (r1 x hx).2,k.ms,by rw[<-hps];exact HW q3,k.mn,λhx=>(free _ hx).2 rfl,k.wy⟩ (λx g=>?_) (λx g=>?_) (λx g=>?_) nx
   .exact .inl ((sL p1).mpr ((sL (c:=c.ring ps) rfl).mp g))
   .rcases(sN (c:=c.ring ps) rfl).mp g with y|y
    .exact .inl ((sN p1).mpr (.inl y))
    .refine .inr ?_;rw[same.used];exact Ej (free x y).1
   .exact absurd (sj.mp g).1 (show("rings":Str)≠"waits" by decide)
  show WF l (qI V1 ((if (l.mU z=="turns")=true then _ else _)++[.rings i ps]));rw[rF];by_cases ht:(l.mU z=="turns")=true
  .rw[df ht];have lp:0<(l.mK z).length:=fC.mpr q1;refine WM _ rfl (KP wf.nx (eP _ (by omega)) (Int.le_of_lt (eM _ (by omega))))
  .rw[cZ ht];exact WM V1 rfl wf.nx
 | waits z=>
  obtain⟨hz,W8,hw⟩:=he;have e3:(qg V1 (.waits i z)).calls=V1.calls.set i (c.wait z):=rB (V:=qN V1 _) hc;have hw1:wn V1 z=false:=by
   unfold wn at hw ⊢;have key:∀cs:List pB,cs.any (·.mR z)=(cs.map pB.core).any (·.mR z):=λcs=>by rw[jM];rfl
   rw[key,same,<-key];exact hw
  refine wf.set e3 hc Bh ⟨.inr ⟨rfl,.inl ⟨rfl,p2,p3,p4,rfl⟩⟩,k.cr,λx hx=>by rw[dz.mp hx];exact hz,k.ms,dQ.mpr ⟨dF,eJ⟩,k.mn,λhx=>W8 (dz.mp hx).symm,k.wy⟩ (λx g=>?_) (λx g=>?_) (λx g=>?_) wf.nx
  .exact .inl ((sL p1).mpr ((DY (c:=c.wait z) rfl).mp g))
  .exact .inl ((sN p1).mpr (.inl ((DV (c:=c.wait z) rfl).mp g)))
  .have:=(sj.mp g).2;rw[dz.mp this];exact .inr hw1
 | breaks z=>
  obtain⟨x,rfl,hb⟩:=he;obtain⟨j,d0,t1,t2,t3,t4,t5,t6⟩:=F' hb;have ht:vP V1 z=some j:=by
   rw[<-t1];unfold vP;have key:∀cs:List pB,cs.findIdx? (·.mX z)=(cs.map pB.core).findIdx? (·.mX z):=λcs=>by rw[hJ];rfl
   rw[key,same,<-key]
  obtain⟨d,ed,ec⟩:∃d,V1.calls[j]?=some d/\d.core=d0.core:=by
   have:=eX (·[j]?) same;simp only[dD,t2]at this;cases q:V1.calls[j]? with
   | none=>rw[q]at this;cases this
   | some d=>rw[q]at this;exact⟨d,rfl,dh this⟩
  have ds:d.st="talks":=by rw[show d.st=d0.st from show d.core.st=d0.core.st by rw[ec]];exact t3
  have dm:d.ms=d0.ms:=show d.core.ms=d0.core.ms by rw[ec]
  have XD:i≠j:=λy=>by subst y;rw[hc]at ed;cases ed;rw[p1]at ds;exact absurd ds (by decide)
  have hee:tK l V1 i (.breaks z)=[.merge i j (d.ms++[c.cr])]:=by unfold tK;dsimp only;rw[ht,hc];dsimp only;rw[ed];rfl
  rw[hee];have ncr:c.cr∉d.ms:=λy=>XD (wf.un i j c d c.cr hc ed ((sL p1).mpr rfl) ((tQ ds).mpr y));have kd:=wf.ok j d ed;refine Ge (V':=qg V1 (.merge i j (d.ms++[c.cr]))) (ms:=d.ms++[c.cr]) wf (.inr rfl) hc ed XD ?_ wf.nx ds ?_ (.inr ?_) (λx hx=>?_) (λx hx=>?_)
  .show(V1.calls.modify i _).modify j _=_;rw[tO hc,tO (show(V1.calls.set i _)[j]?=some d by rw[fG XD];exact ed)]
  .refine fQ.mpr ⟨kd.mn,dQ.mpr ⟨dF,eJ⟩,λx hx y hy q=>ncr ?_⟩;rw[dz.mp hy]at q;rw[<-q];exact hx
  .rw[cY,dm,t5];rfl
  .rcases dY.mp hx with y|y
   .exact .inl y
   .rw[dz.mp y];exact .inr ⟨(sL p1).mpr rfl,(sN p1).mpr (.inl rfl)⟩
  .rcases dY.mp hx with y|y
   .exact kd.ms x y
   .rw[dz.mp y];exact k.cr
 | engaged z=>exact wH (V':=qg V1 (.over i "engaged")) wf hc (.inr rfl) (by decide) (rB (V:=qN V1 _) hc) wf.nx
 | barred=>exact wH (V':=qg V1 (.over i "barred")) wf hc (.inr rfl) (by decide) (rB (V:=qN V1 _) hc) wf.nx
 | ring ns=>exact wH (V':=qg V1 (.over i "ring")) wf hc (.inr rfl) (by decide) (rB (V:=qN V1 _) hc) wf.nx
def Qr{l:pH}{V:qB}{i:Nat}{k:pB}(ok:rL l)(wf:zK l V (some i))(hk:V.calls[i]?=some k):WF l (qI V (xk l V i)):=by
 have XJ:=wf.ok i k hk;unfold xk;rw[hk];dsimp only[Option.elim];obtain⟨z,hz⟩:∃z,k.way.getLast?=some z:=by
  cases e:k.way.getLast? with
  | none=>exact absurd (gK.mp e) XJ.wy.1
  | some z=>exact⟨z,rfl⟩
 rw[show k.way.getLastD Str.empty=z by rw[im,hz];rfl];have ro:ye l V k.cr (l.nm.length+1) [] (uZ l V k.cr z k.way.dropLast):=zp ok _ _ _ _ (XJ.wy.2 z (gL hz)) λx hx=>XJ.wy.2 x (iW _ hx);generalize uZ l V k.cr z k.way.dropLast=R at ro;obtain⟨e,st⟩:=R;have snm:∀s∈st,s.1∈l.nm:=λs hs=>(ro.nm s hs).elim (λh=>by cases h) id;have w1:=BV i st none wf snm;have Xk:=vi i st none V;rw[rF,rF];dsimp only;have WM:∀V1:qB,zK l V1 (some i)->tS V V1->WF l (qI V1 (tK l V i e)):=λV1 w s=>by
  rw[<-s.ends];obtain⟨c',e1,e2⟩:=s.at_ hk;have hcr:c'.cr=k.cr:=show c'.bare.cr=k.bare.cr by rw[e2]
  exact RS ok w s.core e1 (by rw[hcr];exact ro.e)
 cases e with
 | ring ns=>
  obtain⟨x,ns',rfl⟩:=gi (show ns≠[]from ro.e);cases hl:st.getLast? with
  | none=>rw[show ub i st (.ring (x::ns'))=[]by unfold ub;dsimp only;rw[hl];rfl];exact WM _ w1 Xk
  | some s0=>rw[show ub i st (.ring (x::ns'))=[.leg ⟨i,s0.1,x,s0.1⟩]by unfold ub;dsimp only;rw[hl];rfl];exact WM _ (HQ (v:=⟨i,s0.1,x,s0.1⟩) w1 (ro.wy _ rfl x dG)) (Xk.trans (zi _ _))
 | rings _ _=>exact WM _ w1 Xk
 | waits _=>exact WM _ w1 Xk
 | breaks _=>exact WM _ w1 Xk
 | engaged _=>exact WM _ w1 Xk
 | barred=>exact WM _ w1 Xk
def HY{l:pH}{V:qB}{y z:Str}(wf:WF l V)(hy:y∈l.pn)(hz:z∈l.nm)(hi:Df V y)(hf:tG l V y=true):zK l (qI V [.new V.calls.length y,.leg ⟨V.calls.length,y,z,y⟩]) (some V.calls.length):=by
 have e:(qI V [.new V.calls.length y,.leg ⟨V.calls.length,y,z,y⟩]).calls=V.calls++[(y0 y).go z]:=by show(V.calls++[y0 y]).modify V.calls.length _=_;rw[tO (c:=y0 y) (by rw[eV (dv _),h9];rfl),kl _ _ (dv _),h9];rfl
 refine wf.add e ⟨.inl ⟨rfl,rfl,rfl,rfl,λ_=>rfl,(λh=>by cases h)⟩,hy,(λx h=>by cases h),(λx h=>by cases h),eJ,eJ,(λh=>by cases h),fB _ _,λx h=>by rw[dz.mp h];exact hz⟩ (λx h=>?_) (λx h=>?_) (λx=>?_) wf.nx
 .rw[(sL (c:=(y0 y).go z) rfl).mp h];exact hi
 .rcases(sN (c:=(y0 y).go z) rfl).mp h with g|g
  .rw[g];exact Ej hf
  .cases g
 .cases q:((y0 y).go z).mR x with
  | false=>rfl
  | true=>exact absurd (sj.mp q).1 (show("rings":Str)≠"waits" by decide)
def Mw{V:qB}{y z:Str}:∃k,(qI V [.new V.calls.length y,.leg ⟨V.calls.length,y,z,y⟩]).calls[V.calls.length]?=some k:=by
 have:V.calls.length<(qI V [.new V.calls.length y,.leg ⟨V.calls.length,y,z,y⟩]).calls.length:=by show V.calls.length<((V.calls++[y0 y]).modify _ _).length;rw[gk,cY];exact fJ _
 exact⟨_,cX this⟩
def Fj{l:pH}{V:qB}{i:Nat}{c:pB}{x y:Str}{fs:List Nat}(wf:WF l V)(hc:V.calls[i]?=some c)(hs:c.st="rings")(hy:y∈l.nm):zK l (qI V [.asks i x fs,.quiet i,.leg ⟨i,x,y,x⟩]) (some i):=by
 refine HQ (v:=⟨i,x,y,x⟩) ?_ hy;have k:=wf.ok i c hc;have w1:WF l (qg V (.asks i x fs)):=Fv wf;have sh:c.ms=[]/\c.hd=none/\c.wd=none:=by
  rcases k.sh with g|⟨_,g|g|⟨_,g⟩|g⟩
  .exact⟨g.2.1,g.2.2.1,g.2.2.2.1⟩
  all_goals(rw[hs]at g;exact absurd g.1 (by decide))
 refine w1.set (i:=i) (c:=c) (c':=c.nM) (rB (V:=qN (qg V (.asks i x fs)) _) hc) hc (λj hj=>(Bh j hj).symm) ?_ (λx g=>.inl ?_) (λx g=>.inl ?_) (λx g=>?_) wf.nx
 .rw[fh];exact⟨.inl ⟨hs,sh.1,sh.2.1,sh.2.2,λ_=>rfl,(λh=>by cases h)⟩,k.cr,(λx h=>by cases h),k.ms,eJ,k.mn,(λh=>by cases h),k.wy⟩
 .exact(sL hs).mpr ((sL (c:=c.nM) hs).mp g)
 .rcases(sN (c:=c.nM) hs).mp g with y|y
  .exact(sN hs).mpr (.inl y)
  .cases y
 .have:=(sj.mp g).1;rw[show c.nM.st="rings" from hs]at this;exact absurd this (by decide)
inductive UP(l:pH)(V:qB)(i:Nat):List Nat->Prop
 | no:UP l V i []
 | on (c:pB) (k:Nat) (r:List Nat) (b:Bool) (x y:Str) (n:Int):V.calls[i]?=some c->c.st="rings"->l.mO[k]?=some (b,.silent x y n)->c.way.getLast?=some x->y∈l.nm->UP l V i (k::r)
def HV{l:pH}{V:qB}{i:Nat}(ok:rL l):UP l V i (zE l V i):=by
 unfold zE;cases e:V.calls[i]? with
 | none=>exact .no
 | some c=>
  dsimp only[Option.elim];by_cases hs:(c.st=="rings")=true
  .rw[df hs];cases q:Hr l V (G1 c)with
   | nil=>exact .no
   | cons k r=>
    obtain⟨⟨b,w⟩,e1,e2⟩:=Fd (i:=k) (by rw[q];exact dG);cases w with
    | silent x y n=>unfold G1 at e2;rw[dU,fj]at e2;exact .on c k r b x y n e (eq_of_beq hs) e1 e2.1 (BB ok (fu e1) (z:=Str.empty) rfl)
    | _=>cases e2
  .rw[cZ hs];exact .no
def Ah{l:pH}{V:qB}{i k:Nat}{r:List Nat}{b:Bool}{x y:Str}{n:Int}(h:l.mO[k]?=some (b,.silent x y n)):ud l V i (k::r)=[.asks i x (k::r),.quiet i,.leg ⟨i,x,y,x⟩]++xk l (qI V [.asks i x (k::r),.quiet i,.leg ⟨i,x,y,x⟩]) i:=by unfold ud;simp only[List.head?_cons,lX,h]
def Ew{V:qB}{i:Nat}{c:pB}{x y:Str}{fs:List Nat}(h:V.calls[i]?=some c):(qI V [.asks i x fs,.quiet i,.leg ⟨i,x,y,x⟩]).calls[i]?=some (c.nM.go y):=by show((V.calls.modify i pB.nM).modify i _)[i]?=_;rw[iX,iX,h];simp
def IT{l:pH}{V:qB}{i:Nat}(ok:rL l)(wf:WF l V):WF l (qI V (ud l V i (zE l V i))):=by
 have d:=HV (V:=V) (i:=i) ok;generalize zE l V i=fs at d;cases d with
 | no=>exact wf
 | on c k r b x y n hc hs hk hw hy=>rw[Ah hk,rF];exact Qr ok (Fj wf hc hs hy) (Ew hc)
theorem Ec{l:pH}(ok:rL l):∀(is:List Nat) {V:qB},WF l V->WF l (qI V (rT l is V))
 | [],_,wf=>wf
 | i::r,V,wf=>by unfold rT;rw[rF];exact Ec ok r (IT ok wf)
theorem Dw(l:pH)(i:Nat):∀(is:List Nat) (V:qB),rT l (is++[i]) V=rT l is V++ud l (qI V (rT l is V)) i (zE l (qI V (rT l is V)) i)
 | [],V=>by show ud l V i _++[]=[]++_;rw[eZ];rfl
 | j::r,V=>by show ud l V j _++rT l (r++[i]) _=(ud l V j _++rT l r _)++_;rw[Dw l i r,ft,show rT l (j::r) V=ud l V j (zE l V j)++rT l r (qI V (ud l V j (zE l V j)))from rfl,rF]
def tZ{ss:QQQ}{x y:Str}:y∈rK ss x↔y∈ss/\y≠x:=by unfold rK;rw[eO,gI,fR]
theorem xU{x:Str}:∀{ss:QQQ},ss.Nodup->x∈ss->(rK ss x).length+1=ss.length
 | [],_,h=>by cases h
 | y::r,nd,h=>by
  have nd:=dQ.mp nd;unfold rK;rw[gN];by_cases e:y=x
  .subst e;rw[show(!(y==y))=false by simp,cZ (by decide),kI.mpr λz hz=>by
    have:z≠y:=λq=>nd.1 (q ▸ hz)
    simpa using this]
   rfl
  .have h:x∈r:=by
    rcases dg.mp h with q|q
    .exact absurd q.symm e
    .exact q
   rw[df (by simpa using e)];have:=xU nd.2 h;unfold rK at this;rw[d9,d9,this]
def Qe{l:pH}{V:qB}{i:Nat}{c:pB}{x:Str}(wf:WF l V)(hc:V.calls[i]?=some c)(hl:c.nE x=true):WF l (qI V (wQ V x i)):=by
 have k:=wf.ok i c hc;unfold wQ;rw[hc];dsimp only[Option.elim];by_cases h1:c.mW x=true
 .rw[df h1];exact wH (V':=qg V (.over i "left")) wf hc (.inl rfl) (by decide) (rB (V:=qN V _) hc) wf.nx
 .rw[cZ h1];have e1:(qg V (.leaves i x)).calls=V.calls.set i (c.drop x):=rB (V:=qN V _) hc;by_cases h2:hasS c.at_ x=true
  .rw[df h2];by_cases h3:rK c.at_ x=[]
   .rw[df h3];refine wH (V':=qg (qg V (.leaves i x)) (.over i "refused")) wf hc (.inl rfl) (by decide) (w:="refused") ?_ wf.nx;have h4:(qg V (.leaves i x)).calls[i]?=some (c.drop x):=by rw[e1,fH (c9.mp hc).1]
    show(xJ (qN (qg V (.leaves i x)) _) i _).calls=_;rw[rB (V:=qN (qg V (.leaves i x)) _) h4];show(qg V (.leaves i x)).calls.set i _=_;rw[e1,jJ];rfl
   .rw[cZ h3];have hs:c.st="rings"/\c.ms=[]/\c.hd=none/\c.wd=none:=by
     rcases k.sh with g|⟨_,g|g|⟨_,g⟩|g⟩
     .exact⟨g.1,g.2.1,g.2.2.1,g.2.2.2.1⟩
     .exfalso;have:=xU k.an (qw.mp h2);rw[g.2.2.2.2]at this;exact h3 (gv.mp (by omega))
     .rw[g.2.2.2.2]at h2;cases h2
     .rw[g.2.2.2.2.2]at h2;cases h2
     .rw[g.2.2.2.1]at h2;cases h2
    refine wf.set (V':=qg V (.leaves i x)) (c':=c.drop x) e1 hc (λ_ _=>rfl) ⟨.inl ⟨hs.1,by show rK c.ms x=[];rw[hs.2.1];rfl,hs.2.2.1,hs.2.2.2,(λh=>by cases h),λ_=>h3⟩,k.cr,λy hy=>k.at_ y (tZ.mp hy).1,λy hy=>k.ms y (tZ.mp hy).1,k.an.sublist gf,k.mn.sublist gf,λhy=>k.ca (tZ.mp hy).1,k.wy⟩ (λy g=>?_) (λy g=>?_) (λy g=>?_) wf.nx
    .exact .inl ((sL hs.1).mpr ((sL (c:=c.drop x) hs.1).mp g))
    .refine .inl ((sN hs.1).mpr (((sN (c:=c.drop x) hs.1).mp g).imp id λh=>(tZ.mp h).1))
    .have:=(sj.mp g).1;rw[show(c.drop x).st="rings" from hs.1]at this;exact absurd this (by decide)
  .rw[cZ h2];by_cases h3:2<c.ms.length
   .rw[df h3];have hx:x∈c.ms:=by unfold pB.nE at hl;rw[dH.mpr h1,dH.mpr h2,fE,fE]at hl;exact qw.mp hl
    have hs:c.st="talks"/\c.ms.length=3/\c.hd=none/\c.wd=none/\c.at_=[]:=by
     rcases k.sh with g|⟨_,g|g|⟨_,g⟩|g⟩
     .rw[g.2.1]at h3;cases h3
     .rw[g.2.1]at h3;cases h3
     .exact⟨g.1,g.2.1.elim (λq=>by omega) id,g.2.2⟩
     .omega
     .rw[g.2.1]at h3;cases h3
    have dl:=xU k.mn hx;refine wf.set (V':=qg V (.leaves i x)) (c':=c.drop x) e1 hc (λ_ _=>rfl) ⟨.inr ⟨rfl,.inr (.inl ⟨hs.1,.inl (by show(rK c.ms x).length=2;omega),hs.2.2.1,hs.2.2.2.1,by show rK c.at_ x=[];rw[hs.2.2.2.2];rfl⟩)⟩,k.cr,λy hy=>k.at_ y (tZ.mp hy).1,λy hy=>k.ms y (tZ.mp hy).1,k.an.sublist gf,k.mn.sublist gf,λhy=>k.ca (tZ.mp hy).1,k.wy⟩ (λy g=>?_) (λy g=>?_) (λy g=>?_) wf.nx
    .exact .inl ((tQ hs.1).mpr (tZ.mp ((tQ (c:=c.drop x) hs.1).mp g)).1)
    .exact .inl ((sW (.inl hs.1)).mpr (tZ.mp ((sW (c:=c.drop x) (.inl hs.1)).mp g)).1)
    .have:=(sj.mp g).1;rw[show(c.drop x).st="talks" from hs.1]at this;exact absurd this (by decide)
   .rw[cZ h3];exact wH (V':=qg V (.over i "done")) wf hc (.inl rfl) (by decide) (rB (V:=qN V _) hc) wf.nx
def J8{l:pH}{V:qB}{i:Nat}{c:pB}{x:Str}(wf:WF l V)(hc:V.calls[i]?=some c)(hx:hasS c.at_ x=true)(hi:Df V x)(hf:c.mR x=true->tG l V x=true):WF l (qg V (.talks i [c.cr,x])):=by
 have k:=wf.ok i c hc;have hx:=qw.mp hx;have W8:c.cr≠x:=λq=>k.ca (q ▸ hx);have hs:(c.st="rings"\/c.st="waits")/\c.wd=none:=by
  rcases k.sh with g|⟨_,g|g|⟨_,g⟩|g⟩
  .exact⟨.inl g.1,g.2.2.2.1⟩
  .exact⟨.inr g.1,g.2.2.2.1⟩
  .rw[g.2.2.2.2]at hx;cases hx
  .rw[g.2.2.2.2.2]at hx;cases hx
  .rw[g.2.2.2.1]at hx;cases hx
 have ec:Be c c.cr/\c.hasB c.cr=true:=by
  rcases hs.1 with g|g
  .exact⟨(sL g).mpr rfl,(sN g).mpr (.inl rfl)⟩
  .exact⟨(DY g).mpr rfl,(DV g).mpr rfl⟩
 refine wf.set (V':=qg V (.talks i [c.cr,x])) (c':=c.nI [c.cr,x]) (rB (V:=qN V _) hc) hc (λ_ _=>rfl) ⟨.inr ⟨rfl,.inr (.inl ⟨rfl,.inl rfl,rfl,hs.2,rfl⟩)⟩,k.cr,(λy h=>by cases h),(λy h=>?_),eJ,?_,(λh=>by cases h),k.wy⟩ (λy g=>?_) (λy g=>?_) (λy g=>?_) wf.nx
 .rcases dg.mp h with g|g
  .rw[g];exact k.cr
  .rw[dz.mp g];exact k.at_ x hx
 .exact dQ.mpr ⟨λh=>W8 (dz.mp h),dQ.mpr ⟨dF,eJ⟩⟩
 .rcases dg.mp ((tQ (c:=c.nI [c.cr,x]) rfl).mp g)with h|h
  .rw[h];exact .inl ec.1
  .rw[dz.mp h];exact .inr hi
 .rcases dg.mp ((sW (c:=c.nI [c.cr,x]) (.inl rfl)).mp g)with h|h
  .rw[h];exact .inl ec.2
  .rw[dz.mp h];rcases hs.1 with q|q
   .exact .inl ((sN q).mpr (.inr hx))
   .exact .inr (Ej (hf (sj.mpr ⟨q,hx⟩)))
 .exact absurd (sj.mp g).1 (show("talks":Str)≠"waits" by decide)
def Aj{c:pB}{x:Str}:c.mZ x=true↔c.st="talks"/\x∈c.ms/\c.ms.length=2:=by unfold pB.mZ pB.mX;rw[dU,dU,fj,qw,fj,and_assoc]
def La{l:pH}{c:pB}(k:vS l false c)(h:c.st="talks"):c.hd=none/\c.wd=none/\c.at_=[]:=by
 rcases k.sh with g|⟨_,g|g|⟨_,g⟩|g⟩
 .rw[h]at g;exact absurd g.1 (by decide)
 .rw[h]at g;exact absurd g.1 (by decide)
 .exact g.2.2
 .rw[h]at g;exact absurd g.1 (by decide)
 .rw[h]at g;exact absurd g.1 (by decide)
def EO{l:pH}{c:pB}{x:Str}(k:vS l false c)(h:c.hd=some x):c.st="held"/\c.ms.length=2/\x∈c.ms/\c.wd=none/\c.at_=[]:=by
 rcases k.sh with g|⟨_,g|g|⟨y,g⟩|g⟩
 .rw[h]at g;cases g.2.2.1
 .rw[h]at g;cases g.2.2.1
 .rw[h]at g;cases g.2.2.1
 .have e:=g.2.2.1;rw[h]at e;cases e;exact⟨g.1,g.2.1,g.2.2.2⟩
 .rw[h]at g;cases g.2.2.1
def Pl{l:pH}{V:qB}{i:Nat}{c:pB}{x:Str}(wf:WF l V)(hc:V.calls[i]?=some c)(hx:c.mZ x=true):WF l (qg V (.held i x)):=by
 have k:=wf.ok i c hc;obtain⟨h1,h2,h3⟩:=Aj.mp hx;obtain⟨s1,s2,s3⟩:=La k h1;refine wf.set (V':=qg V (.held i x)) (c':=c.hold x) (rB (V:=qN V _) hc) hc (λ_ _=>rfl) ⟨.inr ⟨rfl,.inr (.inr (.inl ⟨x,rfl,h3,rfl,h2,s2,s3⟩))⟩,k.cr,k.at_,k.ms,k.an,k.mn,k.ca,k.wy⟩ (λy g=>.inl ?_) (λy g=>.inl ?_) (λy g=>?_) wf.nx
 .exact(tQ h1).mpr ((B8 (c:=c.hold x) rfl).mp g).1
 .exact(sW (.inl h1)).mpr ((sW (c:=c.hold x) (.inr rfl)).mp g)
 .exact absurd (sj.mp g).1 (show("held":Str)≠"waits" by decide)
def Pp{l:pH}{V:qB}{i:Nat}{c:pB}{x:Str}(wf:WF l V)(hc:V.calls[i]?=some c)(hx:c.hd=some x)(hi:Df V x):WF l (qg V (.talks i c.ms)):=by
 have k:=wf.ok i c hc;obtain⟨h1,h2,h3,h4,h5⟩:=EO k hx;refine wf.set (V':=qg V (.talks i c.ms)) (c':=c.nI c.ms) (rB (V:=qN V _) hc) hc (λ_ _=>rfl) ⟨.inr ⟨rfl,.inr (.inl ⟨rfl,.inl h2,rfl,h4,rfl⟩)⟩,k.cr,(λy h=>by cases h),k.ms,eJ,k.mn,(λh=>by cases h),k.wy⟩ (λy g=>?_) (λy g=>.inl ?_) (λy g=>?_) wf.nx
 .have g:=(tQ (c:=c.nI c.ms) rfl).mp g;by_cases e:y=x
  .rw[e];exact .inr hi
  .exact .inl ((B8 h1).mpr ⟨g,λq=>e (dh (q.symm.trans hx))⟩)
 .exact(sW (.inr h1)).mpr ((sW (c:=c.nI c.ms) (.inl rfl)).mp g)
 .exact absurd (sj.mp g).1 (show("talks":Str)≠"waits" by decide)
def DA{c:pB}{x:Str}(nd:c.ms.Nodup)(h2:c.ms.length=2)(hx:x∈c.ms):qC c x∈c.ms/\qC c x≠x:=by
 have dl:=xU nd hx;obtain⟨y,r,e⟩:=List.exists_cons_of_length_pos (show 0<(rK c.ms x).length by omega);have hm:y∈rK c.ms x:=by rw[e];exact dG
 unfold qC;rw[e];exact tZ.mp hm
def Jx{l:pH}{V:qB}{i j:Nat}{c d:pB}{w x:Str}(wf:WF l V)(hc:V.calls[i]?=some c)(hd:V.calls[j]?=some d)(h1:c.hd=some x)(h2:d.mZ x=true):i≠j/\WF l (qg V (.merge i j (if (w=="hand")=true then[qC c x,qC d x]else[x,qC c x,qC d x]))):=by
 have k:=wf.ok i c hc;have kd:=wf.ok j d hd;obtain⟨c1,c2,c3,c4,c5⟩:=EO k h1;obtain⟨d1,d2,d3⟩:=Aj.mp h2;obtain⟨a1,a2⟩:=DA k.mn c2 c3;obtain⟨b1,b2⟩:=DA kd.mn d3 d2;have XD:i≠j:=λq=>by subst q;rw[hc]at hd;cases hd;rw[c1]at d1;exact absurd d1 (by decide)
 refine⟨XD,?_⟩;have ea:Be c (qC c x):=(B8 c1).mpr ⟨a1,λq=>a2 (dh (q.symm.trans h1))⟩;have ab:qC c x≠qC d x:=λq=>XD (wf.un i j c d _ hc hd ea (by rw[q];exact(tQ d1).mpr b1));generalize hms:(if (w=="hand")=true then[qC c x,qC d x]else[x,qC c x,qC d x])=ms;have mm:∀y∈ms,y=x\/y=qC c x\/y=qC d x:=λy hy=>by
  rw[<-hms]at hy;split at hy
  .rcases dg.mp hy with g|g
   .exact .inr (.inl g)
   .exact .inr (.inr (dz.mp g))
  .rcases dg.mp hy with g|g
   .exact .inl g
   .rcases dg.mp g with g|g
    .exact .inr (.inl g)
    .exact .inr (.inr (dz.mp g))
 have n2:[qC c x,qC d x].Nodup:=dQ.mpr ⟨λh=>ab (dz.mp h),dQ.mpr ⟨dF,eJ⟩⟩;refine Ge (V':=qg V (.merge i j ms)) (ms:=ms) wf (.inl rfl) hc hd XD ?_ wf.nx d1 ?_ ?_ (λy hy=>?_) (λy hy=>?_)
 .show(V.calls.modify i _).modify j _=_;rw[tO hc,tO (show(V.calls.set i _)[j]?=some d by rw[fG XD];exact hd)]
 .rw[<-hms];split
  .exact n2
  .refine dQ.mpr ⟨λh=>?_,n2⟩;rcases dg.mp h with g|g
   .exact a2 g.symm
   .exact b2 (dz.mp g).symm
 .rw[<-hms];split
  .exact .inl rfl
  .exact .inr rfl
 .rcases mm y hy with g|g|g
  .rw[g];exact .inl d2
  .rw[g];exact .inr ⟨ea,(sW (.inr c1)).mpr a1⟩
  .rw[g];exact .inl b1
 .rcases mm y hy with g|g|g
  .rw[g];exact k.ms x c3
  .rw[g];exact k.ms _ a1
  .rw[g];exact kd.ms _ b1
def RN{V:qB}{i:Int}(h:zq V.calls.length i=true):∃c,V.calls[i.toNat]?=some c:=by unfold zq at h;rw[dU,eB,eB]at h;exact⟨_,cX (by omega)⟩
def Ea{V:qB}{x:Str}{b:Bool}(h:(if ((uH V x).isNone&&b)=true then some ("full":Str)else uH V x)=none):uH V x=none/\b=false:=by
 cases e:uH V x with
 | some w=>rw[e]at h;cases h
 | none=>
  rw[e]at h;cases b with
  | true=>cases h
  | false=>exact⟨rfl,rfl⟩
inductive DH(l:pH)(V:qB)(x:Str):Str->List Int->Prop
 | answer (i:Int) (c:pB):0<=i->V.calls[i.toNat]?=some c->hasS c.at_ x=true->Df V x->(c.mR x=true->tG l V x=true)->DH l V x "answer" [i]
 | hang (i:Int) (c:pB):0<=i->V.calls[i.toNat]?=some c->c.nE x=true->DH l V x "hang" [i]
 | hold (i:Int) (c:pB):0<=i->V.calls[i.toNat]?=some c->c.mZ x=true->DH l V x "hold" [i]
 | back (i:Int) (c:pB):0<=i->V.calls[i.toNat]?=some c->c.hd=some x->Df V x->DH l V x "back" [i]
 | two (w:Str) (i j:Int) (c d:pB):0<=i->0<=j->w="hand"\/w="join"->V.calls[i.toNat]?=some c->V.calls[j.toNat]?=some d->c.hd=some x->d.mZ x=true->DH l V x w [i,j]
def Hy{l:pH}{V:qB}{w x:Str}{ns:List Int}(f:(uo.num w x ns).nH)(h:xu l V (.num w x ns)=none):x∈l.pn/\DH l V x w ns:=by
 have hp:hasS l.pn x=true:=by
  cases q:hasS l.pn x with
  | true=>rfl
  | false=>unfold xu at h;dsimp only at h;rw[df q]at h;cases h
 refine⟨qw.mp hp,?_⟩;unfold xu at h;dsimp only at h;rw[cZ (by rw[hp];decide)]at h;unfold L6 at h;cases q1:ns.all (zq V.calls.length)with
 | false=>rw[df q1]at h;cases h
 | true=>
 rw[cZ (by rw[q1];decide)]at h;cases q2:Iz w x (tR V ns)with
 | false=>rw[df q2]at h;cases h
 | true=>
 rw[cZ (by rw[q2];decide)]at h;have z:∀i∈ns,0<=i/\∃c,V.calls[i.toNat]?=some c:=λi hi=>by have g:=eK.mp q1 i hi;refine⟨?_,RN g⟩;unfold zq at g;rw[dU,eB]at g;exact g.1
 rcases f with⟨fw,fl⟩|⟨fw,fl⟩
 .match ns,fl with
  | [i],_=>
   obtain⟨hi,c,hc⟩:=z i dG;have ec:tR V [i]=[c]:=by unfold tR;rw[gc,hc];rfl
   rw[ec]at h q2;rcases fw with rfl|rfl|rfl|rfl
   .rw[cZ (by decide)]at h;obtain⟨h1,h2⟩:=Ea h;refine .answer i c hi hc q2 (EE h1) λhw=>?_;have h2:(c.mR x&&!(tG l V x))=false:=h2;rw[hw]at h2
    simpa using h2
   .exact .hang i c hi hc q2
   .exact .hold i c hi hc q2
   .rw[cZ (by decide)]at h;exact .back i c hi hc (eq_of_beq q2) (EE (Ea h).1)
 .match ns,fl with
  | [i,j],_=>
   obtain⟨hi,c,hc⟩:=z i dG;obtain⟨hj,d,hd⟩:=z j (dE _ dG);have ec:tR V [i,j]=[c,d]:=by unfold tR;rw[gc,hc];dsimp only;rw[gc,hd];rfl
   rw[ec]at q2;have q3:((c.hd==some x)&&d.mZ x)=true:=by rcases fw with rfl|rfl<;>exact q2
   rw[dU]at q3;exact .two w i j c d hi hj fw hc hd (eq_of_beq q3.1) q3.2
def FF{l:pH}{V:qB}{y z:Str}(h:xu l V (.call y z)=none):y∈l.pn/\z∈l.nm/\Df V y/\tG l V y=true:=by
 unfold xu at h;dsimp only at h;cases q:hasS l.pn y with
 | false=>rw[df q]at h;cases h
 | true=>
 rw[cZ (by rw[q];decide)]at h;unfold F7 at h;cases q1:hasS l.nm z with
 | false=>rw[df q1]at h;cases h
 | true=>
 rw[cZ (by rw[q1];decide)]at h;obtain⟨h1,h2⟩:=Ea h;exact⟨qw.mp q,qw.mp q1,EE h1,by simpa using h2⟩
def Tz{l:pH}{V:qB}{b:Bool}{i:Int}(h:xu l V (.sw b i)=none):0<=i/\i.toNat<V.on.length:=by
 unfold xu PP at h;dsimp only at h;cases q:zq V.on.length i with
 | false=>rw[df q]at h;cases h
 | true=>unfold zq at q;rw[dU,eB,eB]at q;omega
def zr{V:qB}{w x:Str}{i:Nat}{c:pB}(h:V.calls[i]?=some c):Fg V w x i=if (w=="answer")=true then .talks i [c.cr,x]else if (w=="hold")=true then .held i x else .talks i c.ms:=by unfold Fg;rw[h];rfl
def Ia{V:qB}{w x:Str}{i j:Nat}{c d:pB}(h:V.calls[i]?=some c)(g:V.calls[j]?=some d):GD V w x i j=.merge i j (if (w=="hand")=true then[qC c x,qC d x]else[x,qC c x,qC d x]):=by unfold GD;rw[h,g];rfl
def SZ{l:pH}{V:qB}{e:uo}(ok:rL l)(wf:WF l V)(f:e.nH)(h:xu l V e=none):WF l (qI V (xi l V e)):=by
 cases e with
 | call y z=>obtain⟨h1,h2,h3,h4⟩:=FF h;obtain⟨k,hk⟩:=Mw (V:=V) (y:=y) (z:=z);show WF l (qI V (_++xk l _ _));rw[rF];exact Qr ok (HY wf h1 h2 h3 h4) hk
 | turn=>exact Ec ok _ (E7 wf)
 | sw b i=>exact Ux wf
 | num w x ns=>
  obtain⟨_,n⟩:=Hy f h;cases n with
  | answer i c hi hc h1 h2 h3=>show WF l (qg V (Fg V "answer" x i.toNat));rw[zr hc];exact J8 wf hc h1 h2 h3
  | hang i c hi hc h1=>exact Qe wf hc h1
  | hold i c hi hc h1=>show WF l (qg V (Fg V "hold" x i.toNat));rw[zr hc];exact Pl wf hc h1
  | back i c hi hc h1 h2=>show WF l (qg V (Fg V "back" x i.toNat));rw[zr hc];exact Pp wf hc h1 h2
  | two _ i j c d hi hj hw hc hd h1 h2=>show WF l (qg V (GD V w x i.toNat j.toNat));rw[Ia hc hd];exact(Jx wf hc hd h1 h2).2
def Ot(a:Ad):rf:=λds M Q=>Lu λM0 b A V l c n x i k=>ds=[.ref b,.str x,.int ((i:Nat):Int)]/\uG a M0 M b A V l c n/\c<=1000000/\n<=7000000/\V.calls[i]?=some k/\∀M' A',uG a M0 M' b A' (qI V (wQ V x i)) l c (n+2)->qR A M A' M'->Q .mS M'
def Ov(a:Ad):rf:=λds M Q=>Ky λA V l L k c=>ds=[.ref A.b,.ref (rA.p k)]/\Rd a M A V l/\rM a M L k c/\Q (wq (Hr l V (G1 c))) M
def NM(a:Ad):rf:=λds M Q=>Lu λM0 b A V l c n i k r=>ds=[.ref b,.int ((i:Nat):Int),wq (k::r)]/\uG a M0 M b A V l c n/\c<=1000000/\n<=6900000/\WF l V/\UP l V i (k::r)/\∀M' A',uG a M0 M' b A' (qI V (ud l V i (k::r))) l c (n+33)->qR A M A' M'->Q .mS M'
def Qf(a:Ad):rf:=λds M Q=>SV λM0 b A V l c n=>ds=[.ref b]/\uG a M0 M b A V l c n/\c<=10000/\n<=6000000/\WF l V/\∀M' A',uG a M0 M' b A' (qI V (D8 l V)) l c (n+1+33*c)->qR A M A' M'->Q .mS M'
def QY{a:Ad}{M:Mp}{L:QXQ}{k:rA}{c:pB}{v:Wi}{r:Addr}{Q:DK}(h:M r=some (.ins (v.cls a) v.m8))(hk:rM a M L k c)(q:Q (.bl (G1 c v)) M):LW a v [.ref r,.ref k.p] M Q:=by
 cases v with
 | silent x y n=>exact⟨r,L,k,c,rfl,h,hk,q⟩
 | _=>exact⟨_,_,rfl,q⟩
def OF:Fq P w K mg base 4 a.a8 (Ot a):=by
 refine fq G.a8.toDG Cm (λr u=>⟨_,(pj (pL 3 Cm (pK (pC v0) U2))
 (pk (pQ (uI (pX U3 G.e.toCls G.V (BC G) r (qe U1)))
 (pk (pO (pX v0 G.c.toCls G.k (ra G) r (qe (pM (rb pA U2 pA))))))
 (pk (pQ (pG u U1 (pC U3))
 (pj (pO (pX v0 G.c.toCls G.k (ra G) r (qe (pM (rb pA U2 U1)))))
 (pk (pQ (pG u (pS qx rfl G.g qv (qe (pC U3))) pz)
 (pk (pO (pX v0 G.c.toCls G.k (ra G) r (qe (pM (rb pA U2 pA))))))
 pJ)))
 (pk (pQ (pG u (pS qx rfl G.g qv (qe (pC U3))) pz)
 (pk (pO (pX v0 G.c.toCls G.k (ra G) r (qe (pM (rb pA U2 U1))))))
 (pk (pO (pX v0 G.c.toCls G.k (ra G) r (qe (pM (rb pA U2 pA))))))))))))),?_⟩)
 rintro ds M Q ⟨M0,b,A,V,l,cc,n,x,i,c,rfl,cu,Y9,hn,hc,q⟩
 obtain⟨ka,ci⟩:=cu.call hc;obtain⟨ad,md,h1,h2,h3,h4,n1,n2⟩:=ci.cell;have hi:=(c9.mp hc).1;refine pq cu.at_ (i' rfl (i' rfl (i' ci.bd.ca (i' (rj ci.e1) ?_))));refine pq h1 ⟨rfl,_,⟨rfl,rfl⟩,_,ka,c,x,rfl,ci.cell,?_⟩;unfold wQ at q;rw[hc]at q;dsimp only[Option.elim]at q;have over:∀(w0:Str),(∀M' A',uG a M0 M' b A' (qI V [.over i w0]) l cc (n+2)->qR A M A' M'->Q .mS M')->∀(M1:Mp) (A1:tV),A1.b=A.b->qR A M A1 M1->pN a M1 A1 (qg V (.over i w0))->∃WL,qr WL M1/\Q .mS WL:=λw0 q M1 A1 eb st bd=>⟨M1,.refl,q M1 A1 ((cu.after (e:=.over i w0) hi eb st bd).mono (dv _) (by omega)) st⟩;refine qD (c:=c.mW x) (λg=>?_) (λg=>?_)
 .rw[df g]at q;exact pq cu.at_ ⟨rfl,_,⟨rfl,rfl⟩,pb rfl,b,A,V,.over i "left",rfl,cu.b,cu.bd,cu.lim Y9 (by omega),hi,over "left" q⟩
 rw[cZ g]at q;refine pq h1 (i' rfl (i' h3 ⟨rfl,ql _,?_⟩));show if inD (.str x) (c.at_.map D.str)=true then _ else _
 rw[rZ];refine qD (c:=hasS c.at_ x) (λg2=>?_) (λg2=>?_)
 .rw[df g2]at q;refine pq cu.at_ ⟨rfl,_,⟨rfl,rfl⟩,pb rfl,b,A,V,.leaves i x,rfl,cu.b,cu.bd,cu.lim Y9 (by omega),hi,λM1 A1 eb st bd=>?_⟩;have c1:=cu.after (e:=.leaves i x) hi eb st bd;have Zb:(qg V (.leaves i x)).calls=V.calls.set i (c.drop x):=rB (V:=qN V _) hc;have hc1:(qg V (.leaves i x)).calls[i]?=some (c.drop x):=by rw[Zb,fH hi]
  obtain⟨ad',md',g1,Y6,g3,g4,_⟩:=c1.bd.cs i ka _ (st.2.2.1 i ka ci.e1) hc1;have le0:((((c.drop x).at_.map D.str).length:Int)==0)=decide (rK c.at_ x=[]):=by rw[cV,gp,fj,eB];show((rK c.at_ x).length:Int)=0↔_;rw[<-gv];omega
  refine pq g1 (i' rfl (i' g3 ?_));refine qD (c:=(((c.drop x).at_.map D.str).length:Int)==0) (λg5=>?_) (λg5=>?_)
  .rw[le0,eB]at g5;rw[df g5]at q;have Yj:i<(qg V (.leaves i x)).calls.length:=(c9.mp hc1).1;refine pq c1.at_ ⟨rfl,_,⟨rfl,rfl⟩,pb rfl,b,A1,_,.over i "refused",rfl,c1.b,c1.bd,c1.lim Y9 (by omega),Yj,λM2 A2 eb2 W7 Yf=>?_⟩;exact⟨M2,.refl,q M2 A2 (c1.after (e:=.over i "refused") Yj eb2 W7 Yf) (st.trans W7)⟩
  .rw[le0,eB]at g5;rw[cZ g5]at q;exact⟨M1,.refl,q M1 A1 (c1.mono (dv _) (by omega)) st⟩
 .rw[cZ g2]at q;refine pq h1 (i' rfl (i' h4 ?_));have lm:decide ((2:Int)<((c.ms.map D.str).length:Int))=decide (2<c.ms.length):=by rw[cV,gp,eB,eB];omega
  refine qD (c:=decide ((2:Int)<((c.ms.map D.str).length:Int))) (λg3=>?_) (λg3=>?_)
  .rw[lm,eB]at g3;rw[df g3]at q;refine pq cu.at_ ⟨rfl,_,⟨rfl,rfl⟩,pb rfl,b,A,V,.leaves i x,rfl,cu.b,cu.bd,cu.lim Y9 (by omega),hi,λM1 A1 eb st bd=>?_⟩;exact⟨M1,.refl,q M1 A1 ((cu.after (e:=.leaves i x) hi eb st bd).mono (dv _) (by omega)) st⟩
  .rw[lm,eB]at g3;rw[cZ g3]at q;exact pq cu.at_ ⟨rfl,_,⟨rfl,rfl⟩,pb rfl,b,A,V,.over i "done",rfl,cu.b,cu.bd,cu.lim Y9 (by omega),hi,over "done" q⟩
def On:Fq P w K mg base 2 a.a9 (Ov a):=by
 refine fq G.a9.toDG yq (λr u=>⟨_,(pj (pL 2 yq (pC (pC v0)))
 (pk (pD (pY sy rfl G.z sA (qe (qH rfl (xy (ix:=[none,none,some 2,some 1]) (N':=["i","on","wishes","call"])) (vf rfl G.bP (qe (pC v0))) (uL (n:=2) rfl (qp (qG 0) (qp (qG 1) tN))) (uY (W3.b3 (wI (uI U1) (vI (uI (vL (R:=GA a) (pK U2 v0) (UG G) (r.mono (by first|decide|omega)) (qe U3))))))) v0)))))),?_⟩)
 rintro ds M Q ⟨A,V,l,L,k,c,rfl,rd,hk,q⟩
 obtain⟨ph,gr,ws,Yl,pr,gd,rs,i1,i2,i3,i4,i5,i6,i7,i8⟩:=rd.pl;refine pq rd.bd.at_ (i' rfl (pq i1 (i' rfl ?_)));refine pq rd.bd.at_ (i' rfl (i' rd.bd.on ?_));refine IU (rest:=[some (.ref ws),some (.ref k.p)]) rd.on rd.ok.w16 rd.bd.on (λi w0 ew y kk hkk=>?_) λp hp=>i' pE ⟨M,.new hp,q⟩;obtain⟨r,e1,e2⟩:=Bk i8 ew;exact i' i4 (i' e1 (pq e2 ⟨by cases w0.2<;>rfl,_,⟨w0.2,rfl,rfl⟩,QY e2 hk hkk⟩))
def Qi:Fq P w K mg base 10 a.ba (NM a):=by
 refine fq G.ba.toDG Cv (λr u=>⟨_,(pj (pL 3 Cv (Cu (R:=MS a) (pK (pC (pC v0)) (pK U2 pz)) (RJ G) (r.mono (by first|decide|omega))))
 (pj (pO (pX v0 G.c.toCls G.k (ra G) r (qe (pM (pV pA (rb U1 (pK U3 pz) U2))))))
 (pj (pO (pX v0 G.c.toCls G.k (ra G) r (qe (pM (rX pA U1)))))
 (pj (pO (pX v0 G.c.toCls G.k (ra G) r (qe (pM (pV pA (pV U1 (rb (pK U3 pz) (pK U3 pz) (pK U3 pz))))))))
 (pk (pO (pI (IA G) r G.ad (rX v0 U1)))))))),?_⟩)
 rintro ds M Q ⟨M0,b,A,V,l,c,n,i,k,r,rfl,cu,hc,hn,wf,du,q⟩
 obtain⟨ph,gr,ws,Yl,pr,gd,rs,i1,i2,i3,i4,i5,i6,i7,i8⟩:=cu.pl;cases du with
 | on k0 _ _ b0 x y m hk hs hw hl hy=>
  have hi:=(c9.mp hk).1;rw[Ah hw]at q;rw[rF]at q;obtain⟨r0,e1,e2⟩:=Bk i8 hw;refine pq cu.at_ (i' rfl (pq i1 (i' rfl (i' (xZ _ _) (i' i4 (i' e1 (pq e2 ⟨rfl,_,⟨⟨.silent x y m,rfl⟩,rfl⟩,r0,.silent x y m,rfl,e2,?_⟩)))))));refine pq cu.at_ ⟨rfl,_,⟨rfl,rfl⟩,pb rfl,b,A,V,.asks i x (k::r),rfl,cu.b,cu.bd,cu.lim hc (by omega),trivial,λM1 A1 eb1 Xm bd1=>?_⟩;have c1:=cu.after (e:=.asks i x (k::r)) trivial eb1 Xm bd1;refine pq c1.at_ ⟨rfl,_,⟨rfl,rfl⟩,pb rfl,b,A1,_,.quiet i,rfl,c1.b,c1.bd,c1.lim hc (by omega),hi,λM2 A2 eb2 W7 Yf=>?_⟩;have c2:=c1.after (e:=.quiet i) hi eb2 W7 Yf;have XA:i<(qg (qg V (.asks i x (k::r))) (.quiet i)).calls.length:=by show i<(V.calls.modify i pB.nM).length;rw[gk];exact hi
  refine pq c2.at_ ⟨rfl,_,⟨rfl,rfl⟩,pb rfl,b,A2,_,.leg ⟨i,x,y,x⟩,rfl,c2.b,c2.bd,c2.lim hc (by omega),XA,λM3 A3 eb3 Xs bd3=>?_⟩;have c3:=c2.after (e:=.leg ⟨i,x,y,x⟩) XA eb3 Xs bd3;exact⟨M0,b,A3,_,l,c,n+3,i,_,rfl,c3,hc,by omega,Fj wf hk hs hy,Ew hk,λM4 A4 c4 st4=>⟨M4,.refl,q M4 A4 (c4.mono (dv _) (by omega)) (Xm.trans (W7.trans (Xs.trans st4)))⟩⟩
def O9:Fq P w K mg base 11 a.bb (Qf a):=by
 refine fq G.bb.toDG tM (λr u=>⟨_,(pj (pO (pX v0 G.c.toCls G.k (ra G) r (qe (pM (qe pA)))))
 (pk (uk eQ rfl (vf rfl G.bP (qe (pY tq rfl G.y sZ (qe (pC v0))))) (uL (n:=2) rfl (qp (rh 1 tM) (qp (rh 2 tM) tN)))
 (pk (pQ (pG u (pC U2) pA)
 (pj (pL 3 tM (pI (On G) r G.a9 (rX v0 U2)))
 (pk (pQ (pG u (pS qx rfl G.g qv (qe U3)) pz)
 (pk (pO (pI (Qi G) r G.ba (rb v0 U1 U3))))
 pJ)))
 pJ))))),?_⟩)
 rintro ds M Q ⟨M0,b,A,V,l,c,n,rfl,cu,hc,hn,wf,q⟩
 refine pq cu.at_ ⟨rfl,_,⟨rfl,rfl⟩,pb rfl,b,A,V,.turn,rfl,cu.b,cu.bd,cu.lim (by omega) (by omega),trivial,λM1 A1 eb st bd=>?_⟩;have c1:=cu.after (e:=.turn) trivial eb st bd;have wf1:=E7 wf;have lv:(qg V .turn).calls.length=V.calls.length:=cV ..;have ev:D8 l V=.turn::rT l (List.range V.calls.length) (qg V .turn):=rfl;rw[ev,<-lv]at q;have q:∀M' A',uG a M0 M' b A' (qI (qg V .turn) (rT l (List.range (qg V .turn).calls.length) (qg V .turn))) l c (n+1+33*c)->qR A M A' M'->Q .mS M':=q;have c1:uG a M0 M1 b A1 (qg V .turn) l c (n+1):=c1;generalize qg V .turn=V1 at c1 wf1 q bd;refine pq c1.at_ (i' rfl (i' c1.bd.ca λr hr=>i' pE ?_));have t:=qr.new (c:=.lst (A1.cs.map λk=>D.ref k.p)) hr;have lr:=@pE M1 r (A1.cs.map λk=>D.ref k.p);have nf:=c1.bd.n9 hr;have c2:=c1.sub t;have cl:V1.calls.length<=c:=c1.sz.ca;generalize pF M1 r (.lst (A1.cs.map λk=>D.ref k.p))=M2 at t lr c2 ⊢;refine uU (uF 0 (A1.cs.map λk=>D.ref k.p)) (λpre δ M'=>(∃A',uG a M0 M' b A' (qI V1 (rT l (List.range pre.length) V1)) l c (n+1+33*pre.length)/\qR A1 M2 A' M')/\∃y1 y2 y3,δ=[some (.ref b),y1,y2,y3]) (λpre δ M' j=>?_) _ [] _ _ rfl ⟨⟨A1,c2,.refl⟩,none,none,none,rfl⟩ ?_ ?_
 .obtain⟨⟨A',c3,Xs⟩,_⟩:=j;exact sQ (Xs.1 r _ nf (qo lr))
 .rintro pre d post e δ M' ⟨⟨A',c3,Xs⟩,y1,y2,y3,rfl⟩ nx WS
  rw[cY,dO,iT,Dw,rF]at WS;have wf3:=Ec cu.ok (List.range pre.length) wf1;generalize qI V1 (rT l (List.range pre.length) V1)=V3 at c3 wf3 WS;obtain⟨x,hx,rfl⟩:=FG e;rw[dD]at hx;cases ek:A1.cs[pre.length]? with
  | none=>rw[ek]at hx;cases hx
  | some k=>
   rw[ek]at hx;have hx:D.ref k.p=x:=dh hx;subst hx;have hp:pre.length<c:=by have:=(c9.mp ek).1;rw[c1.bd.len]at this;omega
   have ek3:=Xs.2.2.1 _ k ek;have hi:pre.length<V3.calls.length:=by rw[<-c3.bd.len];exact(c9.mp ek3).1
   have ec:V3.calls[pre.length]?=some V3.calls[pre.length]:=cX hi;generalize V3.calls[pre.length]=cv at ec;have ca:=c3.bd.cs _ k cv ek3 ec;obtain⟨ad,md,g1,_⟩:=ca;refine⟨rfl,pq g1 (i' rfl ?_)⟩;have hdv:zE l V3 pre.length=if (cv.st=="rings")=true then Hr l V3 (G1 cv)else[]:=by unfold zE;rw[ec];rfl
   have mS:zE l V3 pre.length=[]->∀y1' y2' y3',nx [some (.ref b),y1',y2',y3'] M':=λh0 y1' y2' y3'=>WS _ _ ⟨⟨A',by rw[h0];exact c3.mono (dv _) (by omega),Xs⟩,_,_,_,rfl⟩;have du:=HV (V:=V3) (i:=pre.length) cu.ok;refine qD (c:=cv.st=="rings") (λg=>?_) (λg=>mS (by rw[hdv,cZ g]) _ _ _);rw[df g]at hdv;refine⟨A',V3,l,_,k,cv,by rw[c3.b],c3.rd (by omega) wf3,c3.bd.cs _ k cv ek3 ec,?_⟩;rw[<-hdv];cases hdq:zE l V3 pre.length with
   | nil=>exact mS hdq _ _ _
   | cons k0 r0=>rw[hdq]at du WS;refine AX (dW (by rw[cV];show(0:Int)<((k0::r0).length:Nat);rw[d9];omega)) ?_;exact⟨M0,b,A',V3,l,c,_,pre.length,k0,r0,rfl,c3,by omega,by omega,wf3,du,λM4 A4 c4 st4=>WS _ _ ⟨⟨A4,c4.mono (dv _) (by omega),Xs.trans st4⟩,_,_,_,rfl⟩⟩
 .rintro δ M' ⟨⟨A',c3,Xs⟩,y1,y2,y3,rfl⟩
  have hl:(uF 0 (A1.cs.map λk=>D.ref k.p)).length=V1.calls.length:=by rw[vw,cV,c1.bd.len]
  rw[hl]at c3;exact⟨M',.refl,q M' A' (c3.mono (dv _) (by omega)) (st.trans ((qR.sub t).trans Xs))⟩
inductive Qm(l:pH)(V:qB):uo->Ev->Prop
 | sw (b:Bool) (i:Nat):i<V.on.length->Qm l V (.sw b (i:Nat)) (.sw b i)
 | answer (x:Str) (i:Nat) (c:pB):V.calls[i]?=some c->Qm l V (.num "answer" x [(i:Nat)]) (.talks i [c.cr,x])
 | hold (x:Str) (i:Nat) (c:pB):V.calls[i]?=some c->Qm l V (.num "hold" x [(i:Nat)]) (.held i x)
 | back (x:Str) (i:Nat) (c:pB):V.calls[i]?=some c->Qm l V (.num "back" x [(i:Nat)]) (.talks i c.ms)
 | two (w x:Str) (i j:Nat) (c d:pB):i≠j->w="hand"\/w="join"->V.calls[i]?=some c->V.calls[j]?=some d->rK c.ms x≠[]->rK d.ms x≠[]->Qm l V (.num w x [(i:Nat),(j:Nat)]) (.merge i j (if (w=="hand")=true then[qC c x,qC d x]else[x,qC c x,qC d x]))
def F0(a:Ad):rf:=λds M Q=>G7 λA V l e ev=>ds=[.ref A.b,uo.d e]/\Rd a M A V l/\Qm l V e ev/\Q ev.d M
def Rj(a:Ad):rf:=λds M Q=>Ql λM0 b A V l c n e=>ds=[.ref b,uo.d e]/\uG a M0 M b A V l c n/\c<10000/\n<=5000000/\WF l V/\e.nH/\xu l V e=none/\∀M' A',uG a M0 M' b A' (qI V (xi l V e)) l (c+1) (n+40+33*c)->qR A M A' M'->Q .mS M'
def WC(a:Ad)(M0 M:Mp)(b:Addr)(A:tV)(V:qB)(l:pH)(c n:Nat)(e:uo)(Q:DK):Prop:=xu l V e=none->∀M' A' r,uG a M0 M' b A' (qI V (xi l V e)) l (c+1) (n+40+33*c)->qR A M A' M'->M' r=none->Q (.ref r) (pF M' r (.lst ((xi l V e).map Ev.d)))
def SX(a:Ad):FR:=λds M Q R=>Ql λM0 b A V l c n e=>ds=[.ref b,uo.d e]/\uG a M0 M b A V l c n/\c<10000/\n<=5000000/\WF l V/\e.nH/\WC a M0 M b A V l c n e Q/\(∀w,xu l V e=some w->R a.J (some ("word",.str w)) M)
def Rd.call{a:Ad}{M:Mp}{A:tV}{V:qB}{l:pH}(rd:Rd a M A V l){i:Nat}{c:pB}(e:V.calls[i]?=some c):∃k,A.cs[i]?=some k/\rM a M (A.lists++V.fo) k c:=by
 have hi:i<A.cs.length:=by rw[rd.bd.len];exact(c9.mp e).1
 exact⟨A.cs[i],cX hi,rd.bd.cs i _ c (cX hi) e⟩
def yw{i:Int}(h:0<=i):∃m:Nat,i=(m:Int):=eC h
def Iv{c:pB}{x:Str}(nd:c.ms.Nodup)(h2:c.ms.length=2)(hx:x∈c.ms):rK c.ms x≠[]:=λz=>by have:=xU nd hx;rw[z]at this;simp only[dJ]at this;omega
def K9:Fq P w K mg base 2 a.bc (F0 a):=by
 refine fq G.bc.toDG tE (λr u=>⟨_,(pj (pL 2 tE (pK U1 pz))
 (pj (pQ (pG u U2 (pM (rX pA pA)))
 (pk (pD (pM (rX U2 (pK U1 pz)))))
 pJ)
 (pj (pL 3 tE (pK U1 pz))
 (pj (pL 4 tE (pK U1 pz))
 (pj (pL 5 tE (pK (pC v0) v4))
 (pj (pQ (pG u U2 pA)
 (pk (pD (pM (rb pA v4 (pM (rX (pC v5) U3))))))
 pJ)
 (pj (pQ (pG u U2 pA)
 (pk (pD (pM (rb pA v4 U3))))
 pJ)
 (pj (pQ (pG u U2 pA)
 (pk (pD (pM (rb pA v4 (pY sy rfl G.z sA (qe (pC v5)))))))
 pJ)
 (pj (pL 6 tE (pK U1 pz))
 (pj (pL 7 tE (pM (rX (pX v5 G.e.toCls G.aF (F9 G) r (qe U3)) (pX (pK (pC v0) v6) G.e.toCls G.aF (F9 G) r (qe U3)))))
 (pj (pQ (pG u U2 pA)
 (pk (pD (pM (pV pA (rb v4 v6 v7)))))
 pJ)
 (pk (pD (pM (pV pA (rb v4 v6 (pU (pM (qe U3)) v7))))))))))))))))),?_⟩)
 rintro ds M Q ⟨A,V,l,e,ev,rfl,rd,sg,q⟩
 cases sg with
 | sw b i hi=>
  cases b with
  | true=>exact⟨pb rfl,rfl,rfl,pb rfl,M,.refl,q⟩
  | false=>exact⟨pb rfl,rfl,rfl,pb rfl,M,.refl,q⟩
 | answer x i c hc=>obtain⟨k,ek,ca⟩:=rd.call hc;obtain⟨ad,md,h1,h2,h3,h4,n1,n2⟩:=ca;refine⟨pb rfl,rfl,rfl,?_⟩;refine pq rd.bd.at_ (i' rfl (i' rfl (i' rd.bd.ca (i' (rj ek) ?_))));exact pq h1 (i' rfl ⟨pb rfl,pb rfl,M,.refl,q⟩)
 | hold x i c hc=>obtain⟨k,ek,ca⟩:=rd.call hc;refine⟨pb rfl,rfl,rfl,?_⟩;refine pq rd.bd.at_ (i' rfl (i' rfl (i' rd.bd.ca (i' (rj ek) ?_))));exact⟨pb rfl,M,.refl,q⟩
 | back x i c hc=>obtain⟨k,ek,ca⟩:=rd.call hc;obtain⟨ad,md,h1,h2,h3,h4,n1,n2⟩:=ca;refine⟨pb rfl,rfl,rfl,?_⟩;refine pq rd.bd.at_ (i' rfl (i' rfl (i' rd.bd.ca (i' (rj ek) ?_))));exact pq h1 (i' rfl (i' h4 ⟨pb rfl,M,.refl,q⟩))
 | two wd x i j c d XD hw hc hd nc nd=>
  obtain⟨k,ek,ca⟩:=rd.call hc;obtain⟨k',ek',ca'⟩:=rd.call hd;have ca0:=ca;have ca1:=ca';obtain⟨ad,md,h1,h2,h3,h4,n1,n2⟩:=ca0;obtain⟨ad',md',f1,_⟩:=ca1;obtain⟨y1,r1,e1⟩:=gi nc;obtain⟨y2,r2,e2⟩:=gi nd;have o1:qC c x=y1:=by unfold qC;rw[e1];rfl
  have o2:qC d x=y2:=by unfold qC;rw[e2];rfl
  rw[o1,o2]at q;rcases hw with rfl|rfl
  .refine⟨pb rfl,rfl,rfl,?_⟩;refine pq rd.bd.at_ (i' rfl (i' rfl (i' rd.bd.ca (i' (rj ek) ?_))));refine pq h1 ⟨rfl,_,⟨rfl,rfl⟩,_,k,c,x,y1,r1,rfl,ca,(rd.ms c (qS hc)).2,e1,?_⟩;refine pq rd.bd.at_ (i' rfl (i' rfl (i' rd.bd.ca (i' (rj ek') ?_))));refine pq f1 ⟨rfl,_,⟨rfl,rfl⟩,_,k',d,x,y2,r2,rfl,ca',(rd.ms d (qS hd)).2,e2,?_⟩;exact⟨pb rfl,pb rfl,M,.refl,q⟩
  .refine⟨pb rfl,rfl,rfl,?_⟩;refine pq rd.bd.at_ (i' rfl (i' rfl (i' rd.bd.ca (i' (rj ek) ?_))));refine pq h1 ⟨rfl,_,⟨rfl,rfl⟩,_,k,c,x,y1,r1,rfl,ca,(rd.ms c (qS hc)).2,e1,?_⟩;refine pq rd.bd.at_ (i' rfl (i' rfl (i' rd.bd.ca (i' (rj ek') ?_))));refine pq f1 ⟨rfl,_,⟨rfl,rfl⟩,_,k',d,x,y2,r2,rfl,ca',(rd.ms d (qS hd)).2,e2,?_⟩;exact⟨pb rfl,pb rfl,fB _ _,by show 1+2<=sizeLine;have hz:=dN;omega,pb rfl,M,.refl,q⟩
def QV:Fq P w K mg base 12 a.bd (Rj a):=by
 refine fq G.bd.toDG Mc (λr u=>⟨_,(pj (pL 2 Mc (pK U1 pz))
 (pk (pQ (pG u U2 pA)
 (pk (pO (pI (MD G) r G.a7 (rb v0 (pK U1 pz) (pK U1 pz)))))
 (pk (pQ (pG u U2 pA)
 (pk (pO (pI (OF G) r G.a8 (rb v0 (pK U1 pz) (pK U1 pz)))))
 (pk (pQ (pG u U2 pA)
 (pk (pO (pI (O9 G) r G.bb (qe v0))))
 (pk (pO (pX v0 G.c.toCls G.k (ra G) r (qe (pI (K9 G) r G.bc (rX v0 U1))))))))))))),?_⟩)
 rintro ds M Q ⟨M0,b,A,V,l,c,n,e,rfl,cu,hc,hn,wf,hf,hr,q⟩
 have rd:=cu.rd (by omega) wf;have one:∀(ev:Ev),Qm l V e ev->xi l V e=[ev]->ev.ok V->ev.nw=0->AN (M b) λC fs'=>fs'.lookup ("apply":Str)=none/\∃sp,(C=a.c/\sp=vV a)/\F0 a [.ref b,e.d] M λd M1=>sp [.ref b,d] M1 λ_ M'=>∃WL,qr WL M'/\Q .mS WL:=λev sg he ok h0=>by refine pq cu.at_ ⟨rfl,_,⟨rfl,rfl⟩,A,V,l,e,ev,by rw[cu.b],rd,sg,b,A,V,ev,rfl,cu.b,cu.bd,cu.lim (by omega) (by omega),ok,λM1 A1 eb st bd=>?_⟩;rw[he]at q;have c1:=cu.after ok eb st bd;rw[h0]at c1;exact⟨M1,.refl,q M1 A1 (c1.mono (by omega) (by omega)) st⟩
 cases e with
 | call y z=>obtain⟨h1,h2,h3,h4⟩:=FF hr;exact⟨M0,b,A,V,l,c,n,y,z,rfl,cu,by omega,by omega,HY wf h1 h2 h3 h4,λM' A' c1 st=>⟨M',.refl,q M' A' (c1.mono (by omega) (by omega)) st⟩⟩
 | turn=>exact⟨M0,b,A,V,l,c,n,rfl,cu,by omega,by omega,wf,λM' A' c1 st=>⟨M',.refl,q M' A' (c1.mono (by omega) (by omega)) st⟩⟩
 | sw b0 i=>
  obtain⟨h1,h2⟩:=Tz hr;obtain⟨i,rfl⟩:=yw h1;cases b0 with
  | true=>exact one (.sw true i) (.sw true i h2) rfl h2 rfl
  | false=>exact one (.sw false i) (.sw false i h2) rfl h2 rfl
 | num wd x ns=>
  obtain⟨hx,no⟩:=Hy hf hr;cases no with
  | answer i c0 hi hc0 h1 h2 h3=>obtain⟨i,rfl⟩:=yw hi;have lt:=(c9.mp hc0).1;exact one (.talks i [c0.cr,x]) (.answer x i c0 hc0) (eX (λev=>[ev]) (zr hc0)) ⟨lt,by show 2<=100;decide⟩ rfl
  | hang i c0 hi hc0 h1=>obtain⟨i,rfl⟩:=yw hi;exact⟨M0,b,A,V,l,c,n,x,i,c0,rfl,cu,by omega,by omega,hc0,λM' A' c1 st=>⟨M',.refl,q M' A' (c1.mono (by omega) (by omega)) st⟩⟩
  | hold i c0 hi hc0 h1=>obtain⟨i,rfl⟩:=yw hi;have lt:=(c9.mp hc0).1;exact one (.held i x) (.hold x i c0 hc0) (eX (λev=>[ev]) (zr hc0)) lt rfl
  | back i c0 hi hc0 h1 h2=>obtain⟨i,rfl⟩:=yw hi;have lt:=(c9.mp hc0).1;exact one (.talks i c0.ms) (.back x i c0 hc0) (eX (λev=>[ev]) (zr hc0)) ⟨lt,(cu.sz.cs c0 (qS hc0)).2.2⟩ rfl
  | two _ i j c0 d0 hi hj hw hc0 hd0 h1 h2=>
   obtain⟨i,rfl⟩:=yw hi;obtain⟨j,rfl⟩:=yw hj;have lt:=(c9.mp hc0).1;have lt':=(c9.mp hd0).1;have XD:=(Jx (w:=wd) wf hc0 hd0 h1 h2).1;have k0:=wf.ok _ c0 hc0;have k1:=wf.ok _ d0 hd0;obtain⟨_,u2,u3,_⟩:=EO k0 h1;obtain⟨_,v2,v3⟩:=Aj.mp h2;have sg:=Qm.two (l:=l) wd x i j c0 d0 XD hw hc0 hd0 (Iv k0.mn u2 u3) (Iv k1.mn v3 v2);have ok:(Ev.merge i j (if (wd=="hand")=true then[qC c0 x,qC d0 x]else[x,qC c0 x,qC d0 x])).ok V:=⟨lt,lt',XD,by split;exact(by decide:2<=100);exact(by decide:3<=100)⟩;have he:xi l V (.num wd x [(i:Int),(j:Int)])=[.merge i j (if (wd=="hand")=true then[qC c0 x,qC d0 x]else[x,qC c0 x,qC d0 x])]:=eX (λev=>[ev]) (Ia hc0 hd0);rcases hw with rfl|rfl
   .exact one _ sg he ok rfl
   .exact one _ sg he ok rfl
def JR:xw P w K mg base (Cr P w) 1 a.I.f a.I.d a.I.p (wk K "word"):=
 Nf G.I.toDG Cg λWQ A outer s H E=>I9 (Pi (pv 0) (pv 1))
def Tg:Vm P w K mg base 13 a.N (SX a):=by
 refine Uq G.N.toDG Ho (by walk_at "m") (λ_ _ _ _ _ _ R hr hR=>⟨_,(pj (pL 2 Ho (pI (Ij G) hr G.a2 (rX v0 U1)))
 (pj (pQ (pG (V4 hr) U2 sD)
 (pk (Kn G.b4 (JR G) (hr.mono (by first|decide|omega)) G.I.b G.b5 G.I.at_ rfl G.bW hR (qe U2)))
 pJ)
 (pj (pL 3 Ho (pS qx rfl G.g qv (qe (pC v0))))
 (pj (pO (pI (QV G) hr G.bd (rX v0 U1)))
 (pk (pD (rW (pC v0) (sS U3) sT))))))),?_⟩)
 .rintro ds M Q ⟨M0,b,A,V,l,c,n,e,rfl,cu,hc,hn,wf,hf,q,rr⟩
  refine⟨A,V,l,e,by rw[cu.b],cu.rd (by omega) wf,hf,?_⟩;cases er:xu l V e with
  | some w0=>exact⟨_,rfl,rr w0 er⟩
  | none=>
   refine pq cu.at_ (i' rfl (i' cu.bd.lo ?_));refine⟨M0,b,A,V,l,c,n,e,rfl,cu,hc,hn,wf,hf,er,λM' A' c1 st=>?_⟩;refine pq c1.at_ (i' rfl (i' c1.bd.lo λp hp=>?_));have hcut:L3.uR ((qI V (xi l V e)).log.map Ev.d) (some (((V.log.map Ev.d).length:Nat):Int)) none=(xi l V e).map Ev.d:=by rw[Jh,dS,Hv _ _ (by rw[cY];omega),List.drop_left]
   rw[hcut];exact⟨_,.refl,q er M' A' p c1 st hp⟩
def O6(a:Ad):rf:=λds M Q=>Ql λM0 b A V l c n e=>ds=[.ref b,uo.d e]/\uG a M0 M b A V l c n/\c<10000/\n<=5000000/\WF l V/\e.nH/\(xu l V e=none->∀M' A',uG a M0 M' b A' (qI V (xi l V e)) l (c+1) (n+40+33*c)->qR A M A' M'->Q (.bl true) M')/\(xu l V e≠none->Q (.bl false) M)
def Oz:Fq P w K mg base 14 a.bt (O6 a):=by
 refine fq G.bt.toDG xK (λr u=>⟨_,(pj (pL 2 xK ul)
 (pj (Pq (Ma (Tg G) (r.mono (by first|decide|omega)) rfl G.N.mg G.N.toDG.kp G.N.b (rX v0 U1)) rfl rfl rfl G.bW (λev E'=>
 (pk (pL 2 xK ul))))
 (pk (pD U2)))),?_⟩)
 rintro ds M Q ⟨M0,b,A,V,l,c,n,e,rfl,cu,hc,hn,wf,hf,q,qf⟩
 refine⟨λC _ M'=>(C=a.J/\xu l V e≠none)/\M=M',?_,?_⟩
 .exact⟨M0,b,A,V,l,c,n,e,rfl,cu,hc,hn,wf,hf,λh M' A' r c1 st hm=>⟨M',.new hm,q h M' A' c1 st⟩,λw h=>⟨⟨rfl,by rw[h];exact λz=>nomatch z⟩,rfl⟩⟩
 .rintro C y M' ⟨⟨rfl,h⟩,rfl⟩
  exact⟨G.b6,M,.refl,qf h⟩
noncomputable def vG(g:uj):Bool:=g.2.1==("turns":Str)
noncomputable def vg(l:pH):List (Str×Int):=(l.groups.filter vG).map λg=>(g.1,0)
noncomputable def V0(p:Addr)(h:Int)(l:pH)(F:QXQ):qB:=⟨p,h,0,[],[],vg l,l.mO.map (·.1),[],F⟩
def EU(a:Ad):rf:=λds M Q=>G7 λb p h F (l:pH)=>ds=[.ref b,.ref p,.int h]/\M b=some (.ins a.c [])/\tI a M p l/\rL l/\p≠b/\(∀x∈F,∃c,M x=some c)/\∀M' A,A.b=b->sv b M M'->(∀x∈A.foot,x=b\/M x=none)->pN a M' A (V0 p h l F)->Q .mS M'
noncomputable def Nr(g:D):Bool:=match g with
 | .tup (_::.str m::_)=>m=="turns"
 | _=>false
noncomputable def QI(d:D):D:=.tup [AY d,.int 0]
def HR(gs:List uj):((gs.map qT).filter Nr).map QI=(gs.filter vG).map λg=>D.tup [.str g.1,.int 0]:=by rw[gX,eh];rfl
def Kx(l:pH):((l.groups.filter vG).map λg=>((Sum.inr g.1:qW),D.int 0))=tH (vg l):=by unfold tH vg;rw[eh];rfl
noncomputable def bF(p:Addr)(h:Int)(ca le nx Yg:Addr)(k:Nat):List (Str×D):=List.take (α:=Str×D) k [("plan",.ref p),("hour",.int h),("turn",.int 0),("calls",.ref ca),("legs",.ref le),("nexts",.ref nx),("on",.ref Yg)]
def MX:Fq P w K mg base 1 a.ak (EU a):=by
 refine fq G.ak.toDG CU (λr u=>⟨_,(pj (qc v0 U1)
 (pj (qc v0 U2)
 (pj (qc v0 pz)
 (pj (qc v0 (qP sX))
 (pj (qc v0 (qP sX))
 (pj (qc v0 (pY (Eb rfl) rfl G.bV Fw (qe (qH rfl (xy (ix:=[none]) (N':=["group"])) (qF (pC U1)) (qG 0) (uY (pG u (pK v0 pz) pA)) (pM (rX (pK v0 pz) pz))))))
 (pj (qc v0 (pY tq rfl G.y sZ (qe (pC U1))))
 (pk (qc v0 (qP sX)))))))))),?_⟩)
 rintro ds M Q ⟨b,p,h,F,l,rfl,hb,⟨ph,gr,ws,on,pr,gd,rs,i1,i2,i3,i4,i5,i6,i7,i8⟩,ok,nbp,hF,q⟩
 have hz:=dN;have l2:=ok.g3;refine pq hb ⟨(G.E "plan" rfl),by show 0<1000;decide,?_⟩;have k1:sv b M (pF M b (.ins a.c [("plan",.ref p)])):=.put;have b1:pF M b (.ins a.c [("plan",.ref p)]) b=some (.ins a.c [("plan",.ref p)]):=pP;show uD _ _ _ _ (pF M b (.ins a.c [("plan",.ref p)]));generalize pF M b (.ins a.c [("plan",.ref p)])=N1 at k1 b1 ⊢;refine pq b1 ⟨(G.E "hour" rfl),by show 1<1000;decide,?_⟩;have k2:=k1.trans (sv.put (p:=b) (c:=.ins a.c [("plan",.ref p),("hour",.int h)]));have b2:pF N1 b (.ins a.c [("plan",.ref p),("hour",.int h)]) b=some (.ins a.c [("plan",.ref p),("hour",.int h)]):=pP;show uD _ _ _ _ (pF N1 b (.ins a.c [("plan",.ref p),("hour",.int h)]));generalize pF N1 b (.ins a.c [("plan",.ref p),("hour",.int h)])=N2 at k2 b2 ⊢;refine pq b2 ⟨(G.E "turn" rfl),by show 2<1000;decide,?_⟩;have k3:=k2.trans (sv.put (p:=b) (c:=.ins a.c (bF p h 0 0 0 0 3)));have b3:pF N2 b (.ins a.c (bF p h 0 0 0 0 3)) b=some (.ins a.c (bF p h 0 0 0 0 3)):=pP;show uD _ _ _ _ (pF N2 b (.ins a.c (bF p h 0 0 0 0 3)));generalize pF N2 b (.ins a.c (bF p h 0 0 0 0 3))=N3 at k3 b3 ⊢;clear k1 k2 b1 b2;refine⟨pb rfl,λca hca=>?_⟩;obtain⟨n4,e4,k4,c4,b4⟩:=sY (fs':=(bF p h ca 0 0 0 4)) (c:=.lst []) b3 hca;refine pq e4 ⟨(G.E "calls" rfl),by show 3<1000;decide,?_⟩;show uD _ _ _ _ (pF (pF N3 ca (.lst [])) b (.ins a.c (bF p h ca 0 0 0 4)));generalize pF (pF N3 ca (.lst [])) b (.ins a.c (bF p h ca 0 0 0 4))=N4 at k4 c4 b4 ⊢;have YL:=k3.trans k4;have z1:M ca=none:=rE k3 b3 hca;have lc4:oM N4 ca=some []:=sQ c4;refine⟨pb rfl,λle hle=>?_⟩;obtain⟨n5,e5,k5,c5,b5⟩:=sY (fs':=(bF p h ca le 0 0 5)) (c:=.lst []) b4 hle;refine pq e5 ⟨(G.E "legs" rfl),by show 4<1000;decide,?_⟩;show uD _ _ _ _ (pF (pF N4 le (.lst [])) b (.ins a.c (bF p h ca le 0 0 5)));generalize pF (pF N4 le (.lst [])) b (.ins a.c (bF p h ca le 0 0 5))=N5 at k5 c5 b5 ⊢;have YM:=YL.trans k5;have z2:M le=none:=rE YL b4 hle;have le5:oM N5 le=some []:=sQ c5;have mcl:le≠ca:=λz=>by rw[z,qo lc4]at hle;cases hle
 have lc5:=k5.lst (pT lc4 b4) lc4;have p5:=YM _ _ nbp i1;have g5:=YM.lst (pT i3 hb) i3;clear k3 k4 k5 YL lc4 c4 c5 e4 e5 b3 b4;refine pq p5 (i' rfl (i' g5 ?_));refine tP (f:=QI) (t:=Nr) g5 _ [] _ (by rw[cV];simp only[dJ];omega) (λd hd k hk=>?_) (λd hd _ k hk=>?_) λq1 XH=>?_
 .obtain⟨v,_,rfl⟩:=dC.mp hd;exact hk
 .obtain⟨v,_,rfl⟩:=dC.mp hd;exact⟨pb rfl,hk⟩
 rw[dZ,HR];have Zk:=qr.new (c:=.lst ((l.groups.filter vG).map λg=>D.tup [.str g.1,.int 0])) XH;refine i' pE (i' (xf (λg:uj=>g.1) (λ_=>D.int 0) _) ⟨yD (iA (List.Sublist.map _ gf) (iA (jv _ _) ok.nd)),λnx WS=>?_⟩);have z3:M nx=none:=rE YM b5 (Zk.none WS);obtain⟨n6,e6,k6,c6,b6⟩:=sY (fs':=(bF p h ca le nx 0 6)) (c:=.dk ((l.groups.filter vG).map λg=>((Sum.inr g.1:qW),D.int 0))) (Zk _ _ b5) WS;refine pq e6 ⟨(G.E "nexts" rfl),by show 5<1000;decide,?_⟩;have k6:=Zk.keep.trans k6;have YB:vU "nexts" (.ref nx) (bF p h ca le 0 0 5)=(bF p h ca le nx 0 6):=rfl;rw[YB];generalize pF (pF (pF N5 q1 (.lst ((l.groups.filter vG).map λg=>D.tup [.str g.1,.int 0]))) nx (.dk ((l.groups.filter vG).map λg=>((Sum.inr g.1:qW),D.int 0)))) b (.ins a.c (bF p h ca le nx 0 6))=N6 at k6 b6 c6 ⊢;have x6:zB N6 nx=some ((l.groups.filter vG).map λg=>((Sum.inr g.1:qW),D.int 0)):=Dv c6;have kk6:=YM.trans k6;have lc6:=k6.lst (pT lc5 b5) lc5;have le6:=k6.lst (pT le5 b5) le5;have p6:=kk6 _ _ nbp i1;have o6:=kk6.lst (pT i5 hb) i5;clear YM k6 lc5 p5 g5 e6 c6;refine pq p6 (i' rfl (i' o6 λYg ZN=>?_));have z4:M Yg=none:=rE kk6 b6 ZN;obtain⟨n7,e7,k7,c7,b7⟩:=sY (fs':=(bF p h ca le nx Yg 7)) (c:=.lst (l.mO.map λw=>D.bl w.1)) b6 ZN;refine pq e7 ⟨(G.E "on" rfl),by show 6<1000;decide,?_⟩;have YB:vU "on" (.ref Yg) (bF p h ca le nx 0 6)=(bF p h ca le nx Yg 7):=rfl;rw[YB];generalize pF (pF N6 Yg (.lst (l.mO.map λw=>D.bl w.1))) b (.ins a.c (bF p h ca le nx Yg 7))=N7 at k7 b7 c7 ⊢;have kk7:=kk6.trans k7;have lc7:=k7.lst (pT lc6 b6) lc6;have le7:=k7.lst (pT le6 b6) le6;have x7:=k7.dk (CA x6 b6) x6;have lo7:oM N7 Yg=some ((l.mO.map (·.1)).map D.bl):=by rw[eh];exact sQ c7
 refine⟨pb rfl,λlg hlg=>?_⟩;obtain⟨n8,e8,k8,c8,b8⟩:=sY (fs':=tT (.ref p) h 0 ca le nx Yg lg) (c:=.lst []) b7 hlg;refine pq e8 ⟨(G.E "log" rfl),by show 7<1000;decide,_,.refl,?_⟩;have apart:∀{N:Mp} {x y:Addr} {ds:List D},N x=none->oM N y=some ds->x≠y:=λ{N x y ds} h1 h2 z=>by have:=qo h2;rw[<-z,h1]at this;cases this
 have y5:=rE kk7 b7 hlg;refine q _ ⟨b,ca,le,nx,Yg,lg,[]⟩ rfl (kk7.trans k8) (λx hx=>?_) ⟨b8,k8.lst (pT lc7 b7) lc7,k8.lst (pT le7 b7) le7,?_,k8.lst (pT lo7 b7) lo7,sQ c8,rfl,λi k c e=>by simp at e,?_,dQ.mpr ⟨dF,eJ⟩,λx hx=>?_⟩
 rotate_right
 .by_cases z:x=b
  .exact⟨_,by rw[z];exact b8⟩
  .obtain⟨c,e⟩:=hF x hx;exact⟨c,(kk7.trans k8) x c z e⟩
 .have hx:x∈[b,nx,ca,le,Yg,lg]:=by
   unfold tV.foot tV.lists at hx
   simpa using hx
  simp only[dg,dF,eY]at hx;rcases hx with rfl|rfl|rfl|rfl|rfl|rfl
  .exact .inl rfl
  .exact .inr z3
  .exact .inr z1
  .exact .inr z2
  .exact .inr z4
  .exact .inr y5
 .show zB _ nx=some (tH (vg l));rw[<-Kx];exact k8.dk (CA x7 b7) x7
 .have m1:=apart hlg lc7;have m2:=apart hlg le7;have m3:=apart hlg lo7;have m4:=apart ZN lc6;have m5:=apart ZN le6;show[ca,le,Yg,lg].Nodup;simp only[dQ,dg,dF,eY,fN,not_false_eq_true,eJ,and_true];exact⟨⟨dP mcl,dP m4,dP m1⟩,⟨dP m5,dP m2⟩,dP m3⟩
def VZ{p:Addr}{h:Int}{l:pH}{F:QXQ}(ok:rL l):WF l (V0 p h l F):=by
 refine⟨λi c e=>by simp[V0]at e,λi j ci cj x e=>by simp[V0]at e,λx hx=>?_,λi j ci cj x e=>by simp[V0]at e,λz hz ht=>?_⟩
 .show((0:Nat):Int)<=wJ l x;unfold wJ;cases e:l.ng x with
  | none=>exact Int.le_refl _
  | some v=>have:=(ok.po v (fT e)).l1;show(0:Int)<=v.2.1;omega
 .show ∃v,(vg l).find? (λp=>decide (p.1=z))=some v/\_;unfold pH.mU at ht;cases e:l.group z with
  | none=>rw[e]at ht;exact absurd ht (by decide)
  | some g=>
   rw[e]at ht;have hg:=fT e;have hn:g.1=z:=by simpa using jY e
   have hm:((g.1,0):Str×Int)∈vg l:=dC.mpr ⟨g,eO.mpr ⟨hg,ht⟩,rfl⟩;cases q:(vg l).find? (λp=>decide (p.1=z))with
   | none=>exact absurd (gC.mp q _ hm) (by simp[hn])
   | some v=>refine⟨v,rfl,?_⟩;obtain⟨g',_,rfl⟩:=dC.mp (fT q);exact⟨Int.le_refl _,Int.natCast_nonneg _⟩
noncomputable def EQ(c:pB):D:=.tup [.str c.st,.str c.cr,.tup (c.way.map D.str),.tup (c.at_.map D.str),.tup (c.ms.map D.str),CF c.hd,.int c.si,CF c.wd]
noncomputable def FN(V:qB):D:=.tup [.int V.t,.tup (V.calls.map EQ),.tup ((tF V.ps).map As),.tup (V.on.map D.bl)]
def PD(a:Ad):rf:=λds M Q=>CQ λL k c=>ds=[.ref k.p]/\rM a M L k c/\Q (EQ c) M
def yx(a:Ad):rf:=λds M Q=>BO λA V=>ds=[.ref A.b]/\pN a M A V/\V.calls.length<=10000/\V.ps.length<=3/\Q (FN V) M
def DW{l:pH}(ok:rL l):(vg l).length<=3:=by unfold vg;rw[cV];exact d6 (gF _ _) ok.g3
def Pw:Fq P w K mg base 1 a.aS (PD a):=by
 refine fq G.aS.toDG xo (λr u=>⟨_,(pj (pL 1 xo (pM (rb (pY sy rfl G.z sA (qe (pC v0))) (pY sy rfl G.z sA (qe (pC v0))) (pY sy rfl G.z sA (qe (pC v0))))))
 (pk (pD (pU (pU (pM (rX (pC v0) (pC v0))) U1) (pM (rb (pC v0) (pC v0) (pC v0))))))),?_⟩)
 rintro ds M Q ⟨L,k,c,rfl,⟨ad,md,h1,h2,h3,h4,_⟩,q⟩
 have hz:=dN;refine pq h1 (i' rfl (i' h2 (pq h1 (i' rfl (i' h3 (pq h1 (i' rfl (i' h4 ⟨pb rfl,?_⟩))))))));refine pq h1 (i' rfl (pq h1 (i' rfl ⟨pb rfl,fB _ _,by show 2+3<=sizeLine;omega,?_⟩)));exact pq h1 (i' rfl (pq h1 (i' rfl (pq h1 (i' rfl ⟨pb rfl,fB _ _,by show 5+3<=sizeLine;omega,M,.refl,q⟩)))))
def Cf:Fq P w K mg base 2 a.ab (yx a):=by
 refine fq G.ab.toDG Cq (λr u=>⟨_,(pj (pL 1 Cq (pY sy rfl G.z sA (qe (qH rfl (xy (ix:=[none]) (N':=["call"])) (qF (pC v0)) (qG 0) rS (pI (Pw G) r G.aS (qe v0))))))
 (pk (pD (pM (pV (pC v0) (rb U1 (pY sy rfl G.z sA (qe (D9 rfl (pC v0) rfl G.cC))) (pY sy rfl G.z sA (qe (pC v0))))))))),?_⟩)
 rintro ds M Q ⟨A,V,rfl,bd,W5,h3,q⟩
 have hz:=dN;refine pq bd.at_ (i' rfl (i' bd.ca ?_));refine Bc (A.cs.map λk=>D.ref k.p) (λpre acc δ M'=>M=M'/\acc=(V.calls.take pre.length).map EQ/\∃y,δ=[y]) (λ_ _ _ M' j=>by rw[<-j.1];exact bd.ca) _ [] [] _ _ rfl ?_ ⟨rfl,rfl,none,rfl⟩ ?_ ?_
 .rw[cV,bd.len];simp only[dJ];omega
 .rintro pre d post e acc δ M' ⟨rfl,rfl,y,rfl⟩ k hk
  obtain⟨ka,c,e1,e2,rfl,hc,et⟩:=zo bd e;refine⟨_,ka,c,rfl,hc,hk _ _ _ ⟨rfl,?_,_,rfl⟩⟩;rw[cY,dO,et,dS];rfl
 .rintro acc δ M' ⟨rfl,rfl,y,rfl⟩ p1 X9
  rw[cV,bd.len,fg];refine i' pE ?_;have s1:=qr.new (c:=.lst (V.calls.map EQ)) X9;generalize pF M p1 (.lst (V.calls.map EQ))=M1 at s1 ⊢;refine pq (s1 _ _ bd.at_) (i' rfl (pq (s1 _ _ bd.at_) (i' rfl ⟨V.ps,s1.dk bd.nx,h3,λS hS=>i' pE ?_⟩)));have s2:=s1.trans (qr.new (c:=.lst ((tF V.ps).map As)) hS);generalize pF M1 S (.lst ((tF V.ps).map As))=M2 at s2 ⊢;exact pq (s2 _ _ bd.at_) (i' rfl (i' (s2.lst bd.on) ⟨pb rfl,M,s2,q⟩))
def Ev.noT:Ev->Prop
 | .turn=>False
 | _=>True
def Ev.noN:Ev->Prop
 | .next _ _=>False
 | _=>True
theorem EZ:∀{es:List Ev} {V:qB},(∀e∈es,e.noN)->(qI V es).ps=V.ps
 | [],_,_=>rfl
 | e::r,V,h=>(EZ (es:=r) (V:=qg V e) λx hx=>h x (dE _ hx)).trans (by have:=h e dG;cases e<;>first|rfl|cases this)
theorem Br(i:Nat):∀(st:tL) (q:Option Str),∀e∈rG i q st,e.noT/\e.noN
 | [],_,e,h=>by unfold rG at h;cases h
 | (y,gs)::r,none,e,h=>by
  rcases dg.mp (show e∈Ev.asks i y gs::rG i (some y) r from h)with rfl|h
  .exact⟨trivial,trivial⟩
  .exact Br i r _ e h
 | (y,gs)::r,some u,e,h=>by
  rcases dg.mp (show e∈Ev.leg ⟨i,u,y,u⟩::Ev.asks i y gs::rG i (some y) r from h)with rfl|h
  .exact⟨trivial,trivial⟩
  rcases dg.mp h with rfl|h
  .exact⟨trivial,trivial⟩
  .exact Br i r _ e h
def O4{i:Nat}{st:tL}{en:wc}:∀e∈ub i st en,e.noT/\e.noN:=λe h=>by
 unfold ub at h;cases en with
 | ring ns=>
  dsimp only at h;cases q:st.getLast? with
  | none=>rw[q]at h;cases h
  | some s0=>rw[q]at h;rw[dz.mp h];exact⟨trivial,trivial⟩
 | _=>cases h
def Pm{ps:List (Str×Int)}{z:Str}{n:Int}(h:ps.any (λp=>decide (p.1=z))=true):(Cj ps z n).length=ps.length:=by unfold Cj;rw[df h,cV]
def RV{l:pH}{V V1:qB}{i:Nat}{en:wc}(nx:uy l V1)(he:G2 l V i en):(qI V1 (tK l V i en)).ps.length=V1.ps.length:=by
 cases en with
 | rings z ps=>
  show(qI V1 ((if (l.mU z=="turns")=true then[Ev.next z (Qu (l.mK z) (ps.headD Str.empty))]else[])++[.rings i ps])).ps.length=_;rw[rF];by_cases ht:(l.mU z=="turns")=true
  .rw[df ht];refine Pm ?_;obtain⟨v,e,_⟩:=nx z he.1 ht;exact gz.mpr ⟨v,fT e,by simpa using jY e⟩
  .rw[cZ ht];rfl
 | breaks z=>
  unfold tK;dsimp only;split
  .rfl
  .rfl
 | waits z=>rfl
 | engaged z=>rfl
 | barred=>rfl
 | ring ns=>rfl
def Qn{l:pH}{V:qB}{i:Nat}{k:pB}(ok:rL l)(wf:zK l V (some i))(hk:V.calls[i]?=some k):(qI V (xk l V i)).ps.length=V.ps.length:=by
 have XJ:=wf.ok i k hk;unfold xk;rw[hk];dsimp only[Option.elim];obtain⟨z,hz⟩:∃z,k.way.getLast?=some z:=by
  cases e:k.way.getLast? with
  | none=>exact absurd (gK.mp e) XJ.wy.1
  | some z=>exact⟨z,rfl⟩
 rw[show k.way.getLastD Str.empty=z by rw[im,hz];rfl];have ro:ye l V k.cr (l.nm.length+1) [] (uZ l V k.cr z k.way.dropLast):=zp ok _ _ _ _ (XJ.wy.2 z (gL hz)) λx hx=>XJ.wy.2 x (iW _ hx);have eo:=Mh ok wf hk ro.e;generalize uZ l V k.cr z k.way.dropLast=R at eo;obtain⟨e,st⟩:=R;have e1:(qI (qI V (rG i none st)) (ub i st e)).ps=V.ps:=(EZ λx hx=>(O4 x hx).2).trans (EZ λx hx=>(Br i st none x hx).2);rw[rF,rF];refine(RV (λz hz ht=>?_) eo).trans (eX List.length e1);rw[e1];exact wf.nx z hz ht
theorem Ip{l:pH}(ok:rL l):∀(is:List Nat) {V:qB},WF l V->(qI V (rT l is V)).ps.length=V.ps.length
 | [],V,_=>by unfold rT;rfl
 | i::r,V,wf=>by
  unfold rT;rw[rF];refine(Ip ok r (IT ok wf)).trans ?_;have d:=HV (V:=V) (i:=i) ok;generalize zE l V i=fs at d;cases d with
  | no=>rfl
  | on c k r b x y n hc hs hk hw hy=>rw[Ah hk,rF];exact Qn ok (Fj wf hc hs hy) (Ew hc)
def S6{l:pH}{V:qB}{e:uo}(ok:rL l)(wf:WF l V)(f:e.nH)(h:xu l V e=none):(qI V (xi l V e)).ps.length=V.ps.length:=by
 cases e with
 | call y z=>obtain⟨h1,h2,h3,h4⟩:=FF h;obtain⟨k,hk⟩:=Mw (V:=V) (y:=y) (z:=z);show(qI V (_++xk l _ _)).ps.length=_;rw[rF];exact Qn ok (HY wf h1 h2 h3 h4) hk
 | turn=>exact Ip ok _ (E7 wf)
 | sw b i=>rfl
 | num w x ns=>
  refine eX List.length (EZ λev hev=>?_);obtain⟨_,n⟩:=Hy f h;cases n with
  | answer i c hi hc h1 h2 h3=>rw[dz.mp (show ev∈[Fg V "answer" x i.toNat]from hev),zr hc];trivial
  | hang i c hi hc h1=>
   have hev:ev∈wQ V x i.toNat:=hev;unfold wQ at hev;rw[hc]at hev;dsimp only[Option.elim]at hev;split at hev
   .rw[dz.mp hev];trivial
   split at hev
   .rcases dg.mp hev with rfl|hev
    .trivial
    split at hev
    .rw[dz.mp hev];trivial
    .cases hev
   split at hev
   .rw[dz.mp hev];trivial
   .rw[dz.mp hev];trivial
  | hold i c hi hc h1=>rw[dz.mp (show ev∈[Fg V "hold" x i.toNat]from hev),zr hc];trivial
  | back i c hi hc h1 h2=>rw[dz.mp (show ev∈[Fg V "back" x i.toNat]from hev),zr hc];trivial
  | two _ i j c d hi hj hw hc hd h1 h2=>rw[dz.mp (show ev∈[GD V w x i.toNat j.toNat]from hev),Ia hc hd];trivial
theorem zW(n:Nat):∀ss:QQQ,(ss.map D.str).all (tj n)=true
 | []=>rfl
 | s::r=>by rw[dX,eW,zW n r];cases n<;>rfl
theorem DN(n:Nat):∀ss:List Nat,(ss.map λi=>D.int (i:Nat)).all (tj n)=true
 | []=>rfl
 | s::r=>by rw[dX,eW,DN n r];cases n<;>rfl
theorem GE(n:Nat):∀ss:List Bool,(ss.map D.bl).all (tj n)=true
 | []=>rfl
 | s::r=>by rw[dX,eW,GE n r];cases n<;>rfl
def NL(e:Ev):tj 6 e.d=true:=by
 have t:∀ss:QQQ,tj 5 (names ss)=true:=λss=>zW 4 ss;have u:∀ss:List Nat,tj 5 (wq ss)=true:=λss=>DN 4 ss;cases e with
 | asks i z ns=>show([D.str "asks",.int (i:Nat),.str z,wq ns].all (tj 5))=true;simp only[eW,u];rfl
 | merge i j ms=>show([D.str "merge",.int (i:Nat),.int (j:Nat),names ms].all (tj 5))=true;simp only[eW,t];rfl
 | rings i ps=>show([D.str "rings",.int (i:Nat),names ps].all (tj 5))=true;simp only[eW,t];rfl
 | talks i ps=>show([D.str "talks",.int (i:Nat),names ps].all (tj 5))=true;simp only[eW,t];rfl
 | _=>rfl
def Li{n:Nat}(V:qB):tj (n+4) (FN V)=true:=by
 have c1:∀c∈V.calls,tj (n+2) (EQ c)=true:=λc hc=>by
  have h0:∀o:Option Str,tj (n+1) (CF o)=true:=λo=>by cases o<;>rfl
  have t:∀ss:QQQ,tj (n+1) (.tup (ss.map D.str))=true:=λss=>zW n ss;show([D.str c.st,.str c.cr,.tup (c.way.map D.str),.tup (c.at_.map D.str),.tup (c.ms.map D.str),CF c.hd,.int c.si,CF c.wd].all (tj (n+1)))=true;simp only[eW,t,h0];rfl
 have c2:tj (n+3) (.tup (V.calls.map EQ))=true:=by show(V.calls.map EQ).all (tj (n+2))=true;rw[jG,eK];exact c1
 have c3:tj (n+3) (.tup ((tF V.ps).map L3.As))=true:=by show((tF V.ps).map L3.As).all (tj (n+2))=true;rw[jG,eK];exact λx _=>rfl
 have c4:tj (n+3) (.tup (V.on.map D.bl))=true:=GE (n+2) _;show([D.int V.t,.tup (V.calls.map EQ),.tup ((tF V.ps).map L3.As),.tup (V.on.map D.bl)].all (tj (n+3)))=true;simp only[eW,c2,c3,c4];rfl
noncomputable def Bm(c:pB):QQQ:=if (c.st=="talks"||c.st=="held")=true then c.ms else c.cr::c.at_
def Kg(a:Ad):rf:=λds M Q=>CQ λL k c=>ds=[.ref (rA.p k)]/\rM a M L k c/\c.at_.length<=100/\∀r M',qr M M'->oM M' r=some ((Bm c).map D.str)->Q (.ref r) M'
noncomputable def MM(V:qB)(XO:QQQ):List Nat:=(List.range V.calls.length).filter λi=>(V.calls[i]?).elim false λc=>hasS XO c.st
def PV(a:Ad):rf:=λds M Q=>Ba λA V l XO=>ds=[.ref A.b,.tup (List.map D.str XO)]/\Rd a M A V l/\∀r M',qr M M'->oM M' r=some ((MM V XO).map λn=>D.int (n:Nat))->Q (.ref r) M'
noncomputable def RG(V:qB)(XO:QQQ):D->Bool
 | .int n=>(V.calls[n.toNat]?).elim false λc=>hasS XO c.st
 | _=>false
def Kf:Fq P w K mg base 1 a.bo (Kg a):=by
 refine fq G.bo.toDG Dk (λr u=>⟨_,(pj (pQ (W3.b3 (xQ (pG u (pC v0) pA) (wR (pG u (pC v0) pA))))
 (pk (pD (pY tq rfl G.y sZ (qe (pC v0)))))
 pJ)
 (pk (pD (pU (qP (qe (pC v0))) (pY tq rfl G.y sZ (qe (pC v0))))))),?_⟩)
 rintro ds M Q ⟨L,k,c,rfl,⟨ad,md,h1,h2,h3,h4,_⟩,ha,q⟩
 have hz:=dN;unfold Bm at q;refine pq h1 (i' rfl (qD (c:=c.st=="talks") (λg=>?_) (λg=>?_)))
 .rw[g,hU,df rfl]at q;exact pq h1 (i' rfl (i' h4 λr hr=>⟨_,.refl,q r _ (.new hr) pE⟩))
 rw[dH.mpr g,fE]at q;refine pq h1 (i' rfl (qD (c:=c.st=="held") (λg=>?_) (λg=>?_)))
 .rw[df g]at q;exact pq h1 (i' rfl (i' h4 λr hr=>⟨_,.refl,q r _ (.new hr) pE⟩))
 rw[cZ g]at q;refine pq h1 (i' rfl ⟨pb rfl,λr1 Xq=>?_⟩);have t1:=qr.new (c:=.lst [D.str c.cr]) Xq;have l1:=@pE M r1 [D.str c.cr];show AN (pF M r1 (.lst [D.str c.cr]) k.p) _;generalize pF M r1 (.lst [D.str c.cr])=M1 at t1 l1 ⊢;refine pq (t1 _ _ h1) (i' rfl (i' (t1.lst h3) λr2 Y5=>?_));have t2:=qr.new (c:=.lst (c.at_.map D.str)) Y5;refine i' (t2.lst l1) (i' pE ⟨?_,λr3 Zl=>⟨_,.refl,q r3 _ (t1.trans (t2.trans (.new Zl))) pE⟩⟩);rw[cV];show 1+c.at_.length<=sizeLine;omega
def PL:Fq P w K mg base 1 a.bp (PV a):=by
 refine fq G.bp.toDG AS (λr u=>⟨_,(pk (pD (qH rfl (xy (ix:=[none,some 0,some 1]) (N':=["_law_k","_law_board","_law_states"])) (wu rfl G.aP (qe (pS qx rfl G.g qv (qe (pC v0))))) (qG 0) (uY (pG u (pC (pK (pC U1) v0)) U2)) v0))),?_⟩)
 rintro ds M Q ⟨A,V,l,XO,rfl,rd,q⟩
 have hz:=dN;have lc:((A.cs.map λk=>D.ref k.p).length:Int)=(V.calls.length:Nat):=by rw[cV,rd.bd.len]
 have hb:=rd.k;refine pq rd.bd.at_ (i' rfl (i' rd.bd.ca ?_));rw[lc];refine⟨rfl,⟨by omega,by omega⟩,?_⟩;refine tP (f:=id) (t:=RG V XO) trivial _ [] _ (by rw[cV,eD];simp only[dJ];omega) (λd hd k hk=>?_) (λd hd _ k hk=>?_) λr hr=>?_
 .obtain⟨i,hi,rfl⟩:=dC.mp hd;rw[gj]at hi;have hi:i<V.calls.length:=by omega
  obtain⟨k',ek,⟨ad,md,h1,_⟩⟩:=rd.call (cX hi);have ea:vC (A.cs.map λk=>D.ref k.p) (0+(i:Nat))=some (.ref k'.p):=by rw[mF];exact rj ek
  refine pq rd.bd.at_ (i' rfl (i' rfl (i' rd.bd.ca (i' ea (pq h1 (i' rfl (i' rfl ⟨rfl,ql _,?_⟩)))))));show k (inD (.str V.calls[i].st) (XO.map D.str)) M;rw[rZ];have e1:RG V XO (.int (0+(i:Nat)))=hasS XO V.calls[i].st:=by show(V.calls[(0+(i:Int)).toNat]?).elim false _=_;rw[show(0+(i:Int)).toNat=i by omega,cX hi];rfl
  show k (hasS XO V.calls[i].st) M;rw[<-e1];exact hk
 .exact hk
 .refine⟨_,.refl,q r _ (.new hr) (pE.trans (eX some ?_))⟩;rw[dZ,je,gX,show(((V.calls.length:Nat):Int)).toNat=V.calls.length from rfl];unfold MM;have e1:(RG V XO∘λi:Nat=>D.int (0+(i:Nat)))=λi=>(V.calls[i]?).elim false λc=>hasS XO c.st:=funext λi=>by show(V.calls[(0+(i:Int)).toNat]?).elim false _=_;rw[show(0+(i:Int)).toNat=i by omega]
  rw[e1];exact gw λi _=>by rw[mF]
noncomputable def GT:Str->QQQ:=λw=>if (w=="answer")=true then["rings","waits"]else if (w=="hold")=true then["talks"]else if (w=="hang")=true then["rings","waits","talks","held"]else["held"]
def Q8(w:Str):Prop:=w="answer"\/w="hang"\/w="hold"\/w="back"\/w="hand"\/w="join"
def Kl(a:Ad):rf:=λds M Q=>G7 λA V l c w=>ds=[.ref A.b,.int c,.str w,.tup ((GT w).map D.str)]/\Rd a M A V l/\WF l V/\(∀k∈V.calls,k.at_.length<=100)/\Q8 w/\∀M',qr M M'->Q .mS M'/\∀e:uo,e.nH->Q e.d M'
def RU{M:Mp}{n:Nat}{a b:Addr}{ds:List D}(ha:oM M a=some ds)(hb:oM M b=some []):xx M (n+1) (.ref a) (.ref b)=some ds.isEmpty:=by
 show(oM M a).bind (λi=>(oM M b).bind λj=>if i.length=j.length then sE (xx M n) i j else some false)=_;rw[ha,hb];cases ds with
 | nil=>rfl
 | cons x r=>rfl
def uQ{α:Type}(f:α->D){xs:List α}(h:xs≠[])(c k:Int):(0:Int)<((xs.map f).length:Nat)/\∃x∈xs,vC (xs.map f) (qA c k ((xs.map f).length:Nat))=some (f x):=by
 have hp:(0:Int)<((xs.map f).length:Nat):=by have:=fC.mpr h;rw[cV];omega
 have d0:=qU (c:=c) (f:=k) hp;have d1:=qL (c:=c) (f:=k) hp;obtain⟨n,e⟩:=eC d0;rw[e]at d1 ⊢;have hn:n<xs.length:=by rw[cV]at d1;omega
 exact⟨hp,xs[n],ib hn,ur (by rw[dD,cX hn];rfl)⟩
def Sy{V:qB}{XO:QQQ}{i:Nat}(h:i∈MM V XO):∃c,V.calls[i]?=some c/\c.st∈XO:=by
 have h:=(eO.mp h).2;cases e:V.calls[i]? with
 | none=>rw[e]at h;cases h
 | some c=>rw[e]at h;exact⟨c,rfl,qw.mp h⟩
def DX{l:pH}{c:pB}(k:vS l false c)(h:c.st≠"over"):Bm c≠[]:=by
 unfold Bm;split
 .rename_i g;rcases k.sh with z|⟨_,z|z|⟨_,z⟩|z⟩
  .rw[z.1]at g;exact absurd g (by decide)
  .rw[z.1]at g;exact absurd g (by decide)
  .intro y;rw[y]at z;rcases z.2.1 with u|u<;>cases u
  .intro y;rw[y]at z;cases z.2.1
  .exact absurd z.1 h
 .exact fB _ _
def Tp{l:pH}{c:pB}(k:vS l false c)(h:c.st∈GT "answer"):c.at_≠[]:=by
 have h:c.st="rings"\/c.st="waits":=by
  rcases dg.mp h with g|g
  .exact .inl g
  .exact .inr (dz.mp g)
 rcases k.sh with z|⟨_,z|z|⟨_,z⟩|z⟩
 .exact z.2.2.2.2.2 rfl
 .intro y;rw[y]at z;cases z.2.2.2.2
 all_goals(rw[z.1]at h;exact absurd h (by decide))
def Jk{l:pH}{c:pB}(k:vS l false c)(h:c.st="held"):∃x,c.hd=some x:=by
 rcases k.sh with z|⟨_,z|z|⟨x,z⟩|z⟩
 .rw[h]at z;exact absurd z.1 (by decide)
 .rw[h]at z;exact absurd z.1 (by decide)
 .rw[h]at z;exact absurd z.1 (by decide)
 .exact⟨x,z.2.2.1⟩
 .rw[h]at z;exact absurd z.1 (by decide)
def JI:Fq P w K mg base 4 a.bq (Kl a):=by
 refine fq G.bq.toDG rD (λr u=>⟨_,(pj (pL 4 rD (pI (PL G) r G.bp (rX v0 U3)))
 (pj (pQ (pG u v4 (qP sX))
 (pk (pD sD))
 pJ)
 (pj (pL 5 rD (pK v4 (pI (qK G) r G.i (rb U1 pz (pS qx rfl G.g qv (qe v4))))))
 (pj (pL 6 rD (pI (Kf G) r G.bo (qe (pK (pC v0) v5))))
 (pj (pQ (pG u U2 pA)
 (pk (pL 6 rD (pY tq rfl G.y sZ (qe (pC (pK (pC v0) v5))))))
 pJ)
 (pj (pQ (W3.b3 (xQ (pG u U2 pA) (xQ (pG u U2 pA) (wR (pG u U2 pA)))))
 (pk (pL 6 rD (qP (qe (pC (pK (pC v0) v5))))))
 pJ)
 (pj (pL 7 rD (pK v6 (pI (qK G) r G.i (rb U1 pz (pS qx rfl G.g qv (qe v6))))))
 (pj (pQ (W3.b3 (xQ (pG u U2 pA) (wR (pG u U2 pA))))
 (pj (pL 8 rD (pX v0 G.c.toCls G.R (yQ G) r (qe v7)))
 (pk (pD (pM (pV U2 (rb v7 v5 (Qy (pG u v8 sD) pz v8)))))))
 pJ)
 (pk (pD (pM (rb U2 v7 v5)))))))))))),?_⟩)
 rintro ds M Q ⟨A,V,l,c,wd,rfl,rd,wf,ha,ho,q⟩
 have hz:=dN;refine⟨A,V,l,GT wd,rfl,rd,λr M1 s1 lr=>?_⟩;refine⟨pb rfl,λr0 ZO=>?_⟩;have t2:=qr.new (c:=.lst []) ZO;have Zp:=t2.lst lr;refine i' (RU Zp pE) ?_;have s2:=s1.trans t2;generalize pF M1 r0 (.lst [])=M2 at s2 Zp ⊢;clear t2 lr ZO s1;refine qD (c:=((MM V (GT wd)).map λn=>D.int (n:Nat)).isEmpty) (λ_=>⟨M2,.refl,(q M2 s2).1⟩) (λg=>?_);have gne:MM V (GT wd)≠[]:=λz=>g (by rw[z];rfl);obtain⟨hp,i,hi,ei⟩:=uQ (λn:Nat=>D.int (n:Nat)) gne c 40692;obtain⟨cv,hc,hs⟩:=Sy hi;have YO:=rd.sub s2;obtain⟨k,ek,ca⟩:=YO.call hc;have ca0:=ca;obtain⟨ad,md,h1,h2,h3,h4,_⟩:=ca0;have XJ:=wf.ok i cv hc;refine i' Zp ⟨c,_,_,rfl,hp,i' Zp (i' ei ?_)⟩;refine pq YO.bd.at_ (i' rfl (i' rfl (i' YO.bd.ca (i' (rj ek) ?_))));refine⟨_,k,cv,rfl,ca,ha cv (qS hc),λr3 M3 s3 lr3=>?_⟩;have Xp:=s3 _ _ h1;have q3:=λM' (s:qr M3 M')=>q M' (s2.trans (s3.trans s));have Ym:=YO.sub s3;have Zj:=s3.lst h3;clear q Zp s2 h1 h2 h3 h4 ca;rcases ho with rfl|rfl|rfl|rfl|rfl|rfl
 .
  refine pq Ym.bd.at_ (i' rfl (i' rfl (i' Ym.bd.ca (i' (rj ek) (pq Xp (i' rfl (i' Zj λr4 hr4=>?_)))))));obtain⟨WP,x,hx,ex⟩:=uQ D.str (Tp XJ hs) c 742938285;refine i' pE ⟨c,_,_,rfl,WP,i' pE (i' ex ?_)⟩;exact⟨pb rfl,_,.refl,(q3 _ (.new hr4)).2 (.num "answer" x [(i:Nat)]) (.inl ⟨.inl rfl,rfl⟩)⟩
 .
  obtain⟨WP,x,hx,ex⟩:=uQ D.str (DX XJ (λz=>by rw[z]at hs;exact absurd hs (by decide))) c 742938285;refine i' lr3 ⟨c,_,_,rfl,WP,i' lr3 (i' ex ?_)⟩;exact⟨pb rfl,_,.refl,(q3 _ .refl).2 (.num "hang" x [(i:Nat)]) (.inl ⟨.inr (.inl rfl),rfl⟩)⟩
 .
  obtain⟨WP,x,hx,ex⟩:=uQ D.str (DX XJ (λz=>by rw[z]at hs;exact absurd hs (by decide))) c 742938285;refine i' lr3 ⟨c,_,_,rfl,WP,i' lr3 (i' ex ?_)⟩;exact⟨pb rfl,_,.refl,(q3 _ .refl).2 (.num "hold" x [(i:Nat)]) (.inl ⟨.inr (.inr (.inl rfl)),rfl⟩)⟩
 .
  obtain⟨y,hy⟩:=Jk XJ (dz.mp hs);refine pq Ym.bd.at_ (i' rfl (i' rfl (i' Ym.bd.ca (i' (rj ek) (pq Xp (i' rfl ⟨pb rfl,λr4 hr4=>?_⟩))))));rw[show CF cv.hd=.str y by rw[hy];rfl];obtain⟨WP,x,hx,ex⟩:=uQ D.str (fB y []) c 742938285;refine i' pE ⟨c,_,_,rfl,WP,i' pE (i' ex ?_)⟩;exact⟨pb rfl,_,.refl,(q3 _ (.new hr4)).2 (.num "back" x [(i:Nat)]) (.inl ⟨.inr (.inr (.inr rfl)),rfl⟩)⟩
 all_goals
  obtain⟨y,hy⟩:=Jk XJ (dz.mp hs);refine pq Ym.bd.at_ (i' rfl (i' rfl (i' Ym.bd.ca (i' (rj ek) (pq Xp (i' rfl ⟨pb rfl,λr4 hr4=>?_⟩))))));rw[show CF cv.hd=.str y by rw[hy];rfl];obtain⟨WP,x,hx,ex⟩:=uQ D.str (fB y []) c 742938285;refine i' pE ⟨c,_,_,rfl,WP,i' pE (i' ex ?_)⟩;have t4:=qr.new (c:=.lst [D.str y]) hr4;refine pq (t4 _ _ Ym.bd.at_) ⟨rfl,_,⟨rfl,rfl⟩,A,V,x,rfl,Ym.bd.sub t4,Ym.k,?_⟩;unfold Au;cases vP V x with
  | none=>first|exact⟨pb rfl,_,.refl,(q3 _ t4).2 (.num "hand" x [(i:Nat),(0:Nat)]) (.inr ⟨.inl rfl,rfl⟩)⟩|exact⟨pb rfl,_,.refl,(q3 _ t4).2 (.num "join" x [(i:Nat),(0:Nat)]) (.inr ⟨.inr rfl,rfl⟩)⟩
  | some j=>first|exact⟨pb rfl,_,.refl,(q3 _ t4).2 (.num "hand" x [(i:Nat),(j:Nat)]) (.inr ⟨.inl rfl,rfl⟩)⟩|exact⟨pb rfl,_,.refl,(q3 _ t4).2 (.num "join" x [(i:Nat),(j:Nat)]) (.inr ⟨.inr rfl,rfl⟩)⟩
def Ik:rf:=λds M Q=>Ky λc o n own nm m=>ds=[.int c,.ref o,.ref n,.int ((m:Nat):Int)]/\oM M o=some (List.map D.str own)/\oM M n=some (List.map D.str nm)/\own.length<=100/\nm.length<=100/\m<=1000000/\∀M' (e:uo),qr M M'->e.nH->Q e.d M'
def Lz(a:Ad):rf:=λds M Q=>Ql λA V l c o n own nm=>ds=[.ref A.b,.int c,.ref o,.ref n]/\Rd a M A V l/\WF l V/\(∀k∈V.calls,k.at_.length<=100)/\oM M o=some (List.map D.str own)/\oM M n=some (List.map D.str nm)/\own≠[]/\nm≠[]/\own.length<=100/\nm.length<=100/\∀M' (e:uo),qr M M'->e.nH->Q e.d M'
def II{α:Type}(f:α->D){xs:List α}(h:xs≠[]){m:Int}(hm:m=(xs.length:Nat))(c k:Int):(0:Int)<m/\∃x∈xs,vC (xs.map f) (qA c k m)=some (f x):=by have:=uQ f h c k;rw[cV,<-hm]at this;exact this
def O5{α:Type}(xs:List α)(x:α):xs++[x]≠[]:=by simp
noncomputable def Hh:QQQ:=["call","call","call","call","call","answer","answer","answer","answer","answer","hang","hang","hold","hold","hold","back","hand","join","turn","turn","turn"]
theorem DB(d:D):∀n:Nat,(List.replicate n [d]).flatten=List.replicate n d
 | 0=>rfl
 | n+1=>by rw[eI,fP,DB d n,eI];rfl
noncomputable def zz:Str:="zzzzzz"
noncomputable def Ni(a b:Str)(k m:Int):List uo:=[.call a b,.num "answer" a [k],.num "hang" a [k],.num "hold" a [k],.num "back" a [k],.num "hand" a [k,m],.num "join" a [k,m],.turn,.sw true k,.sw false k]
def Mr{a b:Str}{k m:Int}{e:uo}(h:e∈Ni a b k m):e.nH:=by
 unfold Ni at h;simp only[dg,dF,eY]at h;rcases h with rfl|rfl|rfl|rfl|rfl|rfl|rfl|rfl|rfl|rfl
 .trivial
 .exact .inl ⟨.inl rfl,rfl⟩
 .exact .inl ⟨.inr (.inl rfl),rfl⟩
 .exact .inl ⟨.inr (.inr (.inl rfl)),rfl⟩
 .exact .inl ⟨.inr (.inr (.inr rfl)),rfl⟩
 .exact .inr ⟨.inl rfl,rfl⟩
 .exact .inr ⟨.inr rfl,rfl⟩
 .trivial
 .trivial
 .trivial
def Oe:Fq P w K mg base 2 a.br Ik:=by
 refine fq G.br.toDG uK (λr u=>⟨_,(pj (pL 4 uK (pK (pU U1 (qP (qe pA))) (pI (qK G) r G.i (rb v0 pz (pU (pS qx rfl G.g qv (qe U1)) pz)))))
 (pj (pL 5 uK (pK (pU U2 (qP (qe pA))) (pI (qK G) r G.i (rb v0 pz (pU (pS qx rfl G.g qv (qe U2)) pz)))))
 (pj (pL 6 uK (pU (pI (qK G) r G.i (rb v0 pz (pU U3 pz))) pz))
 (pj (pL 7 uK (pU (pI (qK G) r G.i (rb v0 pz (pU U3 pz))) pz))
 (pj (pL 8 uK (qP (pV (pM (rb pA v4 v5)) (pV (pM (rb pA v4 v6)) (pV (pM (rb pA v4 v6)) (rb (pM (rb pA v4 v6)) (pM (rb pA v4 v6)) (pM (pV pA (rb v4 v6 v7)))))))))
 (pk (pD (pK (pU v8 (qP (pV (pM (pV pA (rb v4 v6 v7))) (rb (pM (qe pA)) (pM (rX pA v6)) (pM (rX pA v6)))))) (pI (qK G) r G.i (rb v0 pz pz)))))))))),?_⟩)
 rintro ds M Q ⟨c,o,n,own,nm,m,rfl,ho,hn,ol,nl,ml,q⟩
 have hz:=dN;have add:∀{M1:Mp} {p:Addr} {xs:QQQ} (f:Int) (nx:DK),qr M M1->oM M1 p=some (xs.map D.str)->xs.length<=100->(∀x M',qr M M'->nx (.str x) M')->∀r1,M1 r1=none->(oM (pF M1 r1 (.lst [D.str zz])) p).elim False λi=>(oM (pF M1 r1 (.lst [D.str zz])) r1).elim False λj=>i.length+j.length<=sizeLine/\∀r2,pF M1 r1 (.lst [D.str zz]) r2=none->(oM (pF (pF M1 r1 (.lst [D.str zz])) r2 (.lst (i++j))) p).elim False λys=>Iu [.int c,.int f,.int ((ys.length:Nat)+1)] (pF (pF M1 r1 (.lst [D.str zz])) r2 (.lst (i++j))) λy M2=>match y with
  | .int n=>(oM M2 r2).elim False λzs=>(vC zs n).elim False λd=>nx d M2
  | _=>False:=λ{M1 p xs} f nx s hx lx WS r1 Xq=>by
  have t1:=qr.new (c:=.lst [D.str zz]) Xq;refine i' (t1.lst hx) (i' pE ⟨by rw[cV];show xs.length+1<=sizeLine;omega,λr2 Y5=>?_⟩);have t2:=qr.new (c:=.lst (xs.map D.str++[D.str zz])) Y5;obtain⟨hp,x,_,ex⟩:=II D.str (O5 xs zz) (m:=((xs.map D.str).length:Nat)+1) (by rw[cV,cY];rfl) c f;rw[dS]at ex;exact i' ((t1.trans t2).lst hx) ⟨c,f,_,rfl,hp,i' pE (i' ex (WS x _ (s.trans (t1.trans t2))))⟩
 refine⟨pb rfl,add 16807 _ .refl ho ol λx M1 s1=>⟨pb rfl,add 39373 _ s1 (s1.lst hn) nl λy M2 s2=>?_⟩⟩;refine⟨c,_,_,rfl,by show(0:Int)<(m:Nat)+2;omega,⟨c,_,_,rfl,by show(0:Int)<(m:Nat)+2;omega,?_⟩⟩;generalize qA c 69621 ((m:Nat)+2) - 1=k0;refine⟨pb rfl,pb rfl,pb rfl,pb rfl,pb rfl,pb rfl,pb rfl,λr8 hr8=>⟨pb rfl,pb rfl,pb rfl,pb rfl,pb rfl,λr9 hr9=>?_⟩⟩;have t8:=qr.new (c:=.lst (((Ni x y k0 (qA c 22695477 ((m:Nat)+2) - 1)).take 6).map uo.d)) hr8;have t9:=qr.new (c:=.lst (((Ni x y k0 (qA c 22695477 ((m:Nat)+2) - 1)).drop 6).map uo.d)) hr9;refine i' (t9.lst pE) (i' pE ⟨by show 6+4<=sizeLine;omega,λr10 hr10=>?_⟩);obtain⟨hp,e,he,ee⟩:=II uo.d (xs:=Ni x y k0 (qA c 22695477 ((m:Nat)+2) - 1)) (fB _ _) (m:=10) rfl c 1664525;exact⟨c,_,_,rfl,hp,i' pE (i' ee ⟨_,.refl,q _ e (s2.trans (t8.trans (t9.trans (.new hr10)))) (Mr he)⟩)⟩
def LM:Fq P w K mg base 5 a.bs (Lz a):=by
 refine fq G.bs.toDG rC (λr u=>⟨_,(pj (pL 4 rC (pU (pU (pU (pU (pU (Ci (qP (qe pA)) pz) (Ci (qP (qe pA)) pz)) (Ci (qP (qe pA)) pz)) (Ci (qP (qe pA)) pz)) (qP (rb pA pA pA))) (Ci (qP (qe pA)) pz)))
 (pj (pL 4 rC (pK v4 (pI (qK G) r G.i (rb U1 pz (pS qx rfl G.g qv (qe v4))))))
 (pj (pL 5 rC (pM (pV pA (rb pA pA pA))))
 (pj (pQ (pG u v4 pA)
 (pk (pL 5 rC (pM (rX pA pA))))
 pJ)
 (pj (pQ (pG u v4 pA)
 (pk (pL 5 rC (pM (qe pA))))
 pJ)
 (pj (pQ (W3.b3 (xQ (pG u v4 pA) (xQ (pG u v4 pA) (wR (pG u v4 pA)))))
 (pk (pL 5 rC (pM (qe pA))))
 pJ)
 (pj (pQ (pG u v4 pA)
 (pk (pD (pM (qe pA))))
 pJ)
 (pj (pQ (pG u (pI (qK G) r G.i (rb U1 pz pz)) pz)
 (pk (pD (pI (Oe G) r G.br (pV U1 (rb U2 U3 (pS qx rfl G.g qv (qe (pC v0))))))))
 pJ)
 (pj (pL 6 rC sD)
 (pj (pQ (pG u v4 pA)
 (pk (pL 6 rC (pI (JI G) r G.bq (pV v0 (rb U1 v4 v5)))))
 pJ)
 (pj (pQ (pG u v6 sD)
 (pj (pL 7 rC (pK U2 (pI (qK G) r G.i (rb U1 pz (pS qx rfl G.g qv (qe U2))))))
 (pk (pL 6 rC (pM (rb pA v7 (pK U3 (pI (qK G) r G.i (rb U1 pz (pS qx rfl G.g qv (qe U3))))))))))
 pJ)
 (pk (pD v6))))))))))))),?_⟩)
 rintro ds M Q ⟨A,V,l,c,o,n,own,nm,rfl,rd,wf,ha,ho,hn,one,nne,ol,nl,q⟩
 have hz:=dN;refine KF (t:=Ab _ _) (λδ M'=>qr M M'/\∃r,oM M' r=some (Hh.map D.str)/\δ=[some (.ref A.b),some (.int c),some (.ref o),some (.ref n),some (.ref r),none,none,none]) (λnx h=>?_) ?_
 .have YE:∀{N:Mp} {δ:vo} (w0:Str) (m:Int) (nx:DK),qr M N->(0<=m/\m<=10)->(∀r N',qr M N'->qr N N'->oM N' r=some ((List.replicate m.toNat w0).map D.str)->nx (.ref r) N')->Ui (UH (sf (L3.c3 (.str w0)) uT)) (L3.c3 (.int m)) δ N nx:=λ{N δ} w0 m nx sn hm WS=>by refine⟨pb rfl,λr1 Xq=>?_⟩;refine i' pE ⟨⟨by omega,by omega,by show 1<=1000;decide⟩,λr2 Y5=>?_⟩;have t:=(qr.new (c:=.lst [D.str w0]) Xq).trans (qr.new (c:=.lst (List.replicate m.toNat [D.str w0]).flatten) Y5);refine WS r2 _ (sn.trans t) t (pE.trans (eX some ?_));rw[List.map_replicate];exact DB _ _
  have XQ:∀{N:Mp} {p r:Addr} {xs ys:QQQ} (nx:DK),qr M N->oM N p=some (xs.map D.str)->oM N r=some (ys.map D.str)->xs.length+ys.length<=100->(∀r N',qr M N'->oM N' r=some ((xs++ys).map D.str)->nx (.ref r) N')->UT .Add (.ref p) (.ref r) N nx:=λ{N p r xs ys} nx sn hx hy hl WS=>by refine i' hx (i' hy ⟨by rw[cV,cV];omega,λr2 Y5=>?_⟩);refine WS r2 _ (sn.trans (.new Y5)) (pE.trans (eX some ?_));rw[dS]
  dsimp only[Ab,o3];refine YE "call" 5 _ .refl (by decide) λp1 N1 s1 _ l1=>YE "answer" 5 _ s1 (by decide) λq2 N2 s2 t2 l2=>XQ _ s2 (t2.lst l1) l2 (by decide) λp2 N3 s3 l3=>YE "hang" 2 _ s3 (by decide) λq4 N4 s4 t4 l4=>XQ _ s4 (t4.lst l3) l4 (by decide) λp5 N5 s5 l5=>YE "hold" 3 _ s5 (by decide) λq6 N6 s6 t6 l6=>XQ _ s6 (t6.lst l5) l6 (by decide) λp7 N7 s7 l7=>⟨pb rfl,λr8 hr8=>?_⟩;have t8:=qr.new (c:=.lst ((["back","hand","join"]:QQQ).map D.str)) hr8;exact XQ (ys:=["back","hand","join"]) _ (s7.trans t8) (t8.lst l7) pE (by decide) λp9 N9 s9 l9=>YE "turn" 3 _ s9 (by decide) λq10 N10 s10 t10 l10=>XQ _ s10 (t10.lst l9) l10 (by decide) λp11 N11 s11 l11=>h _ _ ⟨s11,p11,l11,rfl⟩
 rintro δ M1 ⟨s1,r,lr,rfl⟩
 have s1n:=s1.lst hn;have s1o:=s1.lst ho;obtain⟨hp,w0,hw,ew⟩:=uQ D.str (show Hh≠[]from fB _ _) c 48271;refine i' lr ⟨c,_,_,rfl,hp,i' lr (i' ew ?_)⟩;obtain⟨X9,x1,hx1,ex1⟩:=uQ D.str one c 16807;obtain⟨WP,x2,hx2,ex2⟩:=uQ D.str nne c 39373;have YC:=rd.sub s1;have lc:((A.cs.map λk=>D.ref k.p).length:Int)=(V.calls.length:Nat):=by rw[cV,rd.bd.len]
 clear lr hp ew;have hw:w0="call"\/w0="turn"\/Q8 w0:=by unfold Hh at hw;simp only[dg,dF,eY]at hw;unfold Q8;rcases hw with h|h|h|h|h|h|h|h|h|h|h|h|h|h|h|h|h|h|h|h|h<;>simp[h]
 have WM:∀M' (e:uo),qr M1 M'->e.nH->∃WL,qr WL M'/\Q e.d WL:=λM' e s f=>⟨M',.refl,q M' e (s1.trans s) f⟩;rcases hw with rfl|rfl|hw
 .refine⟨pb rfl,c,_,_,rfl,by decide,qD (c:=qA c 950706376 9==0) (λ_=>pq YC.bd.at_ (i' rfl (i' YC.bd.ca ?_))) (λ_=>?_)⟩
  .rw[lc];exact⟨c,o,n,own,nm,V.calls.length,rfl,s1o,s1n,ol,nl,rd.k,WM⟩
  exact i' s1o ⟨c,_,_,rfl,X9,i' s1o (i' ex1 (i' s1n ⟨c,_,_,rfl,WP,i' s1n (i' ex2 ⟨pb rfl,WM M1 (.call x1 x2) .refl trivial⟩)⟩))⟩
 .exact⟨pb rfl,pb rfl,WM M1 .turn .refl trivial⟩
 have lany:Ik [.int c,.ref o,.ref n,.int ((V.calls.length:Nat):Int)] M1 λd M'=>∃WL,qr WL M'/\Q d WL:=⟨c,o,n,own,nm,V.calls.length,rfl,s1o,s1n,ol,nl,rd.k,WM⟩;have hw':=hw;rcases hw with rfl|rfl|rfl|rfl|rfl|rfl
 all_goals
  first
   | refine⟨pb rfl,pb rfl,c,_,_,rfl,by decide,qD (c:=qA c 950706376 9==0) (λ_=>pq YC.bd.at_ (i' rfl (i' YC.bd.ca ?_))) (λ_=>⟨A,V,l,c,_,rfl,YC,wf,ha,hw',λM' s=>⟨?_,λe f=>?_⟩⟩)⟩
   | refine⟨pb rfl,c,_,_,rfl,by decide,qD (c:=qA c 950706376 9==0) (λ_=>pq YC.bd.at_ (i' rfl (i' YC.bd.ca ?_))) (λ_=>⟨A,V,l,c,_,rfl,YC,wf,ha,hw',λM' s=>⟨?_,λe f=>?_⟩⟩)⟩
  .rw[lc];exact lany
  .exact i' (s.lst s1o) ⟨c,_,_,rfl,X9,i' (s.lst s1o) (i' ex1 (i' (s.lst s1n) ⟨c,_,_,rfl,WP,i' (s.lst s1n) (i' ex2 ⟨pb rfl,WM M' (.call x1 x2) s trivial⟩)⟩))⟩
  .cases e with
   | call y z=>exact WM M' (.call y z) s f
   | num v y ns=>exact WM M' (.num v y ns) s f
   | turn=>exact WM M' .turn s f
   | sw b i=>exact WM M' (.sw b i) s f
def Ri(a:Ad):rf:=λds M Q=>Ba λL k c x=>ds=[.ref (rA.p k),.str x]/\rM a M L k c/\Mb false c/\Q (.bl (c.hasB x)) M
def MI(a:Ad):rf:=λds M Q=>Ql λA V l r1 r2 r3 c z=>ds=[.ref (tV.b A),.tup [.ref r1,.ref r2,.ref r3],.str c,.str z]/\oM M r1=some (pH.mL l|>.map qM)/\oM M r2=some (l.groups.map qT)/\Rd a M A V l/\WF l V/\z∈l.nm/\Q (.bl (sO l V c z)) M
def Os:rf:=λds M Q=>∃x,ds=[.bl x,.bl x]/\Q (.bl true) M
def JZ(a:Ad):rf:=λds M Q=>Ba λA V l z=>ds=[.ref (tV.b A),.str z]/\Rd a M A V l/\WF l V/\Q (.bl (wn V z)) M
def J0{l:pH}(ok:rL l){v:ui}(hv:v∈l.mL):l.ng v.1=some v:=by
 obtain⟨u,hu⟩:=wZ (dC.mpr ⟨v,hv,rfl⟩:v.1∈l.pn);rw[hu];unfold pH.ng at hu;have u1:u.1=v.1:=by simpa using jY hu
 obtain⟨i,hi,ei⟩:=fS (fT hu);obtain⟨j,hj,ej⟩:=fS hv;have:=E2 (f:=λp:ui=>p.1) (fQ.mp ok.nd).1 (by rw[cX hi,ei]) (by rw[cX hj,ej]) u1;subst this;rw[<-ei,<-ej]
def Ex{α:Type}{f:α->D}{xs:List α}{pre post:List D}{d:D}(e:pre++d::post=xs.map f):∃x,xs[pre.length]?=some x/\d=f x/\xs.take (pre.length+1)=xs.take pre.length++[x]:=by
 have h:(xs.map f)[pre.length]?=some d:=by rw[<-e];simp
 rw[dD]at h;cases hx:xs[pre.length]? with
 | none=>rw[hx]at h;cases h
 | some x=>rw[hx]at h;refine⟨x,rfl,(dh h).symm,?_⟩;rw[gH,hx];rfl
def Rc:Fq P w K mg base 1 a.bu (Ri a):=by
 refine fq G.bu.toDG Ku (λr u=>⟨_,(pj (pQ (pG u (pC v0) pA)
 (pk (pD (GJ (pZ u U1 (pC v0)) (rY (pZ u U1 (pC v0))))))
 pJ)
 (pj (pQ (pG u (pC v0) pA)
 (pk (pD (pZ u U1 (pC v0))))
 pJ)
 (pk (pD (pZ u U1 (pC v0)))))),?_⟩)
 rintro ds M Q ⟨L,k,c,x,rfl,⟨ad,md,h1,h2,h3,h4,_⟩,st,q⟩
 unfold pB.hasB at q;refine pq h1 (i' rfl ?_);refine qD (c:=c.st=="rings") (λg=>?_) (λg=>?_)
 .rw[df g]at q;refine pq h1 (i' rfl (qD (c:=x==c.cr) (λg2=>?_) (λg2=>?_)))
  .rw[g2]at q;exact⟨M,.refl,q⟩
  .rw[show(x==c.cr)=false from dH.mpr g2,fE]at q;exact pq h1 (i' rfl (Ap h3 ⟨M,.refl,q⟩))
 .rw[cZ g]at q;refine pq h1 (i' rfl ?_);refine qD (c:=c.st=="waits") (λg2=>?_) (λg2=>?_)
  .rw[df g2]at q;exact pq h1 (i' rfl ⟨M,.refl,q⟩)
  .rw[cZ g2]at q;refine pq h1 (i' rfl (Ap h4 ⟨M,.refl,?_⟩));rcases st with⟨e,_⟩|⟨_,⟨e,_⟩|⟨e,_⟩|⟨_,e,_⟩|⟨e,e2,_⟩⟩
   .exact absurd (by rw[e];rfl) g
   .exact absurd (by rw[e];rfl) g2
   .rw[e]at q;exact q
   .rw[e]at q;exact q
   .rw[e2];rw[e,e2]at q;exact q
def Lw:Fq P w K mg base 2 a.bv (MI a):=by
 refine fq G.bv.toDG rc (λr u=>⟨_,(pj (pL 4 rc (qP (qe U3)))
 (pj (uk eQ rfl (qF (pK U1 pz)) (uL (n:=3) rfl (qp (rh 5 rc) (qp (rh 6 rc) (qp (rh 7 rc) tN))))
 (pk (pQ (pG u v5 U3)
 (pk (pL 4 rc (pY tq rfl G.y sZ (qe v7))))
 pJ)))
 (pj (uk eQ rfl (qF (pK U1 pz)) (uL (n:=3) rfl (qp (rh 5 rc) (qp (rh 8 rc) (qp (rh 9 rc) tN))))
 (pk (pQ (W3.b3 (wI (pG u v5 v4) (vI (pG u v5 U2))))
 (pk (pQ (pG u (pS qx rfl G.g qv (qe (qH rfl (xy (ix:=[none,some 5]) (N':=["_law_call","_law_name"])) (qF (pC v0)) (qG 0) (uY (uI (pI (Rc G) r G.bu (rX v0 U1)))) v0))) v8)
 (pk (pD ul))
 pJ))
 pJ)))
 (pk (pD ul))))),?_⟩)
 rintro ds M Q ⟨A,V,l,r1,r2,r3,c,z,rfl,m1,m2,rd,wf,hz,q⟩
 have hzz:=dN;refine⟨pb rfl,λp hp=>?_⟩;have t:=qr.new (c:=.lst [D.str z]) hp;have lp:oM (pF M p (.lst [D.str z])) p=some ([z].map D.str):=pE;generalize pF M p (.lst [D.str z])=M1 at t lp ⊢;dsimp only[sP];refine KF (t:=Sv _ _ _) (λδ M'=>qr M M'/\∃p y5 y6 y7,oM M' p=some ((l.mK z).map D.str)/\δ=[some (.ref A.b),some (.tup [.ref r1,.ref r2,.ref r3]),some (.str c),some (.str z),some (.ref p),y5,y6,y7,none,none]) (λnx h=>?_) ?_
 .refine i' (t.lst m2) ?_;refine uU (l.groups.map qT) (λpre δ M'=>qr M M'/\∃p y5 y6 y7,oM M' p=some ((((l.groups.take pre.length).find? λg=>decide (g.1=z)).elim [z] λg=>g.2.2).map D.str)/\δ=[some (.ref A.b),some (.tup [.ref r1,.ref r2,.ref r3]),some (.str c),some (.str z),some (.ref p),y5,y6,y7,none,none]) (λ_ _ M' j=>j.1.lst m2) _ [] _ _ rfl ⟨t,p,none,none,none,lp,rfl⟩ ?_ ?_
  .rintro pre d post e δ M' ⟨s1,p,y5,y6,y7,lp,rfl⟩ nx2 WS
   obtain⟨gr,eg,rfl,et⟩:=Ex e;rw[cY,dO,et,lC]at WS;refine⟨rfl,?_⟩;refine qD (c:=gr.1==z) (λg=>λp2 WP=>?_) (λg=>?_)
   .have g:gr.1=z:=eq_of_beq g;have hn:(l.groups.take pre.length).find? (λg=>decide (g.1=z))=none:=gC.mpr λu hu eu=>by
     obtain⟨i,hi,ei⟩:=fS hu;have X7:i<pre.length/\i<l.groups.length:=by rw[fz]at hi;omega
     rw[List.getElem_take]at ei;have:=E2 (f:=λp:uj=>p.1) (fQ.mp rd.ok.nd).2.1 (by rw[cX X7.2,ei]) eg ((fK eu).trans g.symm);omega
    refine WS _ _ ⟨s1.trans (.new WP),p2,_,_,_,?_,rfl⟩;rw[hn,List.find?_cons_of_pos (by simpa using g)];exact pE
   .refine WS _ _ ⟨s1,p,_,_,_,?_,rfl⟩;rw[List.find?_cons_of_neg (by simpa using g),List.find?_nil,Option.or_none];exact lp
  .rintro δ M' ⟨s1,p,y5,y6,y7,lp,rfl⟩
   rw[cV,fg]at lp;exact h _ _ ⟨s1,p,_,_,_,lp,rfl⟩
 clear lp t hp
 rintro δ M2 ⟨s2,p,y5,y6,y7,lp2,rfl⟩
 refine i' (s2.lst m1) ?_;refine uU (l.mL.map qM) (λpre δ M'=>qr M2 M'/\(∀v∈l.mL.take pre.length,v.1∉sU l V c z)/\∃y5 y6 y7 y8 y9,δ=[some (.ref A.b),some (.tup [.ref r1,.ref r2,.ref r3]),some (.str c),some (.str z),some (.ref p),y5,y6,y7,y8,y9]) (λ_ _ M' j=>(s2.trans j.1).lst m1) _ [] _ _ rfl ⟨.refl,(λd hd=>by cases hd),_,_,_,_,_,rfl⟩ ?_ ?_
 .rintro pre d post e δ M' ⟨sM,Yc,y5,y6,y7,y8,y9,rfl⟩ nx2 WS
  have W9:=rd.sub (s2.trans sM);obtain⟨v,ev,rfl,et⟩:=Ex e;rw[cY,dO,et]at WS;have skip:∀M3,qr M2 M3->v.1∉sU l V c z->nx2 [some (.ref A.b),some (.tup [.ref r1,.ref r2,.ref r3]),some (.str c),some (.str z),some (.ref p),some (.str v.1),y6,y7,some (.int v.2.1),some (.int v.2.2)] M3:=λM3 s3 h=>WS _ _ ⟨s3,λu hu=>(dY.mp hu).elim (Yc u) λz1=>by rw[dz.mp z1];exact h,_,_,_,_,_,rfl⟩;refine⟨rfl,i' (sM.lst lp2) ⟨rfl,ql _,?_⟩⟩;show if inD (.str v.1) ((l.mK z).map D.str)=true then _ else _
  rw[show inD (.str v.1) ((l.mK z).map D.str)=hasS (l.mK z) v.1 from rZ ..];refine qD (c:=hasS (l.mK z) v.1) (λh1=>?_) (λh1=>skip _ sM λe=>h1 (qw.mpr (eO.mp e).1));refine qD (c:=!(v.1==c)) (λh2=>?_) (λh2=>skip _ sM λe=>h2 (ky.mp (eO.mp e).2).1);have ef:tG l V v.1=decide ((uq V v.1:Int)<v.2.1):=by unfold tG;rw[Gz (J0 rd.ok (qS ev))]
  refine pq W9.bd.at_ (i' rfl (i' W9.bd.ca ?_));have W5:=rd.k;refine vh (A.cs.map λk=>D.ref k.p) (λpre acc δ M2=>M'=M2/\acc.length=((V.calls.take pre.length).filter (·.hasB v.1)).length/\∃y,δ=[y,some (.str v.1)]) (λ_ _ _ M' j=>by rw[<-j.1];exact W9.bd.ca) _ [] [] _ _ rfl ?_ ⟨rfl,rfl,none,rfl⟩ ?_ ?_
  .rw[cV,rd.bd.len];simp only[dJ];omega
  .rintro pre d post e acc δ _ ⟨rfl,ha,y,rfl⟩ k k2 hk XU
   obtain⟨ka,c0,e3,e2,rfl,hc,et⟩:=zo W9.bd e;rw[cY,dO,et,iB]at hk XU;refine⟨_,ka,c0,v.1,rfl,hc,(wf.ok _ c0 e2).sh,?_⟩;refine qD (c:=c0.hasB v.1) (λg=>?_) (λg=>?_)
   .refine hk _ _ _ ⟨rfl,?_,_,rfl⟩;rw[cY,cY,ha,gP (by exact g)];rfl
   .refine XU _ _ ⟨rfl,?_,_,rfl⟩;rw[cY,ha,gQ (by exact g)];rfl
  .rintro acc δ _ ⟨rfl,ha,y,rfl⟩ p2 WP
   rw[cV,rd.bd.len,fg]at ha;have ha:acc.length=uq V v.1:=ha;refine i' pE ?_;rw[ha];refine qD (c:=decide ((uq V v.1:Int)<v.2.1)) (λh3=>?_) (λh3=>?_)
   .have hm:v.1∈sU l V c z:=eO.mpr ⟨qw.mp h1,by rw[ef,h3,h2];rfl⟩;have eb:sO l V c z=false:=by
     unfold sO;cases hr:sU l V c z with
     | nil=>rw[hr]at hm;cases hm
     | cons=>rfl
    rw[eb]at q;exact⟨M,s2.trans (sM.trans (.new WP)),q⟩
   .refine skip _ (sM.trans (.new WP)) λe=>h3 ?_;rw[<-ef];exact(ky.mp (eO.mp e).2).2
 .rintro δ M' ⟨sM,Xh,y5,y6,y7,y8,y9,rfl⟩
  rw[cV,fg]at Xh;have eb:sO l V c z=true:=by
   unfold sO;cases hr:sU l V c z with
   | nil=>rfl
   | cons x r=>
    have hx:x∈sU l V c z:=by rw[hr];exact dG
    obtain⟨v,hv,rfl⟩:=dC.mp (((rd.ok.of hz).1.2.2.2) x (eO.mp hx).1);exact absurd hx (Xh v hv)
  rw[eb]at q;exact⟨M,s2.trans sM,q⟩
def ID:Fq P w K mg base 1 a.ah Os:=by
 refine fq G.ah.toDG Gh (λr u=>⟨_,(pk (pD (sF (pS JS rfl G.cD Dl (rX v0 (TU rfl G.cE Pj))) (rY (pZ u v0 U1))))),?_⟩)
 rintro ds M Q ⟨x,rfl,q⟩
 refine⟨λC z=>(by cases z),i' G.cB (GN ⟨M,.refl,?_⟩)⟩;show Q (.bl (x==x)) M;rw[fh];exact q
def JB:Fq P w K mg base 1 a.bw (JZ a):=by
 refine fq G.bw.toDG E5 (λr u=>⟨_,(pk (pD (pZ u (pS qx rfl G.g qv (qe (qH rfl (xy (ix:=[none,some 1]) (N':=["_law_call","_law_phone"])) (qF (pC v0)) (qG 0) (uY (W3.b3 (wI (pG u (pC v0) pA) (vI (pG u (pC v0) (qP (qe U1))))))) v0))) pz))),?_⟩)
 rintro ds M Q ⟨A,V,l,z,rfl,rd,wf,q⟩
 have hzz:=dN;have W5:=rd.k;refine pq rd.bd.at_ (i' rfl (i' rd.bd.ca ?_));refine vh (A.cs.map λk=>D.ref k.p) (λpre acc δ M2=>qr M M2/\(acc≠[]↔(V.calls.take pre.length).any (·.mR z)=true)/\∃y,δ=[y,some (.str z)]) (λ_ _ _ M' j=>j.1.lst rd.bd.ca) _ [] [] _ _ rfl ?_ ⟨.refl,by simp,none,rfl⟩ ?_ ?_
 .rw[cV,rd.bd.len];simp only[dJ];omega
 .rintro pre d post e acc δ M1 ⟨s1,ha,y,rfl⟩ k k2 hk XU
  obtain⟨ka,c0,e3,e2,rfl,hc,et⟩:=zo (rd.sub s1).bd e;rw[cY,dO,et,jX]at hk XU;have no:c0.mR z=false->∀M2 δ2,qr M M2->(∃y,δ2=[y,some (.str z)])->k2 δ2 M2:=λh M2 δ2 s2 hd=>XU _ _ ⟨s2,by rw[ha];simp[h],hd⟩;have sh:=(wf.ok _ c0 e2).sh;obtain⟨ad,md,h1,h2,h3,h4,_⟩:=hc;refine pq h1 (i' rfl ?_);refine qD (c:=c0.st=="waits") (λg=>?_) (λg=>CL (no (by unfold pB.mR;rw[dH.mpr g];rfl) _ _ s1 ⟨_,rfl⟩));refine pq h1 (i' rfl ⟨pb rfl,λp2 WP=>?_⟩);obtain⟨x,ex⟩:∃x,c0.at_=[x]:=by
   have g:c0.st="waits":=eq_of_beq g;rcases sh with⟨e,_⟩|⟨_,⟨_,_,_,_,e⟩|⟨e,_⟩|⟨_,e,_⟩|⟨e,_⟩⟩
   .rw[g]at e;exact absurd e (by decide+kernel)
   .match YW:c0.at_,e with
    | [x],_=>exact⟨x,rfl⟩
   .rw[g]at e;exact absurd e (by decide+kernel)
   .rw[g]at e;exact absurd e (by decide+kernel)
   .rw[g]at e;exact absurd e (by decide+kernel)
  have t:=qr.new (c:=.lst [D.str z]) WP;have s2:=s1.trans t;have ew:c0.mR z=(x==z):=by unfold pB.mR hasS;rw[g,ex,fW,mC,jl,eE]
  rw[ex]at h3;have ee:xx (pF M1 p2 (.lst [D.str z])) 9 (.ref ad) (.ref p2)=some (x==z):=by show(oM _ _).bind (λi=>(oM _ p2).bind λj=>if i.length=j.length then sE (xx _ 8) i j else some false)=_;rw[t.lst h3,pE];show some ((x==z)&&true)=_;rw[mq]
  refine i' ee ?_;refine qD (c:=x==z) (λg2=>hk _ _ _ ⟨s2,?_,_,rfl⟩) (λg2=>no (ew.trans (dH.mpr g2)) _ _ s2 ⟨_,rfl⟩);simp[ew,g2]
 .rintro acc δ M1 ⟨s1,ha,y,rfl⟩ p2 WP
  rw[cV,rd.bd.len,fg]at ha;refine i' pE ⟨M,s1.trans (.new WP),?_⟩;have e:decide ((0:Int)<(acc.length:Nat))=wn V z:=by
   unfold wn;cases acc with
   | nil=>
    cases h:V.calls.any (·.mR z)with
    | false=>rfl
    | true=>exact absurd rfl (ha.mpr h)
   | cons d r=>rw[ha.mp (by simp)];exact dW (by rw[d9];omega)
  rw[e];exact q
def J7{A A':tV}{M M':Mp}{x:Addr}{c:uW}(st:qR A M A' M')(h:x∉A.foot)(hx:M x=some c):x∉A'.foot:=λz=>by
 rcases st.2.1 x z with y|y
 .exact h y
 .rw[hx]at y;cases y
def Kh{M:Mp}{V:qB}{p q:Addr}(h1:oM M p=some (V.log.map Ev.d))(h2:oM M q=some (V.log.map Ev.d)):xx M 9 (.tup [FN V,.ref p]) (.tup [FN V,.ref q])=some true:=by
 have e1:xx M 8 (FN V) (FN V)=some true:=B0 7 _ (Li V);have e2:xx M 8 (.ref p) (.ref q)=some true:=JH h1 h2 λd hd=>by obtain⟨v,_,rfl⟩:=dC.mp hd;exact B0 6 _ (NL v)
 show((xx M 8 (FN V) (FN V)).bind λp'=>((xx M 8 (.ref p) (.ref q)).bind λp=>(some true).map λq=>p&&q).map λq=>p'&&q).map (λp=>p&&true)=some true;rw[e1,e2];rfl
noncomputable def Ny(A:tV)(M:Mp):Mp:=λx=>if x∈A.foot then none else M x
def NP{A:tV}{M:Mp}{x:Addr}{ds:List D}(h:oM M x=some ds)(n:x∉A.foot):oM (Ny A M) x=some ds:=sQ (by unfold Ny;rw[cZ n];exact qo h)
structure Lp(a:Ad)(M0 N M:Mp)(b:Addr)(A:tV)(V:qB)(l:pH)(m:Nat):Prop where
 cu:uG a M0 M b A V l (1+m) (3+2200*m)
 wf:WF l V
 ps:V.ps.length<=3
 own:∀x c,N x=some c->M x=some c/\x∉A.foot
variable {N:Mp}{m:Nat}
def Lp.s(g:Lp a M0 N M b A V l m):qr N M:=λx c e=>(g.own x c e).1
def Lp.sub(g:Lp a M0 N M b A V l m)(s:qr M M'):Lp a M0 N M' b A V l m:=⟨g.cu.sub s,g.wf,g.ps,λx c e=>⟨s x c (g.own x c e).1,(g.own x c e).2⟩⟩
def Lp.nz(g:Lp a M0 N M b A V l m):Lp a M0 N M b A V l (m+1):=⟨g.cu.mono (by omega) (by omega),g.wf,g.ps,g.own⟩
def Lp.after{e:uo}(g:Lp a M0 N M b A V l m)(hm:m<=63)(f:e.nH)(hr:xu l V e=none)(cu:uG a M0 M' b A' (qI V (xi l V e)) l (1+m+1) (3+2200*m+40+33*(1+m)))(st:qR A M A' M'):Lp a M0 N M' b A' (qI V (xi l V e)) l (m+1):=⟨cu.mono (by omega) (by omega),SZ g.cu.ok g.wf f hr,by rw[S6 g.cu.ok g.wf f hr];exact g.ps,λx c h=>⟨st.1 x c (g.own x c h).2 (g.own x c h).1,J7 st (g.own x c h).2 (g.own x c h).1⟩⟩
def Lp.rd(g:Lp a M0 N M b A V l m)(hm:m<=64):Rd a M A V l:=g.cu.rd (by omega) g.wf
def Lp.mk0(cu:uG a M0 M b A V l 1 3)(wf:WF l V)(ps:V.ps.length<=3):Lp a M0 (Ny A M) M b A V l 0:=⟨cu,wf,ps,λx c e=>by
 unfold Ny at e;split at e
 .cases e
 .rename_i h;exact⟨e,h⟩⟩
def Lp.start{a:Ad}{M0 M:Mp}{b p:Addr}{A:tV}{h:Int}{l:pH}(ok:rL l)(pl:tI a M0 p l)(hb:M0 b=none)(eb:A.b=b)(kp:sv b (pF M0 b (.ins a.c [])) M)(fr:∀x∈A.foot,x=b\/pF M0 b (.ins a.c []) x=none)(bd:pN a M A (V0 p h l [])):uG a M0 M b A (V0 p h l []) l 1 3/\WF l (V0 p h l [])/\(V0 p h l []).ps.length<=3:=by
 have t:=qr.new (c:=.ins a.c []) hb;refine⟨⟨bd,pl,λx c e=>kp x c (Qv e hb) (t x c e),λx hx=>?_,eb,⟨eL _,eL _,eL _,DW ok,λk hk=>by cases hk⟩,ok,cV ..⟩,VZ ok,DW ok⟩;rcases fr x hx with z|z
 .rw[z];exact hb
 .exact t.none z
def HJ{ns:List Int}{m:Int}(h2:2<=m)(h:m<=100):2<=(zh ns m).mL.length:=by have:=(wY (s:=cell ns 0) h2 h).2;show 2<=((List.range (rJ (cell ns 0) m)).map _).length;rw[cV,eD];exact this
def GQ(a:Ad):rf:=λds M Q=>Ql λA V l r1 r2 r3 ro rn=>ds=[.ref (tV.b A),.tup [.ref r1,.ref r2,.ref r3],.ref ro,.ref rn]/\oM M r1=some (pH.mL l|>.map qM)/\oM M r2=some (l.groups.map qT)/\oM M ro=some (l.pn.map D.str)/\oM M rn=some (l.nm.map D.str)/\Rd a M A V l/\WF l V/\2<=l.mL.length/\Q (.bl true) M
def MT:Fq P w K mg base 8 a.bx (GQ a):=by
 refine fq G.bx.toDG rP (λr u=>⟨_,(pj (uk eQ rfl (qF U3) (rh 4 rP)
 (pj (pL 5 rP (pI (uN G) r G.F (qe (pM (rb pA v4 (pK U3 (pY KS rfl G.b0 Np (qe (pZ u v4 (pK U3 pz))))))))))
 (pj (pL 6 rP (pI (uN G) r G.F (qe (pM (pV pA (rb v4 (pK U3 (pY KS rfl G.b0 Np (qe (pZ u v4 (pK U3 pz))))) pz))))))
 (pk (uk eQ rfl (qF U2) (rh 7 rP)
 (pj (pL 8 rP (pI (Lw G) r G.bv (pV v0 (rb U1 v7 v4))))
 (pj (pQ (vT (uI (pI (ID G) r G.ah (rX (vL (R:=yA a) v5 (Af G) (r.mono (by first|decide|omega)) (rb v0 v7 v4)) v8))))
 (pk (pD ul))
 pJ)
 (pj (pQ (pG u v4 U2)
 (pj (pL 9 rP (sF v8 (sF (pZ u v7 v4) (rY (LJ (pI (JB G) r G.bw (rX v0 v4)))))))
 (pk (pQ (vT (uI (pI (ID G) r G.ah (rX (vL (R:=yA a) (pI (uN G) r G.F (qe (pM (rX pA v4)))) (Af G) (r.mono (by first|decide|omega)) (rb v0 v7 v4)) v9))))
 (pk (pD ul))
 pJ)))
 pJ)
 (pk (pQ (Oi (vL (R:=yA a) v6 (Af G) (r.mono (by first|decide|omega)) (rb v0 v7 v4)) ul)
 (pk (pD ul))
 pJ))))))))))
 (pj (pL 10 rP (pI (uN G) r G.F (qe (pM (rb pA (pK U3 pz) (pK U3 pz))))))
 (pj (pL 11 rP (pI (uN G) r G.F (qe (pM (rX pA (pK U2 pz))))))
 (pk (pD (sF (MU (vL (R:=yA a) WD (Af G) (r.mono (by first|decide|omega)) (rb v0 (pK U2 pz) (pK U3 pz))) ul) (rY (MU (vL (R:=yA a) Wv (Af G) (r.mono (by first|decide|omega)) (rb v0 (pK U2 (zS pz)) (pK U3 (zS pz)))) ul)))))))),?_⟩)
 .rintro ds M Q ⟨A,V,l,r1,r2,r3,ro,rn,rfl,m1,m2,lo,ln,rd,wf,h2,q⟩
  obtain⟨o0,o1,pr,eo⟩:∃o0 o1 pr,l.pn=o0::o1::pr:=by
   have:l.pn.length=l.mL.length:=cV ..
   match h:l.pn,this with
   | [],z=>simp only[dJ]at z;omega
   | [_],z=>simp only[d9,dJ]at z;omega
   | o0::o1::pr,_=>exact⟨o0,o1,pr,rfl⟩
  have en:l.nm=o0::o1::(pr++l.gn):=by unfold pH.nm;rw[eo];rfl
  have nd:l.nm.Nodup:=rd.ok.nd;have n01:o0≠o1:=by rw[en]at nd;exact λz=>(dQ.mp nd).1 (by rw[z];exact dG)
  have o0n:o0∈l.nm:=by rw[en];exact dG
  have o1n:o1∈l.nm:=by rw[en];exact dE _ dG
  have a0:vC (l.nm.map D.str) 0=some (.str o0):=by rw[en];exact xZ _ _
  have a1:vC (l.nm.map D.str) 1=some (.str o1):=by rw[en];exact ur (j:=1) rfl
  have b0:vC (l.pn.map D.str) 0=some (.str o0):=by rw[eo];exact xZ _ _
  have b1:vC (l.pn.map D.str) 1=some (.str o1):=by rw[eo];exact ur (j:=1) rfl
  have oth:∀z∈l.nm,∃y,zY l.pn l.nm (.busy z y)/\vC (l.nm.map D.str) (if (z==o0)=true then 1 else 0)=some (.str y):=λz hz=>by
   cases h:z==o0 with
   | true=>exact⟨o1,⟨qw.mpr hz,qw.mpr o1n,by rw[eq_of_beq h];exact n01⟩,a1⟩
   | false=>exact⟨o0,⟨qw.mpr hz,qw.mpr o0n,by simpa using h⟩,a0⟩
  refine i' ln ?_;refine uU (l.nm.map D.str) (λpre δ M'=>qr M M'/\∃y4 y5 y6 y7 y8 y9,δ=[some (.ref A.b),some (.tup [.ref r1,.ref r2,.ref r3]),some (.ref ro),some (.ref rn),y4,y5,y6,y7,y8,y9,none,none]) (λ_ _ M' j=>j.1.lst ln) _ [] _ _ rfl ⟨.refl,none,none,none,none,none,none,rfl⟩ ?_ ?_
  .rintro pre _ post e δ M1 ⟨s1,y4,y5,y6,y7,y8,y9,rfl⟩ nx1 hnx1
   obtain⟨z,ez,rfl,_⟩:=Ex e;have hz:=qS ez;obtain⟨y,wy,ay⟩:=oth z hz;dsimp only[sP];refine KF (t:=Ab _ _) (λδ M'=>qr M M'/\∃p1,M' p1=some (.ins (Wi.cls a (.busy z y)) (Wi.busy z y).m8)/\δ=[some (.ref A.b),some (.tup [.ref r1,.ref r2,.ref r3]),some (.ref ro),some (.ref rn),some (.str z),some (.ref p1),y6,y7,y8,y9,none,none]) (λnx h=>?_) ?_
   .refine i' (s1.lst ln) (i' a0 (i' (s1.lst ln) (i' ay ⟨pb rfl,.busy z y,rfl,λp hp=>?_⟩)));exact h _ _ ⟨s1.trans (.new hp),p,pP,rfl⟩
   rintro δ M2 ⟨s2,p1,w1,rfl⟩
   refine KF (t:=Ab _ _) (λδ M'=>qr M2 M'/\∃p2,M' p2=some (.ins (Wi.cls a (.silent z y 1)) (Wi.silent z y 1).m8)/\δ=[some (.ref A.b),some (.tup [.ref r1,.ref r2,.ref r3]),some (.ref ro),some (.ref rn),some (.str z),some (.ref p1),some (.ref p2),y7,y8,y9,none,none]) (λnx h=>?_) ?_
   .refine i' (s2.lst ln) (i' a0 (i' (s2.lst ln) (i' ay ⟨pb rfl,.silent z y 1,rfl,λp hp=>?_⟩)));exact h _ _ ⟨.new hp,p,pP,rfl⟩
   rintro δ M3 ⟨s3,p2,w2,rfl⟩
   have w1:=s3 _ _ w1;have s3:=s2.trans s3;refine i' (s3.lst lo) ?_;refine uU (l.pn.map D.str) (λpre δ M'=>qr M3 M'/\∃y7 y8 y9,δ=[some (.ref A.b),some (.tup [.ref r1,.ref r2,.ref r3]),some (.ref ro),some (.ref rn),some (.str z),some (.ref p1),some (.ref p2),y7,y8,y9,none,none]) (λ_ _ M' j=>(s3.trans j.1).lst lo) _ [] _ _ rfl ⟨.refl,y7,y8,y9,rfl⟩ ?_ ?_
   rotate_left
   .rintro δ M' ⟨s4,y7,y8,y9,rfl⟩
    exact hnx1 _ _ ⟨s3.trans s4,_,_,_,_,_,_,rfl⟩
   rintro pre _ post e δ M4 ⟨s4,y7,y8,y9,rfl⟩ nx2 hnx2
   obtain⟨c,ec,rfl,_⟩:=Ex e;have Yn:=s3.trans s4;have rd4:=rd.sub Yn;dsimp only[sP];refine⟨A,V,l,r1,r2,r3,c,z,rfl,Yn.lst m1,Yn.lst m2,rd4,wf,hz,?_⟩;have f1:xV l V c z (.busy z y)=sO l V c z:=by show((z==z)&&sO l V c z)=_;rw[fh,eE]
   refine pq (s4 _ _ w1) ⟨rfl,_,⟨_,rfl,rfl⟩,p1,A,V,l,c,z,rfl,s4 _ _ w1,rd4,hz,wy,sO l V c z,by rw[f1],CL ?_⟩;dsimp only[UN];refine KF (t:=Nc _ _ _) (λδ M'=>qr M3 M'/\∃y9,δ=[some (.ref A.b),some (.tup [.ref r1,.ref r2,.ref r3]),some (.ref ro),some (.ref rn),some (.str z),some (.ref p1),some (.ref p2),some (.str c),some (.bl (sO l V c z)),y9,none,none]) (λnx h=>?_) ?_
   .refine i' (Yn.lst lo) ⟨rfl,ql _,?_⟩;show if inD (.str z) (l.pn.map D.str)=true then _ else _
    rw[show inD (.str z) (l.pn.map D.str)=hasS l.pn z from rZ ..];refine qD (c:=hasS l.pn z) (λg=>?_) (λg=>h _ _ ⟨s4,_,rfl⟩);have hp:xt l.pn z:=g;refine KF (t:=Ab _ _) (λδ M'=>M4=M'/\δ=[some (.ref A.b),some (.tup [.ref r1,.ref r2,.ref r3]),some (.ref ro),some (.ref rn),some (.str z),some (.ref p1),some (.ref p2),some (.str c),some (.bl (sO l V c z)),some (.bl (xV l V c z (.wait z))),none,none]) (λnx h=>?_) ?_
    .have ef:xV l V c z (.wait z)=(sO l V c z&&((!(c==z))&&!(wn V z))):=by show(if (!(z==z)||(c==z))=true then false else sO l V c z&&!(wn V z))=_;rw[fh,Bool.not_true,fE];cases c==z<;>cases sO l V c z<;>rfl
     rw[ef]at h;show if sO l V c z=true then _ else _
     cases h1:sO l V c z with
     | false=>rw[h1]at h;exact CL (h _ _ ⟨rfl,rfl⟩)
     | true=>
      rw[h1]at h;refine GN ?_;show if (!(c==z))=true then _ else _
      cases h2:c==z with
      | true=>rw[h2]at h;exact CL (h _ _ ⟨rfl,rfl⟩)
      | false=>rw[h2]at h;refine GN ⟨A,V,l,z,rfl,rd4,wf,?_⟩;exact h _ _ ⟨rfl,rfl⟩
    rintro δ _ ⟨rfl,rfl⟩
    refine⟨pb rfl,.wait z,rfl,λp3 Y3=>?_⟩;have t:=qr.new (c:=.ins (Wi.cls a (.wait z)) (Wi.wait z).m8) Y3;have w3:pF M4 p3 (.ins (Wi.cls a (.wait z)) (Wi.wait z).m8) p3=some (.ins (Wi.cls a (.wait z)) (Wi.wait z).m8):=pP;generalize pF M4 p3 (.ins (Wi.cls a (.wait z)) (Wi.wait z).m8)=M5 at t w3 ⊢;exact pq w3 ⟨rfl,_,⟨_,rfl,rfl⟩,p3,A,V,l,c,z,rfl,w3,rd4.sub t,hz,hp,_,rfl,CL (h _ _ ⟨s4.trans t,_,rfl⟩)⟩
   rintro δ M5 ⟨s5,y9,rfl⟩
   refine pq (s5 _ _ w2) ⟨rfl,_,⟨_,rfl,rfl⟩,p2,A,V,l,c,z,rfl,s5 _ _ w2,rd.sub (s3.trans s5),hz,⟨wy.1,wy.2.1,wy.2.2,by decide,by decide⟩,?_⟩;exact hnx2 _ _ ⟨s5,_,_,_,rfl⟩
  .rintro δ M1 ⟨s1,y4,y5,y6,y7,y8,y9,rfl⟩
   refine i' (s1.lst ln) (i' a0 (i' (s1.lst ln) (i' a1 ⟨pb rfl,.busy o0 o1,rfl,λp hp=>?_⟩)));have t:=qr.new (c:=.ins (Wi.cls a (.busy o0 o1)) (Wi.busy o0 o1).m8) hp;have w1:pF M1 p (.ins (Wi.cls a (.busy o0 o1)) (Wi.busy o0 o1).m8) p=some (.ins (Wi.cls a (.busy o0 o1)) (Wi.busy o0 o1).m8):=pP;have s2:=s1.trans t;generalize pF M1 p (.ins (Wi.cls a (.busy o0 o1)) (Wi.busy o0 o1).m8)=M2 at s2 w1 ⊢;refine i' (s2.lst lo) (i' b0 ⟨pb rfl,.wait o0,rfl,λp2 WP=>?_⟩);have t:=qr.new (c:=.ins (Wi.cls a (.wait o0)) (Wi.wait o0).m8) WP;have w2:pF M2 p2 (.ins (Wi.cls a (.wait o0)) (Wi.wait o0).m8) p2=some (.ins (Wi.cls a (.wait o0)) (Wi.wait o0).m8):=pP;have s3:=s2.trans t;have w1:=t _ _ w1;generalize pF M2 p2 (.ins (Wi.cls a (.wait o0)) (Wi.wait o0).m8)=M3 at s3 w1 w2 ⊢;have Ym:=rd.sub s3;have f1:xV l V o1 o1 (.busy o0 o1)=false:=by show((o1==o0)&&_)=false;rw[show(o1==o0)=false from fR.mpr n01.symm];rfl
   obtain⟨c,hc⟩:∃c,l.pn.getLast?=some c:=by rw[eo];exact⟨_,gR⟩
   obtain⟨z,hz⟩:∃z,l.nm.getLast?=some z:=by rw[en];exact⟨_,gR⟩
   have zm:z∈l.nm:=gL hz;have zn:(z==o0)=false:=fR.mpr λe=>by rw[en,gR]at hz;rw[en]at nd;exact(dQ.mp nd).1 (by rw[<-e];exact gL hz)
   have f2:xV l V c z (.wait o0)=false:=by show(if (!(z==o0)||(c==o0))=true then false else _)=_;rw[zn];rfl
   refine pq w1 ⟨rfl,_,⟨_,rfl,rfl⟩,i' (s3.lst lo) (i' b1 (i' (s3.lst ln) (i' a1 ?_)))⟩;refine⟨p,A,V,l,o1,o1,rfl,w1,Ym,o1n,⟨qw.mpr o0n,qw.mpr o1n,n01⟩,?_⟩;rw[f1];refine pq w2 ⟨rfl,_,⟨_,rfl,rfl⟩,i' (s3.lst lo) (i' (Fe hc) (i' (s3.lst ln) (i' (Fe hz) ?_)))⟩;refine⟨p2,A,V,l,c,z,rfl,w2,Ym,zm,qw.mpr (by rw[eo];exact dG),?_⟩;rw[f2];exact⟨M,s3,q⟩
seal L3.E3 L3.B3 L3.A3 L3.S3 L3.G6
def KR:rf:=λds M Q=>∃ns:List Int,ds=[.rl (ns.map D.int)]/\ns.length<=63/\Q (.bl true) M
def QM:Fq P w K mg base 17 a.ai KR:=by
 refine fq G.ai.toDG wK (λr u=>⟨_,(pj (pL 1 wK (pI (MR G) r G.bn (rX v0 pz)))
 (pj (pL 2 wK (vk (PN G) r G.h G.b7 G.aj.toDG (rb (pK U1 pz) (pK U1 pz) (pK U1 pz))))
 (pj (vA (i:=3) wK.nd rfl (Or.inl rfl) rfl (xy (ix:=[none]) (N':=["_law_phone"])) (qF (pK U1 pz)) (qG 0) rS (pK v0 pz))
 (pj (pL 4 wK (pU U3 (qH rfl (xy (ix:=[none]) (N':=["_law_group"])) (qF (pK U1 pz)) (qG 0) rS (pK v0 pz))))
 (pj (pL 5 wK (vk (MX G) r G.c G.b8 G.ak.toDG (rX U2 (pU (pI (KZ G) r G.P (rX v0 pz)) pz))))
 (pj (uk eQ rfl (vf rfl G.bP (qe (pU (rW v0 sT (sS pz)) (qP (qe pz))))) (uL (n:=2) rfl (qp (rh 6 wK) (qp (rh 7 wK) tN)))
 (pj (pO (pI (Oz G) r G.bt (rX v5 (pI (LM G) r G.bs (pV v5 (rb (pU v7 (pU (pU pz v6) v6)) U3 v4))))))
 (pk (pQ (W3.b3 (xQ (pG u (pU v6 pz) pz) (wR (pG u v6 (pS qx rfl G.g qv (qe (rW v0 sT (sS pz))))))))
 (pj (pL 8 wK (pM (rX (pI (Cf G) r G.ab (qe v5)) (pY tq rfl G.y sZ (qe (pC v5))))))
 (pk (pQ (W3.b3 (xQ (vT (uI (pI (MT G) r G.bx (pV v5 (rb U1 U3 v4))))) (wR (pG u (pM (rX (pI (Cf G) r G.ab (qe v5)) (pC v5))) v8))))
 (pk (pD ul))
 pJ)))
 pJ))))
 (pk (pD ul)))))))),?_⟩)
 rintro ds M Q ⟨ns,rfl,hns,q⟩
 have hz:=dN;have ok:rL (zh ns 5):=OB (by decide) (by decide);have p2:2<=(zh ns 5).mL.length:=HJ (by decide) (by decide);refine⟨ns,5,rfl,by decide,by decide,λr1 r2 r3 M1 s1 h1 h2 h3=>?_⟩;generalize zh ns 5=l at h1 h2 h3 ok p2;have p8:=ok.p8;have g3:=ok.g3;have pl:l.pn.length=l.mL.length:=cV ..;have nl:l.nm.length=l.mL.length+l.groups.length:=by unfold pH.nm pH.pn pH.gn;rw[cY,cV,cV]
 refine λp hp=>?_;have t2:=qr.new (c:=.ins a.h []) hp;refine⟨p,r1,r2,r3,l,rfl,pP,t2.lst h1,t2.lst h2,t2.lst h3,ok,λM2 kp pa _=>⟨rfl,?_⟩⟩;have s2:qr M1 M2:=λx c e=>kp x c (Qv e hp) (t2 x c e);clear kp t2 hp;have h1:=s2.lst h1;have h2:=s2.lst h2;have s02:=s1.trans s2;refine i' h1 (qZ (f:=AY) h1 _ [] _ (by rw[cV];simp only[dJ];omega) (λd hd k hk=>?_) λro hro=>?_)
 .obtain⟨x,_,rfl⟩:=dC.mp hd;exact hk
 rw[dZ,wN];have t3:=qr.new (c:=.lst ((l.mL.map (·.1)).map D.str)) hro;have lo:oM (pF M2 ro (.lst ((l.mL.map (·.1)).map D.str))) ro=some (l.pn.map D.str):=pE;have pa:=pa.sub t3;have h1:=t3.lst h1;have h2:=t3.lst h2;have s03:=s02.trans t3;generalize pF M2 ro (.lst ((l.mL.map (·.1)).map D.str))=M3 at lo pa h1 h2 s03 ⊢;clear t3 hro;dsimp only[sP];refine KF (t:=Ab _ _) (λδ M'=>qr M3 M'/\∃rn,oM M' rn=some (l.nm.map D.str)/\δ=[some (.rl (ns.map D.int)),some (.tup [.ref r1,.ref r2,.ref r3]),some (.ref p),some (.ref ro),some (.ref rn),none,none,none,none]) (λnx h=>?_) ?_
 .refine i' h2 (qZ (f:=AY) h2 _ [] _ (by rw[cV];simp only[dJ];omega) (λd hd k hk=>?_) λp hp=>?_)
  .obtain⟨x,_,rfl⟩:=dC.mp hd;exact hk
  .rw[dZ,wM];have t:=qr.new (c:=.lst ((l.groups.map (·.1)).map D.str)) hp;refine i' (t.lst lo) (i' pE ⟨by rw[cV,cV,cV];omega,λp2 WP=>h _ _ ⟨t.trans (.new WP),p2,?_,rfl⟩⟩);rw[pE,<-dS];rfl
 rintro δ M4 ⟨s4,rn,ln,rfl⟩
 have pa:=pa.sub s4;have lo:=s4.lst lo;have h1:=s4.lst h1;have h2:=s4.lst h2;have Yn:=s03.trans s4;clear s4 s03 s02 s2 s1 h3;refine⟨ns,0,rfl,by decide,λb hb=>?_⟩;have t5:=qr.new (c:=.ins a.c []) hb;have npb:p≠b:=λz=>by obtain⟨ph,gr,ws,Yl,pr,gd,rs,i1,_⟩:=pa;rw[z,hb]at i1;cases i1
 refine⟨b,p,_,[],l,rfl,pP,pa.sub t5,ok,npb,(λx hx=>by cases hx),λM5 A eb kp fr bd=>⟨rfl,?_⟩⟩;obtain⟨cu,wf,ps⟩:=Lp.start ok pa hb eb kp fr bd;clear kp fr bd t5 npb pa;generalize V0 p (cell ns 0 % 24) l []=V at cu wf ps;have WM:∀M',qr M4 M'->∃WL,qr WL M'/\Q (.bl true) WL:=λM' s=>⟨M,Yn.trans s,q⟩;dsimp only[sP];refine KF (t:=Sv _ _ _) (λδ M'=>qr M4 M') (λnx h=>?_) λδ M' s=>WM M' s;intro sl YX;rw[show L3.uR (ns.map D.int) none (some (63:Int))=(ns.map D.int).take 63 from HN _ 63];have t7:=qr.new (c:=.lst ((ns.map D.int).take 63)) YX;have l7:=@pE M5 sl ((ns.map D.int).take 63);generalize pF M5 sl (.lst ((ns.map D.int).take 63))=M7 at t7 l7 ⊢;refine⟨pb rfl,λp8 hp8=>?_⟩;have t8:=qr.new (c:=.lst [D.int 1]) hp8;have l8:=@pE M7 p8 [D.int 1];generalize pF M7 p8 (.lst [D.int 1])=M8 at t8 l8 ⊢;refine i' (t8.lst l7) (i' l8 ⟨by rw[fz,cV];show min 63 ns.length+1<=sizeLine;omega,λr5 hr5=>i' pE ?_⟩);have hL:((ns.map D.int).take 63++[D.int 1]).length<=64:=by rw[cY,fz,cV];show min 63 ns.length+1<=64;omega
 have hLi:∀d∈(ns.map D.int).take 63++[D.int 1],∃c,d=.int c:=λd hd=>by
  rcases dY.mp hd with z|z
  .obtain⟨c,_,rfl⟩:=dC.mp (iV z);exact⟨c,rfl⟩
  .rw[dz]at z;exact⟨1,z⟩
 generalize (ns.map D.int).take 63++[D.int 1]=L at hL hLi ⊢;have t9:=qr.new (c:=.lst L) hr5;have l9:=@pE M8 r5 L;have s9:=t7.trans (t8.trans t9);have n5:r5∉A.foot:=(cu.sub (t7.trans t8)).bd.n9 hr5;generalize pF M8 r5 (.lst L)=M9 at t9 l9 s9 ⊢;have i9:=Lp.mk0 (cu.sub s9) wf ps;have l5:=NP l9 n5;generalize Ny A M9=N at i9 l5;refine uU (uF 0 L) (λpre δ M'=>(∃A V,Lp a M4 N M' b A V l pre.length)/\∃y6 y7 y8,δ=[some (.rl (ns.map D.int)),some (.tup [.ref r1,.ref r2,.ref r3]),some (.ref p),some (.ref ro),some (.ref rn),some (.ref b),y6,y7,y8]) (λ_ _ M' j=>by obtain⟨A,V,g⟩:=j.1;exact g.s.lst l5) _ [] _ _ rfl ⟨⟨A,V,i9⟩,none,none,none,rfl⟩ ?_ ?_
 rotate_left
 .rintro δ M' ⟨⟨A',V',g⟩,_⟩
  exact h _ _ g.cu.s0
 clear i9 n5 s9 l9 t9 hr5 l8 t8 hp8 l7 t7 YX cu wf ps
 rintro pre d post e δ M' ⟨⟨A,V,g⟩,y6,y7,y8,rfl⟩ nx2 WS
 obtain⟨dx,hx,rfl⟩:=FG e;have pl5:pre.length<64:=dR (c9.mp hx).1 hL;obtain⟨c0,rfl⟩:=hLi dx (qS hx);rw[cY,dO]at WS;refine⟨rfl,?_⟩;dsimp only[sP,BL,Jo];refine KF (t:=QD _) (λδ M2=>(∃A V,Lp a M4 N M2 b A V l (pre.length+1))/\δ=[some (.rl (ns.map D.int)),some (.tup [.ref r1,.ref r2,.ref r3]),some (.ref p),some (.ref ro),some (.ref rn),some (.ref b),some (.int (pre.length:Nat)),some (.int c0),y8]) (λnx h=>?_) ?_
 .refine⟨.inl ⟨by decide,by decide⟩,.inr ⟨by omega,by omega⟩,?_⟩;have eb:=g.cu.b;subst eb;refine⟨A,V,l,_,ro,rn,l.pn,l.nm,rfl,g.rd (by omega),g.wf,λk hk=>(g.cu.sz.cs k hk).2.1,g.cu.s0.lst lo,g.cu.s0.lst ln,λz=>by rw[z]at pl;simp only[dJ]at pl;omega,λz=>by rw[z]at nl;simp only[dJ]at nl;omega,by omega,by omega,λM2 e s f=>?_⟩;have g:=g.sub s;exact⟨M4,A.b,A,V,l,_,_,e,rfl,g.cu,by omega,by omega,g.wf,f,λhr M3 A3 c3 Xs=>h _ _ ⟨⟨A3,_,g.after (by omega) f hr c3 Xs⟩,rfl⟩,λ_=>h _ _ ⟨⟨A,V,g.nz⟩,rfl⟩⟩
 clear g
 rintro δ M2 ⟨⟨A2,V2,g⟩,rfl⟩
 have eb:=g.cu.b;subst eb;have go:∀M3,qr M2 M3->∀y8,nx2 [some (.rl (ns.map D.int)),some (.tup [.ref r1,.ref r2,.ref r3]),some (.ref p),some (.ref ro),some (.ref rn),some (.ref A2.b),some (.int (pre.length:Nat)),some (.int c0),y8] M3:=λM3 s y8=>WS _ _ ⟨⟨A2,V2,g.sub s⟩,_,_,_,rfl⟩;have body:∀(E':Dx) (M3:Mp),E'.nx=nx2->qr M2 M3->uD (Ab (RX (sf (yt (yx a) (sf (v3 5) uT)) (sf (yt Nm (sf (RF "log" (v3 5)) uT)) uT))) (sP 8)) (Nc (Wj (Se (b3 (yt (GQ a) (sf (v3 5) (sf (v3 1) (sf (v3 3) (sf (v3 4) uT))))))) (b3 (k3 .NotEq (RX (sf (yt (yx a) (sf (v3 5) uT)) (sf (RF "log" (v3 5)) uT))) (v3 8)))) (O8 (c3 (.bl false))) UN) E' [some (.rl (ns.map D.int)),some (.tup [.ref r1,.ref r2,.ref r3]),some (.ref p),some (.ref ro),some (.ref rn),some (.ref A2.b),some (.int (pre.length:Nat)),some (.int c0),y8] M3:=by
  rintro E' M3 rfl s3
  have g3:=g.sub s3;have p4:V2.calls.length<=10000:=d6 g.cu.sz.ca (by omega);refine⟨A2,V2,rfl,g3.cu.bd,p4,g.ps,?_⟩;refine pq g3.cu.at_ (i' rfl (i' g3.cu.bd.lo λp1 X9=>⟨pb rfl,?_⟩));have t:=qr.new (c:=.lst (V2.log.map Ev.d)) X9;have lp:=@pE M3 p1 (V2.log.map Ev.d);have g4:=g3.sub t;have Yn:=g4.cu.s0;generalize pF M3 p1 (.lst (V2.log.map Ev.d))=M5 at t lp g4 Yn ⊢;refine⟨A2,V2,l,r1,r2,r3,ro,rn,rfl,Yn.lst h1,Yn.lst h2,Yn.lst lo,Yn.lst ln,g4.rd (by omega),g4.wf,p2,?_⟩;refine CL ⟨A2,V2,rfl,g4.cu.bd,p4,g.ps,?_⟩;refine pq g4.cu.at_ (i' rfl ⟨pb rfl,?_⟩);exact i' rfl (i' (Kh g4.cu.bd.lo lp) (CL (go _ (s3.trans t) _)))
 refine⟨by decide,?_⟩;refine qD (c:=((pre.length:Nat):Int) % 8==0) (λ_=>GN (body _ M2 rfl .refl)) (λ_=>?_);intro p3 Y3;refine i' pE (qD (λ_=>?_) (λ_=>?_))
 .exact body _ _ rfl (.new Y3)
 .exact go _ (.new Y3) _
end Z
end
structure PySem.W.Fast:Prop where(tw9883148772812628824 tw975405868647000089 tw8946503359543487299 tw7229000887150510072 tw6732672959732243975 tw5948703517342957084 tw5590810865248165068 tw433005488826313057 tw3430818517244226795 tw3401100075338983874 tw318807479571259576 tw2845535970488671329 tw2284095068967900774 tw18274736038993814451 tw17692118666015726167 tw17166385104507708219 tw16814014740653185407 tw14964082410192251318 tw13959859247751140845 tw13791885623159872752 tw13696510115469924587 tw13507497058729494494 tw12893502709443098900 tw1231961819030973455 tw11971352473820421327 tw11480739710465712312 tw11147973528830535176 tw10768780486278305513 tw10722052028627911020 tw10373047113055462856 tw7424272309462720462 tw7371214395989697007 tw15272559159837271413 tw1785120952355153528 tw6315517609071272981 tw15543918810326975948 tw10624025809681615305 tw16374817044470734756 tw1658564207555993566 tw84944387284906528 tw1323712941951041244 tw6527346112195848786 tw3026970600207230812 tw3435216751821349767 tw17235269387950790364 tw14708813993802681347 tw13889851260234806609 tw8267012733269218390 tw16778429661796286231 tw5443626133803463076 tw5072948190639921179 tw2970525015308492724 tw5342005120958005306 tw12997910873416116761 tw1552663173858162852 tw8364159529085822239 tw3686422336054454059 tw17012129815326091576 tw16236434732646607722 tw11631403717613283797 tw16267864132674839969 tw18369893336550096696 tw13289204477707385339 tw4261303151808621043 tw6538405243930958635 tw10141592357642974214 tw4986113879625713968 tw12899406343831131065 tw1624988404370005562 tw4450619299563430124 tw13961649325638442059 tw14023103333362210408 tw16620249446085768565 tw10657444175603868812 tw3717398952297648797 tw9705735309590009649 tw4450713057386798356 tw239434028702580303 tw4883249389284420724 tw4311196387998155359 tw1118351448830907065 tw8537982059782474544 tw16363803740842694515 tw15300079312193135629 tw15959898240493293117 tw3950852133858938651 tw16683238344194061410 tw11903720529310270589 tw6731258364812214640 tw12345013578798531642 tw12759832753337296554 tw868529676894821191 tw3194726124540207166 tw12570700155080630844 tw653838663251531032 tw7183054684784844844 tw18291623882052214272 tw3071586880501378953 tw10193440289834011997 tw7149303909936288444 tw10602186894867571929 tw5960585227192484923 tw6066516737996021016 tw12598319639101874700 tw1870811922448789866 tw16977253919990837602 tw11189885487321161409 tw2606826173137538721 tw111017884350188745 tw2081946618855091246 tw10380578926713832308 tw18374147600338318731 tw7184785669745600785 tw11600831138685819142 tw14672974723294635560 tw1360633037718393032 tw5537604630621290783 tw17100790249148355513 tw1173916110070687177 tw17535789948322742052 tw10391554255898081841 tw7295066245166922701 tw102524417443340801 tw7154112441533925439 tw10462215329676358727 tw10267105690204066083 tw16576943955452096760 tw6760155514543088316 tw395165014560734316 tw6130619463531075906 tw16760142115995575480 tw4584142088881353141 tw1368324510803638833 tw11567795758773822168 tw9629642115795510102 tw14980196921471977465 tw4027876241475384365 tw10421856058763397642 tw15157738100845664032 tw13146186281837455443 tw7974818413391385324 tw1667366727013636300 tw16606408723143791755 tw15363833312576261323 tw15350335999617183216 tw14251275185015110797 tw3627233986878809239 tw271286771625854588 tw3085975983174673699 tw701124004852423518 tw3928650177549233256 tw305763116999064295 tw16791168851611577646 tw17065296778809051002 tw11789265353079820220 tw9139439919784578212 tw5728388856845047086 tw10329161460910545036 tw16398043807690635847 tw3434904108257714573 tw3095621060900080964 tw6513225211819937216 tw9739366696244551948 tw11530066504804489759 tw14446830073646435582 tw11797738058168085467 tw655645170713713553 tw8769456966664236436 tw17355812627916638760 tw11969866106849728026 tw12662326190591202869 tw9130208470739278171 tw10953952283108316450 tw9928226949454462576 tw11593644471122511756 tw10254463932396394308 tw11374367789455951172 tw12854739402083127606 tw6152283761812031643 tw16526157977769964921 tw11620793803580522763 tw12006761822927914609 tw1822916608404597706 tw10193001795996055625 tw12462552691040939916 tw7699360727560772952 tw13072919533019628247 tw4533744395316946903 tw6451354613995673530 tw15201199430032549394 tw10007307553703295304 tw15577014749868483550 tw8638691091394915570 tw14879306323441282067 tw7413367457239104400 tw10207118859320435402 tw6500051870218285670 tw3012509457256345417 tw15665055832043450531 tw15331282685429655965 tw4507447546670222433 tw16961647481005877560 tw4937575580802848138 tw16842301114622145558 tw6598724810793198652 tw10402380309488763809 tw11883814069525719200 tw14485382456133185662 tw10817075950589024609 tw5264645192809825440 tw16732511136689989143 tw5096578583527153352 tw3539846875723495195 tw17601540819550327884 tw17334140201871817664 tw2275689271445059650 tw13136216008069526381 tw17950470345658084601 tw15597257605612931512 tw15326930634156251229 tw10286463550565189046 tw15551846926245509514 tw13500888316129248829 tw978806907282012395 tw6642892047436096015 tw4886148220007054535 tw4380123366600388875 tw13403643914285849193 tw11441878404872082414 tw7420252098660182603 tw2498197261020317313 tw4155887105468968910 tw17456101510007866920 tw12979496687027904051 tw76606508073519521 tw6901753008332807723 tw3267739039917173041 tw2752630517606331646 tw8884946864773604078 tw256008411282646358 tw1051371704889851519 tw8660208566370874942 tw1078741234490289291 tw15816165286050029325 tw16823555279405448279 tw5224288273153225513 tw4219789330355681986 tw15283198110068364597 tw6995556348651134371 tw2856209665231371396 tw13139477658022305123 tw15863635639699863158 tw2121587144960765933 tw4879024576227633492 tw550634496000535570 tw14867930225197122928 tw16783412254543430594 tw11357383266792838246 tw9903491599344447071 tw7788232631873732039 tw12800917066921652003 tw12310221061738831040 tw14607505119914861679 tw13229581561943182938 tw10328147887466762744 tw6318026760999042016 tw6605602003572607546 tw3706350642173532409 tw14121462106883275377 tw15129021130059102089 tw16764742892701309056 tw5526691184436740408 tw15951098270086406308 tw3601907396535665160 tw9790386200991095518 tw3290898555660468555 tw771785739134529571 tw9062758368997961941 tw2693504492152885026 tw1689894385448270391 tw18168916910253693230 tw7845535570177622625 tw1747908428227720998 tw6647295041349226580 tw13850306912579059992 tw18139440870053982340 tw10026428647179145730 tw13352645780884800751 tw8702700976325537301 tw3822236847584114850 tw3061199404969583340 tw4817892282113005466 tw11185013401903936968 tw14335911576581184758 tw12639794740905802122 tw7674763220795661776 tw12576706161911153298 tw17500713488167658423 tw11887049384690653558 tw3667400628365524863 tw2385628467165406923 tw3932345319175490349 tw14947129146513018652 tw11859219071536398701 tw2232342137894925854 tw2585253264063674616 tw18006772814317966964 tw10688866334556043965 tw15081225389165630371 tw17148102633726283239 tw2744766925322786317 tw13785027995947989956 tw14281155738147032938 tw13342863177417066398 tw4221142039514217295 tw9760984250967094834 tw3383480084250940268 tw11955458871197076291 tw6088349990979669128 tw17637326240389342504 tw6912075663245861334 tw12463531219484737155 tw14853144682296475943 tw13673354654384703989 tw10569533098081799869 tw8600667354806928263 tw8109248527958750395 tw7109256191481143831 tw2881030479762813542 tw1237797000212091016 tw6624642207280632202 tw13530769660191332774 tw4855009214597845742 tw72024371573995657 tw9008158432865086966 tw12689130163805120182 tw11945728640868956183 tw14977372460990239676 tw5858239114463279436 tw5103735167945643044 tw16060011531426799134 tw11038308159276044920 tw6355101621189381429 tw11552134537599246709 tw8139123348699232971 tw2217275747836559092 tw14711953325696777608 tw4064609903941627996 tw15285903403502304037 tw1623783771462375604 tw16126659642132877384 tw2104148312044529183 tw14315549855611123245 tw16689335382162860553 tw1828907629895392439 tw5380512523502959818 tw8147065993993700870 tw7816715218679681714 tw10872166314296525196 tw2507871576679898551 tw16509785461566333848 tw7586266770928360884 tw1095331182136720597 tw2769633512729815609 tw17416210891603635417 tw6779662137878411054 tw4315246792175328563 tw13685052967458783489 tw6278230409302628457 tw6550021221351179222 tw6554938052254625731:True)
open PySem PySem.W PyProof.Rows L2 L3
set_option maxRecDepth 100000 in
set_option maxHeartbeats 0 in
theorem PySem.Challenge.cw_callboard_k14_busy_and_wait_holds : PySem.Challenge.rw_callboard_k14_busy_and_wait.Holds := by
 w_on;o_law;k_head;(case hw=>w_witness2)
 k_fill
 refine L3.Ng (l:=PySem.Challenge.rw_callboard_k14_busy_and_wait) (sp:=Z.KR) (k:=17) (x:="_law_script") rfl rfl ⟨rfl,by decide,by decide⟩ (λw h Y=>PySem.W.kIn_of Y) (λns hl=>⟨ns,rfl,hl,rfl⟩) ?F;case F=>
  intro w mg fa h KX G hmg;suffices h:∃a:Z.Ad,Z.Gl _ mg a/\∀(s:Shared) (u:Value),BindsTo s a.ai.d ⟨[u],[]⟩ [("_law_script",u)]by obtain⟨a,g,hb⟩:=h;have e:=hmg.symm.trans g.ai.mg;cases e;exact⟨a.ai.d,hb,λbase _ _=>g.ai.pe ▸ Z.QM g⟩
  refine'⟨⟨_,_,_,_,_,_,_,_,_,_,_,_,_,_,_,_,_,_,_,_,_,_,_,_,_,_,_,_,_,_,_,_,_,_,_,_,_,_,_,_,_,_,_,_,_,_,_,_,_,_,_,_,_,_,_,_,_,_,_,_,_,_,_,_,_,_,_,_,_,_,_,_,_,_,_,_,_,_,_,_,_,_,_,_,_,_,_,_,_,_,_,_,_,_,_,_,_,_,_,_,_,_,_,_,_,_,_,_,_,_,_,_,_,_,_,_,_,_,_,_,_,_,_,_,_,_,_,_,_,_,_,_,_⟩,⟨wA KX G ..,wA KX G ..,wA KX G ..,wA KX G ..,wA KX G ..,wA KX G ..,wA KX G ..,wA KX G ..,wA KX G ..,wA KX G ..,wA KX G ..,wA KX G ..,wA KX G ..,PySem.W.mg_of KX G ?_,PySem.W.mg_of KX G ?_,qm KX G ..,qm KX G ..,qm KX G ..,qm KX G ..,qm KX G ..,qm KX G ..,qm KX G ..,qm KX G ..,qm KX G ..,qm KX G ..,qm KX G ..,qm KX G ..,qm KX G ..,qm KX G ..,qm KX G ..,qm KX G ..,qm KX G ..,qm KX G ..,qm KX G ..,qm KX G ..,qm KX G ..,qm KX G ..,qm KX G ..,qm KX G ..,qm KX G ..,qm KX G ..,qm KX G ..,qm KX G ..,qm KX G ..,qm KX G ..,qm KX G ..,qm KX G ..,qm KX G ..,qm KX G ..,qm KX G ..,qm KX G ..,qm KX G ..,qm KX G ..,qm KX G ..,qm KX G ..,qm KX G ..,qm KX G ..,qm KX G ..,qm KX G ..,qm KX G ..,qm KX G ..,qm KX G ..,qm KX G ..,qm KX G ..,qm KX G ..,qm KX G ..,qm KX G ..,qm KX G ..,qm KX G ..,qm KX G ..,qm KX G ..,qm KX G ..,qm KX G ..,qm KX G ..,qm KX G ..,qm KX G ..,qm KX G ..,qa ..,qa ..,qa ..,qa ..,qa ..,qa ..,qa ..,qa ..,qa ..,qa ..,qa ..,qa ..,qa ..,qa ..,qa ..,qa ..,qa ..,qa ..,qa ..,qa ..,qa ..,qa ..,qa ..,qa ..,qa ..,qa ..,qa ..,qa ..,qa ..,qa ..,qa ..,qa ..,qa ..,qa ..,qa ..,qa ..,qa ..,qa ..,qa ..,qa ..,qa ..,qa ..,qa ..,qa ..,qa ..,qa ..,qa ..,qa ..,qa ..,qa ..,qa ..,qa ..,qa ..,qa ..,qa ..,qa ..,NB ?_ ?_ ?_ ?_ ?_ ?_ ?_ ?_ ?_ ?_,Ki ?_ ?_ ?_,NZ ?_ ?_ ?_ ?_,⟨?_,?_,?_,?_⟩,⟨?_,?_,?_,?_⟩,⟨?_,?_,?_,?_⟩,⟨?_,?_,?_,?_⟩,⟨?_,?_,?_,?_⟩,⟨?_,?_,?_,?_⟩,⟨?_,?_,?_,?_⟩,⟨?_,?_,?_,?_⟩,⟨?_,?_,?_,?_⟩,⟨?_,?_,?_,?_⟩,⟨?_,?_,?_,?_⟩,⟨?_,?_,?_⟩,⟨?_,?_,?_⟩,⟨?_,?_,?_⟩,⟨?_,?_,?_⟩,⟨?_,?_,?_⟩,⟨?_,?_,?_⟩,⟨?_,?_,?_⟩,⟨?_,?_,?_⟩,⟨?_,?_,?_⟩,⟨?_,?_,?_⟩,⟨?_,?_,?_⟩,⟨?_,?_,?_⟩,⟨?_,?_,?_⟩,⟨?_,?_,?_⟩,⟨?_,?_,?_⟩,⟨?_,?_,?_⟩,⟨?_,?_,?_⟩,⟨?_,?_,?_⟩,⟨?_,?_,?_⟩,⟨?_,?_,?_⟩,⟨?_,?_,?_⟩,(pR ?_ (pR ?_ (pR ?_ (pR ?_ (pR ?_ (pR ?_ tJ)))))),(pR ?_ (pR ?_ (pR ?_ (pR ?_ (pR ?_ (pR ?_ (pR ?_ (pR ?_ tJ)))))))),(pR ?_ (pR ?_ (pR ?_ tJ))),(pR ?_ (pR ?_ (pR ?_ tJ))),(pR ?_ (pR ?_ (pR ?_ tJ))),(pR ?_ (pR ?_ (pR ?_ (pR ?_ (pR ?_ tJ))))),(pR ?_ (pR ?_ (pR ?_ tJ))),(pR ?_ (pR ?_ (pR ?_ (pR ?_ tJ)))),(pR ?_ (pR ?_ tJ)),(pR ?_ (pR ?_ tJ)),(pR ?_ (pR ?_ (pR ?_ (pR ?_ (pR ?_ (pR ?_ (pR ?_ (pR ?_ tJ)))))))),NA,PySem.W.mg_none_of KX G ?_,PySem.W.mg_none_of KX G ?_,PySem.W.mg_none_of KX G ?_,PySem.W.mg_none_of KX G ?_,PySem.W.mg_none_of KX G ?_,PySem.W.mg_none_of KX G ?_,PySem.W.mg_none_of KX G ?_,PySem.W.mg_none_of KX G ?_,PySem.W.mg_none_of KX G ?_,PySem.W.mg_none_of KX G ?_,PySem.W.mg_none_of KX G ?_,PySem.W.mg_none_of KX G ?_,PySem.W.mg_none_of KX G ?_,PySem.W.mg_none_of KX G ?_,PySem.W.mg_none_of KX G ?_,vX (PySem.W.mg_of KX G ?_),vX (PySem.W.mg_of KX G ?_),vX (PySem.W.mg_of KX G ?_),vX (PySem.W.mg_of KX G ?_),Od (PySem.W.mg_of KX G ?_) (uE (ss:=["all","turns"]) ?_ (.cons ⟨_,rfl⟩ (.cons ⟨_,rfl⟩ .nil)) (Nat.le_of_ble_eq_true rfl)),vX (PySem.W.mg_of KX G ?_),vX (PySem.W.mg_of KX G ?_),vX (PySem.W.mg_of KX G ?_),Ru (PySem.W.mg_of KX G ?_),Pu (es:=[⟨_,.str "bar" _,.ref _⟩,⟨_,.str "shut" _,.ref _⟩,⟨_,.str "always" _,.ref _⟩,⟨_,.str "night" _,.ref _⟩,⟨_,.str "busy" _,.ref _⟩,⟨_,.str "silent" _,.ref _⟩,⟨_,.str "wait" _,.ref _⟩,⟨_,.str "breaks" _,.ref _⟩]) (PySem.W.mg_of KX G ?_) ?_ ?_ (.cons rfl ⟨_,rfl,(uE (ss:=["phone","names"]) ?_ (.cons ⟨_,rfl⟩ (.cons ⟨_,rfl⟩ .nil)) (Nat.le_of_ble_eq_true rfl))⟩ (.cons rfl ⟨_,rfl,(uE (ss:=["name","phones"]) ?_ (.cons ⟨_,rfl⟩ (.cons ⟨_,rfl⟩ .nil)) (Nat.le_of_ble_eq_true rfl))⟩ (.cons rfl ⟨_,rfl,(uE (ss:=["name","name"]) ?_ (.cons ⟨_,rfl⟩ (.cons ⟨_,rfl⟩ .nil)) (Nat.le_of_ble_eq_true rfl))⟩ (.cons rfl ⟨_,rfl,(uE (ss:=["name","name","hour","hour"]) ?_ (.cons ⟨_,rfl⟩ (.cons ⟨_,rfl⟩ (.cons ⟨_,rfl⟩ (.cons ⟨_,rfl⟩ .nil)))) (Nat.le_of_ble_eq_true rfl))⟩ (.cons rfl ⟨_,rfl,(uE (ss:=["name","name"]) ?_ (.cons ⟨_,rfl⟩ (.cons ⟨_,rfl⟩ .nil)) (Nat.le_of_ble_eq_true rfl))⟩ (.cons rfl ⟨_,rfl,(uE (ss:=["name","name","turns"]) ?_ (.cons ⟨_,rfl⟩ (.cons ⟨_,rfl⟩ (.cons ⟨_,rfl⟩ .nil))) (Nat.le_of_ble_eq_true rfl))⟩ (.cons rfl ⟨_,rfl,(uE (ss:=["phone"]) ?_ (.cons ⟨_,rfl⟩ .nil) (Nat.le_of_ble_eq_true rfl))⟩ (.cons rfl ⟨_,rfl,(uE (ss:=["phone"]) ?_ (.cons ⟨_,rfl⟩ .nil) (Nat.le_of_ble_eq_true rfl))⟩ .nil)))))))),vX (PySem.W.mg_of KX G ?_),vX (PySem.W.mg_of KX G ?_),vX (PySem.W.mg_of KX G ?_)⟩,λs u=>.of_eq rfl⟩
  all_goals try first|k_is|(intro _ _ _ _ _ _ us hl;rcases us with _|⟨_,_|⟨_,_|⟨_,_|⟨_,_|⟨_,_|⟨_,us⟩⟩⟩⟩⟩⟩<;>first|rfl|(exfalso;revert hl;simp;done))|rfl
