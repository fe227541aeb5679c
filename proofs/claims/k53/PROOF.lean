import PyProof.Rows.All
import Wide.All
import OpenK.AllK
import Wide.FinOn
import PyProof.EqAt
import PyProof.EqKinds
import PyProof.TupleCall
import PyProof.AttrMiss
import PyProof.IsiH_list
import PyProof.Rows.SetFrom
import KE.KDictOf
import KE.KTab
import PyProof.AutoListH
import KE.KSortTup
import KE.KItemsList
import KE.KEqDict
import KE.KIntText
import Lean
import PyProof.RulesRaise
import PyProof.RulesTry
import KE.KTryDeep
import KE.KTryMore
import KE.KTryOn
import KE.TryInHelper
import KE.TryLedger
import PyProof.ExcArgsOwn
import PyProof.ExcAttrAll.ValueError
import KE.KIsAll
import PyProof.ExcBaseAll.ValueError
import PyProof.InstStoreFacts
import PyProof.ExcInit
import PyProof.SeqI3
import PyProof.ConsumeWalk
import PySem.Challenge.RW_callboard_k53_whole_goes_on_alike
set_option Elab.async false
set_option linter.all false
set_option maxRecDepth 100000
set_option maxHeartbeats 4000000
open List renaming length_map->cS,getElem?_eq_some_iff->cU,getElem?_eq_getElem->cV,length_append->cW,mem_cons->de,size_toArray->dh,mem_singleton->dv,getElem?_map->dz,mem_cons_of_mem->dA,mem_map->dB,not_mem_nil->dD,mem_cons_self->dG,length_nil->dM,length_singleton->dN,nodup_cons->dO,map_append->dP,map_cons->dR,mem_append->dU,map_map->dX,nil_append->dY,mem_append_right->d9,length_cons->eh,length_range->eB,all_eq_true->eC,lookup_cons->eE,replicate_succ->eF,nodup_nil->eG,getElem?_set_self->eJ,getElem?_set_ne->eN,getElem?_append_right->eR,all_cons->eU,length_modify->eW,append_nil->eY,getElem?_append_left->eZ,mem_append_left->fg,append_assoc->fk,mem_of_getElem?->fm,cons_ne_nil->fB,length_pos_iff->fC,take_length->fE,mem_filter->fG,find?_cons->fH,flatten_cons->fN,length_take->fQ,foldl_cons->fU,filterMap_cons->fV,filter_sublist->fW,any_cons->fY,getD_eq_getElem?_getD->fZ,exists_cons_of_ne_nil->gb,mem_range->gc,mem_of_find?_eq_some->gf,getLast?_eq_none_iff->gg,nodup_append->gj,length_eq_zero_iff->gm,map_congr_left->gq,length_drop->gu,any_eq_true->gw,getElem?_eq_none->gA,length_filter_le->gB,drop_eq_getElem_cons->gG,getLastD_eq_getLast?->gH,filter_cons->gJ,getElem_of_mem->gL,filter_map->gQ,find?_eq_none->gR,take_add_one->gU,findIdx?_map->gX,getElem_mem->hZ,mem_of_getLast?->ia,dropLast_subset->ib,length_set->ii,getElem?_zip_eq_some->ij,contains_cons->iu,filter_cons_of_pos->iz,filter_cons_of_neg->iA,getElem?_cons_zero->iB,take_of_length_le->iF,findIdx?_eq_some_iff_getElem->iG,length_replicate->iK,getElem?_toArray->iL,map_nil->iO,set_set->iR,range_succ->iS,filter_nil->iT,mem_of_mem_take->iU,mem_of_mem_drop->iV,getElem?_modify->iW,getElem?_range->iY,map_id->je,filter_append->jj,sublist_append_right->ju,pairwise_iff_getElem->jv,getLast?_eq_getElem?->jw,findIdx?_eq_none_iff->jx,all_map->jF,drop_length->jG,any_map->jK,eq_of_mem_replicate->jL,getElem?_replicate->jM,of_mem_zip->jP,forIn_cons->jQ,forIn_nil->jZ,drop_zero->j7,set_append_right->kc,map_drop->kz,filter_eq_self->kD,modify_eq_self->kE,mem_filterMap->kI,getElem_range->kW,set_cons_succ->kX,any_eq_false->kZ,foldl_append->lh,getElem_inj->lD,zipIdx_cons->lN,getElem_map->lR,zipIdx_nil->lW,any_append->lY,find?_some->l0,map_take->me,map_set->mq
open PySem renaming wpAny_bind->cT,wpAny_pure->c9,sizeLine_eq->dH,wpAny_mono->dZ,wpAny_holding->eK,wpAny_field->fi,wpAny_truthy_bool->fj,wpAny_callSpecial?_slot->fL,wpAny_Call_Name_kw->fP,wpAny_call_entry->fR,wpAny_newObj_type->fS,codeAny_mono->gh,wpAny_seqItems->gv,wpAny_setField_rec->gy,wpAny_passesOwn->gz,mem_of_lookup->gK,wpAny_execs_nil->gM,codeAny_builtin->gO,wpAny_pyIter_list->gT,wpAny_loadPart_at->gW,wpAny_setField->gZ,wpAny_call->hJ,codeAny_call_builtin->hW,wpAny_standAt->ic,wpAny_pyIter_tuple->ir,wpAny_onRaise->iH,plainObj_wpAny_Assign_Attribute->iM,wpAny_updateSeq_pair->iP,isSubtype_type->jc,tupleKind_room_in1->jf,slot_dict_contains->jh,wpAny_sequenceKey->jn,call_meets->js,wpAny_execs_cons->jz,wpAny_typeOf->jC,wpAny_comprehension_free->jE,codeAny_of_tree->jS,wpAny_specialOf->jT,builtinLookup_eq_fast->j3,weight_type_call_type->j4,getitemInPython_of_ne->j5,wpAny_rule->kh,wpAny_letTemporaryGo->km,plainId_quiet->ku,wpAny_attempt->kx,wpAny_isSubtype_exc->kC,concat_meets->kM,seqIndex_neg->kO,wpAny_assign_Name->kY,slot_list_getitem->lb,slot_dict_getitem->lq,wpAny_pyIter_enum->ls,seqIndex_of->ly,wpAny_letGo->lz,wpAny_pyHash_str->lB,wpAny_eqBool_int->lC,wpAny_lookBehind->lE,pastItsLine_dict->lF,noFill_tuple_add->lH,check_set_init_1->lM,wpAny_pyIter_zip->lP,wpAny_Name->lT,typeIs_int->lU
def cX:=@if_neg
def cZ:=@if_pos
def dS:=@decide_eq_true
def d6:=@decide_eq_true_eq
def eM:=@decide_eq_false
def eO:=@congrArg
def eX:=@or_false
def fh:=@beq_iff_eq
def fA:=@beq_self_eq_true
def fK:=@not_or
def fO:=@of_decide_eq_true
def gp:=@beq_eq_false_iff_ne
def jb:=@if_true
def kg:=@if_false
def lw:=@bne_self_eq_false
open PySem.Heap renaming get?_push_of_some->cY,lt_size->dq,get?_push_size->dE,size_push->ft,get?_update_self->fF,get?_update_other->fX,get?_none_of_le->gF,get?_push_ne->iD,size_update->iJ,get?_update_ne->iZ
open Option.some renaming inj->df,injEq->jp
open Nat renaming le_refl->dg,ne_of_lt->dC,lt_of_lt_of_le->dJ,le_trans->dW,zero_le->eD,lt_irrefl->e9,lt_succ_self->fv,lt_succ_of_lt->fT,ne_of_gt->gI,le_succ->gS,sub_self->g9,succ_le_succ->h9,lt_trans->il,lt_of_le_of_lt->iy,le_add_right->iI,le_succ_of_le->jq,le_of_lt->jy,le_of_not_lt->jD,mul_le_mul->j6,sub_zero->kQ,min_eq_left->lZ,le_of_eq->mh,succ_mul->mj,zero_add->mo,succ_pos->mv
open Bool renaming false_ne_true->dw,eq_false_iff->dF,and_eq_true->dQ,true_and->eI,false_and->eQ,false_or->fM,eq_iff_iff->gi,not_eq_true'->gD,or_eq_true->gP,true_or->gY,not_eq_false->jr,or_false->kt,false_eq_true->kT,or_true->kU,beq_comm->ma
open Ne renaming symm->dI
open Int renaming eq_ofNat_of_zero_le->eA,emod_lt_of_pos->eL,emod_nonneg->eP,mul_le_mul_of_nonneg_left->iX,toNat_natCast->jm,emod_add_mul_ediv->j9,zero_add->mw
open PySem.PassesOwn renaming never->fu
open PySem.F renaming called_set->fz,slot_tuple_iterator_next->gC,slot_list_getattribute->im,slot_zip_next->iQ,args_tuple_iterator_next_1->jd,entry_tuple_iterator_next->ji,slot_dict_getitem->jt,args_tuple_add_2->jB,store_ValueError->jJ,entry_tuple_add->jN,slot_dict_items->jO,slot_tuple_add->jW,attrBase_ValueError->j8,excBase_ValueError->ko,entry_type_call->lj,args_zip_next_1->lu,typeCall_set_1->lK,entry_set_init->lL,entry_zip_next->lO,slot_int_rmul->lV
open PyProof.Rows renaming slot_tuple_getitem->fD,callWith_type1->fJ,callWith_builtin1->gN,SetOf_congr->ip,setObjOf_fresh->jg,subscriptTail_builtinR->jX,listUpdate_at->ky,entry_tuple_getitem->kA,args_tuple_getitem->kN,seqEpoch_at->lA,size_push'->lX
open List.cons renaming inj->gk
open PyProof.Rows.F renaming plain_set_update_loop->gx,entry_set_update_loop->io
open PySem.Around renaming under_plainId->hU,under_plain->kP
open Array renaming getElem?_setIfInBounds_self_of_lt->ie,length_toList->ig,toList_append->i9,size_setIfInBounds->jI,mem_toList_iff->ke,append_assoc->kH,find?_toList->kK
open PySem.Calls renaming spliced_cons->ik,spliced_nil->iC,Name_function_global->jl,callWith_builtin->jY
open PySem.Code renaming quiet_builtin->iq
open List.Nodup renaming sublist->iw
open Option renaming map_eq_some_iff->iE,isSome_map->jo,isSome_iff_exists->jA,map_some->jR,getD_none->lJ,bind_some->lQ
open PySem.W renaming callWith_K->iN,looks_findIn->ja,methodCall_KW->jU,plainGet_of->kq,looks_clsIn->kr,cellsFrom_some->lG
open PySem.Paired renaming length->jk,snoc->my
open Sum.inr renaming inj->jV
open PySem.Walks renaming list->kl
open PySem.Heap.SameBut renaming update->kB
open PySem.SeqAt.EqAt renaming int_str->kF,str_int->kG
open PySem.Obj renaming data_mapFields->kS
open PySem.Heap.Ns1 renaming of_empty->k9
open Eq renaming symm->l8
open PySem.W.Looks renaming here->mf
open Prod renaming ext->mi
open PySem.Heap.FunFrames renaming of_keeps->mx
open PySem.Moved renaming trans->mz
open PySem.Heap.IsSliceOf renaming new->mB
abbrev qh:=PySem.W.Frag
local macro_rules | `(tactic| walk_at "l") => `(tactic| (intro _ _ _ h; repeat (first | (obtain ⟨e, _⟩ := h; subst e; rfl; done) | (cases h; rename_i h))))
local macro_rules | `(tactic| walk_at "m") => `(tactic| (intro _ _ _ _ h; repeat (first | (obtain ⟨e, _⟩ := h; subst e; rfl; done) | (cases h; rename_i h))))
abbrev Vl:=PySem.Value
abbrev Sd:=PySem.Shared
abbrev Pg:=PySem.Program
abbrev Ar:=PySem.Around
abbrev Wo:=PySem.World
abbrev T0(α:Type _):=List α
abbrev QQQ:=List PySem.Str
abbrev QQX:=PySem.Value->PySem.Shared->Prop
abbrev QQY:=List (PySem.Addr×PySem.Obj)
abbrev QQZ:=PySem.Str->Option PySem.Value
abbrev QXQ:=List PySem.Addr
section
open PySem PySem.Spec PyProof.Rows
namespace L2
def x5{α:Sort u}{β:Sort v}{p q r:α->β->Prop}{C:Prop}(h:∃a b,p a b/\q a b/\r a b)(f:∀a b,p a b->q a b->r a b->C):C:=by obtain⟨a,b,h1,h2,h3⟩:=h;exact f a b h1 h2 h3
abbrev qS:=Sum Int Str
def Bx:qS->Vl->Bool
 | .inl k,v=>Value.isInt k v
 | .inr x,v=>Value.isStrOf x v
def VV(w:Wo):qS->Int
 | .inl k=>hashInt k
 | .inr x=>hashStr w x
def rK:∀{k:qS} {v:Vl},Bx k v=true->(∃i t,k=Sum.inl i/\v=Value.int i t)\/(∃x t,k=Sum.inr x/\v=Value.str x t)
 | .inl i,v,h=>by obtain⟨t,e⟩:=Value.isInt_shape (k:=i) (v:=v) h;exact .inl ⟨i,t,rfl,e⟩
 | .inr x,v,h=>by obtain⟨t,e⟩:=Value.isStrOf_shape (x:=x) (v:=v) h;exact .inr ⟨x,t,rfl,e⟩
def J'(i:Int)(t:Tok):Bx (.inl i) (.int i t)=true:=by simp[Bx,Value.isInt]
def J0(x:Str)(t:Tok):Bx (.inr x) (.str x t)=true:=by simp[Bx,Value.isStrOf]
def Ss(a b:Int):decide ((Sum.inl a:qS)=Sum.inl b)=(a==b):=by
 by_cases e:a=b
 .subst e;simp
 .have h:¬(Sum.inl a:qS)=Sum.inl b:=λq=>e (Sum.inl.inj q);rw[eM h];exact(gp.mpr e).symm
def S4(a b:Str):decide ((Sum.inr a:qS)=Sum.inr b)=decide (a=b):=by
 by_cases e:a=b
 .subst e;simp
 .have h:¬(Sum.inr a:qS)=Sum.inr b:=λq=>e (jV q);rw[eM h,eM e]
def SG(a:Int)(b:Str):decide ((Sum.inl a:qS)=Sum.inr b)=false:=eM (λq=>nomatch q)
def Sn(a:Str)(b:Int):decide ((Sum.inr a:qS)=Sum.inl b)=false:=eM (λq=>nomatch q)
def rg(prog:Pg)(w:Wo):PySem.KeyKind prog w qS where
 is:=Bx
 hash:=VV w
 inj:=λv a b ha hb=>by
  rcases rK ha with⟨i,t,rfl,rfl⟩|⟨x,t,rfl,rfl⟩
  .rcases rK hb with⟨j,u,rfl,e⟩|⟨y,u,rfl,e⟩
   .injection e with e1 _;rw[e1]
   .exact nomatch e
  .rcases rK hb with⟨j,u,rfl,e⟩|⟨y,u,rfl,e⟩
   .exact nomatch e
   .injection e with e1 _;rw[e1]
 byValue:=λk v h=>by rcases rK h with⟨i,t,rfl,rfl⟩|⟨x,t,rfl,rfl⟩<;>rfl
 pyHash:=λhv h=>by
  rcases rK hv with⟨i,t,rfl,rfl⟩|⟨x,t,rfl,rfl⟩
  .exact wpAny_pyHash_int h
  .exact lB h
 eqBool:=λhu hv h=>by
  rcases rK hu with⟨i,t,rfl,rfl⟩|⟨x,t,rfl,rfl⟩
  .rcases rK hv with⟨j,u,rfl,rfl⟩|⟨y,u,rfl,rfl⟩
   .rw[Ss]at h;exact lC h
   .rw[SG]at h;exact kF i t y u _ _ _ _ h
  .rcases rK hv with⟨j,u,rfl,rfl⟩|⟨y,u,rfl,rfl⟩
   .rw[Sn]at h;exact kG x t j u _ _ _ _ h
   .rw[S4]at h;exact wpAny_eqBool_str h
 «strs»:=λk x t v h=>by
  rcases rK h with⟨i,u,rfl,e⟩|⟨y,u,rfl,e⟩
  .exact nomatch e
  .injection e with e1 _
   subst e1;cases v<;>rfl
def F5(prog:Pg)(w:Wo)(i:Int)(t:Tok):(rg prog w).is (.inl i) (.int i t)=true:=J' i t
def As(prog:Pg)(w:Wo)(x:Str)(t:Tok):(rg prog w).is (.inr x) (.str x t)=true:=J0 x t
inductive V where
 | mG|bl (b:Bool)|int (i:Int)|str (x:Str)|byt (b:Array UInt8)|flt (b:UInt64)|ref (a:Addr)|ty (n:String)
 deriving DecidableEq
def qC:V->Vl->Prop
 | .mG,u=>u=Value.none
 | .bl b,u=>u=Value.bool b
 | .int i,u=>∃t,u=Value.int i t
 | .str x,u=>∃t,u=Value.str x t
 | .byt b,u=>∃t,u=Value.bytes b t
 | .flt b,u=>∃t,u=Value.float b t
 | .ref a,u=>u=Value.ref a
 | .ty n,u=>u=Value.type n
abbrev qx:T0 V->T0 Vl->Prop:=Paired qC
def qx.length(r:qx xs us):xs.length=us.length:=jk r
theorem qx.get:∀{xs:T0 V} {us:T0 Vl} {i:Nat} {x:V},qx xs us->xs[i]?=some x->∃u,us[i]?=some u/\qC x u
 | _,_,_,_,.nil,e=>by simp at e
 | _,_,0,_,.cons r _,e=>by simp at e;subst e;exact⟨_,rfl,r⟩
 | _,_,i+1,x,.cons _ t,e=>by obtain⟨u,h1,h2⟩:=qx.get (i:=i) (x:=x) t (by simpa using e);exact⟨u,by simpa using h1,h2⟩
theorem qx.set(r:qC x u):∀{xs:T0 V} {us:T0 Vl} (i:Nat),qx xs us->qx (xs.set i x) (us.set i u)
 | _,_,_,.nil=>.nil
 | _,_,0,.cons _ t=>.cons r t
 | _,_,i+1,.cons q t=>.cons q (qx.set r i t)
theorem qx.append:∀{xs ys:T0 V} {us ws:T0 Vl},qx xs us->qx ys ws->qx (xs++ys) (us++ws)
 | _,_,_,_,.nil,s=>s
 | _,_,_,_,.cons r t,s=>.cons r (qx.append t s)
theorem qx.take:∀{xs:T0 V} {us:T0 Vl} (n:Nat),qx xs us->qx (xs.take n) (us.take n)
 | _,_,0,_=>.nil
 | _,_,_+1,.nil=>.nil
 | _,_,n+1,.cons r t=>.cons r (qx.take n t)
theorem qx.drop:∀{xs:T0 V} {us:T0 Vl} (n:Nat),qx xs us->qx (xs.drop n) (us.drop n)
 | _,_,0,r=>r
 | _,_,_+1,.nil=>.nil
 | _,_,n+1,.cons _ t=>qx.drop n t
def x9:Option V->Option Vl->Prop
 | some v,some u=>qC v u
 | none,none=>True
 | _,_=>False
def KV{κ:Type}:T0 (κ×V)->T0 (κ×Vl)->Prop:=Paired λ(p:κ×V) (q:κ×Vl)=>p.1=q.1/\qC p.2 q.2
def kV:qS->V
 | .inl i=>.int i
 | .inr x=>.str x
inductive HO where
 | lst (xs:List V)
 | tup (xs:List V)
 | dK (kvs:List (qS×V))|dT (kvs:List (List qS×V))
 | set (S:Int->Bool) (n:Nat)
 | ins (C dx:Addr) (fs:List (Str×V))
 | own (x:Addr)
 | xd (fs:List (Str×V))
 | met (f x:Addr)
 | rng (lo hi:Int)
 | frz (o:Obj) (u:HO)
 | tbl (ps:Array Vl)
 | ext (φ:Heap->Prop)
abbrev Hp:=Addr->Option HO
def upd(H:Hp)(a:Addr)(o:HO):Hp:=λb=>if b=a then some o else H b
def qa:upd H a o a=some o:=by unfold upd;rw[cZ rfl]
def pQ{a b:Addr}(h:b≠a):upd H a o b=H b:=by unfold upd;rw[cX h]
def OV:upd (upd H a o) a u=upd H a u:=by funext b;unfold upd;split<;>rfl
def U7{H:Hp}{a b:Addr}{o u:HO}(h:H a=some o)(h':H b=some u)(d:o≠u):a≠b:=by intro e;subst e;rw[h]at h';exact d (df h')
def qM{H:Hp}{a b:Addr}{o:HO}(h:H a=some o)(h':H b=none):a≠b:=by intro e;subst e;rw[h]at h';cases h'
section
variable (P:Pg)(w:Wo)
def Fd(h:Heap)(a:Addr)(its:Array Vl):Prop:=∃o,h.get? a=some o/\o.cls=.type "tuple"/\(∃n,o.data=.seq its n)/\o.dict=none
def sJ(H:Hp)(h:Heap)(a:Addr):HO->Prop
 | .lst xs=>xs.length<=sizeLine/\∃(its:T0 Vl) (n:Nat),qx xs its/\h.get? a=some {cls:=.type "list",data:=.seq its.toArray n}
 | .tup xs=>xs.length<=sizeLine/\∃its:T0 Vl,qx xs its/\Fd h a its.toArray
 | .dK kvs=>kvs.length<=sizeLine/\(a==sysModules)=false/\∃vs,KV kvs vs/\h.DictOf (rg P w) a vs
 | .dT kvs=>kvs.length<=sizeLine/\(a==sysModules)=false/\∃xs:T0 (List qS×Addr×Vl),Paired (λ(p:List qS×V) (q:List qS×Addr×Vl)=>p.1=q.1/\H q.2.1=some (.tup (p.1.map kV))/\qC p.2 q.2.2) kvs xs/\
   ∃o es ep,h.get? a=some o/\o.ExactDict/\o.data=.dict es ep/\es.toList=xs.map (entryOfKey (tupleKind (rg P w)))/\(xs.map (·.1)).Nodup
 | .set S n=>h.SetOf (intKind P w) a S n
 | .ins C dx fs=>H dx=some (.own a)/\fs.length<=1000/\dx≠a/\h.get? a=some (W.instObj C dx)/\
   ∃mA,h.Ns1 dx mA/\(∀f,x9 (fs.lookup f) (mA f))/\PySem.Within mA (fs.map (·.1))
 | .own _=>∃o,h.get? a=some o
 | .xd fs=>∃mA,h.Ns1 a mA/\∀f,x9 (fs.lookup f) (mA f)
 | .rng lo hi=>∃t u v,h.get? a=some {cls:=.type "range",data:=.fields #[.int lo t,.int hi u,.int 1 v]}
 | .frz o u=>h.get? a=some o/\sJ H h a u
 | .tbl ps=>h.get? a=some {cls:=.none,data:=.fields ps}
 | .met f x=>h.get? a=some (W.methodObj (.ref f) (.ref x))
 | .ext φ=>φ h/\(∃o,h.get? a=some o)/\∀h1 h2:Heap,φ h1->(∀o,h1.get? a=some o->h2.get? a=some o)->φ h2
def yc(H:Hp)(h:Heap):Prop:=∀a o,H a=some o->sJ P w H h a o
end
variable {H H':Hp}{h h':Heap}
section
variable {P:Pg}{w:Wo}{a:Addr}{o:HO}
def Fd.is(x:Fd h a its):IsTup h a its:=let⟨o,e,c,d,_⟩:=x;⟨o,e,c,d⟩
def Fd.new(h:Heap)(W6:Array Vl):Fd (h.push {cls:=.type "tuple",data:=.seq W6}) h.objs.size W6:=⟨_,dE _ rfl,rfl,⟨_,rfl⟩,rfl⟩
def sJ.lt(x:sJ P w H h a o):a<h.objs.size:=by
 cases o with
 | lst xs=>obtain⟨_,_,_,_,e⟩:=x;exact dq e
 | tup xs=>obtain⟨_,_,_,_,e,_⟩:=x;exact dq e
 | dK kvs=>obtain⟨_,_,_,_,o,_,_,e,_⟩:=x;exact dq e
 | dT kvs=>obtain⟨_,_,_,_,o,_,_,e,_⟩:=x;exact dq e
 | set S n=>obtain⟨o,_,_,_,e,_⟩:=x;exact dq e
 | ins C dx fs=>obtain⟨_,_,_,e,_⟩:=x;exact dq e
 | own y=>obtain⟨_,e⟩:=x;exact dq e
 | xd fs=>obtain⟨_,⟨_,_,_,e,_⟩,_⟩:=x;exact dq e
 | rng lo hi=>obtain⟨_,_,_,e⟩:=x;exact dq e
 | frz ob u=>obtain⟨e,_⟩:=x;exact dq e
 | tbl ps=>exact dq (show h.get? a=some _ from x)
 | met f y=>exact dq (show h.get? a=some _ from x)
 | ext φ=>obtain⟨_,⟨_,e⟩,_⟩:=x;exact dq e
theorem Paired.ow{α β:Type}{F G:α->β->Prop}:∀{l₁:List α} {l₂:List β},Paired F l₁ l₂->(∀a b,F a b->G a b)->Paired G l₁ l₂
 | _,_,.nil,_=>.nil
 | _,_,.cons r t,f=>.cons (f _ _ r) (Paired.ow t f)
def sJ.ni(x:sJ P w H h a o)(k:∀b u,(b=a\/H b=some (.own a))->h.get? b=some u->h'.get? b=some u) (ho:∀b,H b=some (.own a)->H' b=some (.own a)) (ht:∀b xs,H b=some (.tup xs)->H' b=some (.tup xs)):sJ P w H' h' a o:=by
 induction o with
 | lst xs=>obtain⟨z,its,n,r,e⟩:=x;exact⟨z,its,n,r,k _ _ (.inl rfl) e⟩
 | tup xs=>obtain⟨z,its,r,ob,e,c⟩:=x;exact⟨z,its,r,ob,k _ _ (.inl rfl) e,c⟩
 | dK kvs=>obtain⟨z,y,vs,r,ob,es,ep,e,c⟩:=x;exact⟨z,y,vs,r,ob,es,ep,k _ _ (.inl rfl) e,c⟩
 | dT kvs=>obtain⟨z,y,xs,r,ob,es,ep,e,c⟩:=x;exact⟨z,y,xs,Paired.ow r λp q z=>⟨z.1,ht _ _ z.2.1,z.2.2⟩,ob,es,ep,k _ _ (.inl rfl) e,c⟩
 | set S n=>obtain⟨ob,es,ep,t,e,c⟩:=x;exact⟨ob,es,ep,t,k _ _ (.inl rfl) e,c⟩
 | ins C dx fs=>obtain⟨d,z,ne,e,mA,⟨od,es,ep,e2,c⟩,r⟩:=x;exact⟨ho _ d,z,ne,k _ _ (.inl rfl) e,mA,⟨od,es,ep,k _ _ (.inr d) e2,c⟩,r⟩
 | own y=>obtain⟨ob,e⟩:=x;exact⟨ob,k _ _ (.inl rfl) e⟩
 | xd fs=>obtain⟨mA,⟨od,es,ep,e,c⟩,r⟩:=x;exact⟨mA,⟨od,es,ep,k _ _ (.inl rfl) e,c⟩,r⟩
 | rng lo hi=>obtain⟨t,u,v,e⟩:=x;exact⟨t,u,v,k _ _ (.inl rfl) e⟩
 | frz ob u ih=>obtain⟨e,q⟩:=x;exact⟨k _ _ (.inl rfl) e,ih q⟩
 | tbl ps=>have e:h.get? a=some {cls:=.none,data:=.fields ps}:=x;show h'.get? a=some {cls:=.none,data:=.fields ps};exact k a _ (.inl rfl) e
 | met f y=>have e:h.get? a=some (W.methodObj (.ref f) (.ref y)):=x;show h'.get? a=some (W.methodObj (.ref f) (.ref y));exact k a _ (.inl rfl) e
 | ext φ=>obtain⟨p,⟨o,e⟩,st⟩:=x;exact⟨st _ _ p λo q=>k _ _ (.inl rfl) q,⟨o,k _ _ (.inl rfl) e⟩,st⟩
def yc.lt(x:yc P w H h)(e:H a=some o):a<h.objs.size:=(x a o e).lt
def yc.fresh(x:yc P w H h)(e:h.objs.size<=a):H a=none:=by
 cases q:H a with
 | none=>rfl
 | some u=>exact absurd (dJ (x.lt q) e) (e9 _)
def yc.kept(x:yc P w H h)(k:∀b u,h.get? b=some u->h'.get? b=some u):yc P w H h':=λa o e=>(x a o e).ni (λb u _ q=>k b u q) (λ_ q=>q) λ_ _ q=>q
def yc.laid(x:yc P w H h)(k:∀b u,h.get? b=some u->h'.get? b=some u)(hp:h.objs.size<=a)(new:sJ P w (upd H a o) h' a o):yc P w (upd H a o) h':=λb u e=>by
 have hn:=x.fresh hp;by_cases hb:b=a
 .subst hb;rw[qa]at e;cases e;exact new
 .rw[pQ hb]at e;exact(x b u e).ni (λc v _ q=>k c v q) (λc q=>by rw[pQ (qM q hn)];exact q) λc xs q=>by rw[pQ (qM q hn)];exact q
end
def Rd(H:Hp)(a:Addr)(u:HO):Prop:=H a=some u\/∃o,H a=some (.frz o u)
def Rd.ok(r:Rd H a u)(x:yc P w H h):sJ P w H h a u:=by
 rcases r with r|⟨o,r⟩
 .exact x a u r
 .obtain⟨_,q⟩:=x a _ r;exact q
def TZ:Option HO->Prop
 | some (.lst _)=>True
 | some (.dK _)=>True
 | some (.dT _)=>True
 | some (.set _ _)=>True
 | some (.ins _ _ _)=>True
 | some (.ext _)=>True
 | _=>False
variable {o':HO}
section
variable {P:Pg}{w:Wo}{x e:Addr}
def yc.write(ok:yc P w H h)(mu:TZ (H x))(he:e=x\/H e=some (.own x))(k:∀b u,b≠e->h.get? b=some u->h'.get? b=some u)(heo:∃u,h'.get? e=some u) (new:sJ P w (upd H x o') h' x o'):yc P w (upd H x o') h':=λb u q=>by
 have nown:∀c y,H c=some (.own y)->c≠x:=λc y r z=>by subst z;rw[r]at mu;exact mu
 have ntup:∀c xs,H c=some (.tup xs)->c≠x:=λc xs r z=>by subst z;rw[r]at mu;exact mu
 by_cases hb:b=x
 .subst hb;rw[qa]at q;cases q;exact new
 .rw[pQ hb]at q;by_cases hbe:b=e
  .have q':H b=some (.own x):=by
    rcases he with z|z
    .exact absurd (hbe.trans z) hb
    .rw[hbe];exact z
   rw[q]at q';cases q';obtain⟨v,hv⟩:=heo;exact⟨v,by rw[hbe];exact hv⟩
  .refine(ok b u q).ni (λc v hc r=>k c v ?_ r) (λc r=>by rw[pQ (nown c b r)];exact r) λc xs r=>by rw[pQ (ntup c xs r)];exact r
   rcases hc with rfl|hc
   .exact hbe
   .rintro rfl
    rcases he with z|z
    .exact nown c b hc z
    .rw[hc]at z;cases z;exact hb rfl
end
structure Un(fs ex:QXQ)(H H':Hp)(h h':Heap):Prop where
 keep:∀b o,h.get? b=some o->H b=none->b∉fs->b∉ex->h'.get? b=some o
 slot:∀b o,h.get? b=some o->H b=none->b∈fs->b∉ex->∃sl,h'.get? b=some {o with slots:=sl}
 free:∀b o,h.get? b=some o->H b=none->b∉ex->H' b=none
 there:∀b o,h.get? b=some o->b∉ex->∃o',h'.get? b=some o'
 nk:∀b xs,H b=some (.tup xs)->H' b=some (.tup xs)
 m9:∀b o u,H b=some (.frz o u)->H' b=some (.frz o u)
 nz:∀b ps,H b=some (.tbl ps)->∃more,H' b=some (.tbl (ps++more))
variable {ex ex':QXQ}{H1 H2:Hp}{h1 h2:Heap}
section
variable {fs fs':QXQ}{a x e:Addr}{o:HO}
def Un.any(u:Un fs ex H H1 h h1){b:Addr}{ob:Obj}(q:h.get? b=some ob)(n:H b=none)(hx:b∉ex):∃sl,h1.get? b=some {ob with slots:=sl}:=by
 by_cases hb:b∈fs
 .exact u.slot b ob q n hb hx
 .exact⟨ob.slots,u.keep b ob q n hb hx⟩
def Un.trans(a:Un fs ex H H1 h h1)(b:Un fs ex H1 H2 h1 h2):Un fs ex H H2 h h2 where
 keep:=λc ob q n hc hx=>b.keep c ob (a.keep c ob q n hc hx) (a.free c ob q n hx) hc hx
 slot:=λc ob q n hc hx=>by obtain⟨sl,e1⟩:=a.slot c ob q n hc hx;obtain⟨YA,e2⟩:=b.slot c _ e1 (a.free c ob q n hx) hc hx;exact⟨YA,e2⟩
 free:=λc ob q n hx=>by obtain⟨o',e1⟩:=a.there c ob q hx;exact b.free c o' e1 (a.free c ob q n hx) hx
 there:=λc ob q hx=>by obtain⟨o',e1⟩:=a.there c ob q hx;exact b.there c o' e1 hx
 nk:=λc xs q=>b.nk c xs (a.nk c xs q)
 m9:=λc ob xs q=>b.m9 c ob xs (a.m9 c ob xs q)
 nz:=λc ps q=>by obtain⟨m1,e1⟩:=a.nz c ps q;obtain⟨m2,e2⟩:=b.nz c _ e1;exact⟨m1++m2,by rw[e2,kH]⟩
def Un.kept(k:∀b u,h.get? b=some u->h'.get? b=some u):Un fs ex H H h h':=
 ⟨λb ob q _ _ _=>k b ob q,λb ob q _ _ _=>⟨ob.slots,k b ob q⟩,λ_ _ _ n _=>n,λb ob q _=>⟨ob,k b ob q⟩,λ_ _ q=>q,λ_ _ _ q=>q,λ_ ps q=>⟨#[],by rw[q];simp⟩⟩
def Un.refl:Un fs ex H H h h:=Un.kept λ_ _ q=>q
def Un.laid(k:∀b u,h.get? b=some u->h'.get? b=some u)(hp:h.objs.size<=a)(hn:H a=none):Un fs ex H (upd H a o) h h' where
 keep:=λb u q _ _ _=>k b u q
 slot:=λb u q _ _ _=>⟨u.slots,k b u q⟩
 free:=λb u q n _=>by rw[pQ (dC (dJ (dq q) hp))];exact n
 there:=λb u q _=>⟨u,k b u q⟩
 nk:=λb xs q=>by rw[pQ (qM q hn)];exact q
 m9:=λb u xs q=>by rw[pQ (qM q hn)];exact q
 nz:=λb ps q=>⟨#[],by rw[pQ (qM q hn),q];simp⟩
def Un.write(mu:TZ (H x))(he:e=x\/H e=some (.own x))(k:∀b u,b≠e->h.get? b=some u->h'.get? b=some u)(heo:∃u,h'.get? e=some u):Un fs ex H (upd H x o) h h':=by
 have hx:∀b,H b=none->b≠x:=λb n z=>by subst z;rw[n]at mu;exact mu
 have hb:∀b,H b=none->b≠e:=λb n z=>by
  subst z;rcases he with r|r
  .exact hx b n r
  .rw[n]at r;cases r
 have hm:∀b u,H b=some u->¬TZ (some u)->b≠x:=λb u q nm z=>by subst z;rw[q]at mu;exact nm mu
 refine⟨λb u q n _ _=>k b u (hb b n) q,λb u q n _ _=>⟨u.slots,k b u (hb b n) q⟩,λb u q n _=>by rw[pQ (hx b n)];exact n,λb u q _=>?_,λb xs q=>by rw[pQ (hm b _ q λz=>z)];exact q,λb u xs q=>by rw[pQ (hm b _ q λz=>z)];exact q,λb ps q=>⟨#[],by rw[pQ (hm b _ q λz=>z),q];simp⟩⟩
 by_cases hbe:b=e
 .subst hbe;exact heo
 .exact⟨u,k b u hbe q⟩
end
def Vg(h:Heap)(H:Hp):QXQ:=(List.range h.objs.size).filter λa=>(H a).isSome
def E9(h:Heap)(H:Hp):Heap:=W.hideAll h (Vg h H)
def J2(h:Heap)(H:Hp):(E9 h H).objs.size=h.objs.size:=W.hideAll_size _ _
def Nm{h:Heap}{H:Hp}{b:Addr}{o:Obj}(e:h.get? b=some o)(n:H b=none):(E9 h H).get? b=some o:=
 W.hideAll_get _ e λhm=>by have q:(H b).isSome=true:=(fG.mp hm).2;rw[n]at q;simp at q
def OJ{b:Addr}{o:Obj}(e:(E9 h H).get? b=some o):h.get? b=some o/\H b=none:=by
 have e':h.get? b=some o:=W.of_hideAll (Vg h H) e;refine⟨e',?_⟩;cases q:H b with
 | none=>rfl
 | some x=>have hm:b∈Vg h H:=fG.mpr ⟨gc.mpr (dq e'),by simp[q]⟩;have z:(E9 h H).get? b=none:=W.hideAll_none (Vg h H) hm;rw[z]at e;cases e
structure Mod(K:qh)(mg:QQZ)(base:Heap):Prop where
 oi:K.In base
 glob:base.Ns mainGlobals mg
 blt:∃mb,base.Ns builtinsNs mb/\∀x:Str,x≠"__name__"->mb x=bootBuiltins x
 nolimit:base.NoLimit
structure Cx where
 prog:Pg
 w:Wo
 K:qh
 mg:QQZ
 base:Heap
 A:Ar
 N:QQQ
 s₀:Sd
 H₀:Hp
 env:Env
 outer:List Env
 stack:List Env
 ex:QXQ
 fn:Str->Bool
 calm:Bool
 pn:QQY
 xe:QQX
abbrev A7(X:Cx)(e:Expr)(es:T0 Expr):Prop:=starEach (e::es) X.env=(false,eval e X.env)::starEach es X.env
abbrev CP(X:Cx)(p:Pos)(es:T0 Expr):Prop:=(backTo p (starEach es X.env)).any (·.1)=false
abbrev zu(x:Str):Prop:=(x==("__debug__":Str))=false
abbrev Ln(X:Cx)(x:Str):Prop:=X.fn x=true\/X.env.scope.names.lookup x=some .local
def vS(l:T0 Env):QXQ:=l.filterMap (·.frame)
abbrev Cx.fs(X:Cx):QXQ:=vS X.outer
def Rj(sc:Scope)(x:Str):Prop:=sc.names.lookup x=some .local\/sc.names.lookup x=some .cell\/sc.names.lookup x=some .free
def LR(sc:Scope)(x:Str):Prop:=sc.names.lookup x=some .local\/sc.names.lookup x=some .cell
def U8(env:Env)(h:Heap)(m:QQZ)(x:Str)(u:Vl):Prop:=
 (env.kindOf x=some .local/\m x=some u)\/((env.kindOf x=some .cell\/env.kindOf x=some .free)/\∃c,env.cells.lookup x=some c/\h.IsCell c (some u))
structure Cx.Ok(X:Cx):Prop where
 mod:Mod X.K X.mg X.base
 kind:X.env.scope.kind=.function
 glob:X.env.globals=mainGlobals
 blt:X.env.builtins=builtinsNs
 above:X.s₀.heap.objs.size<=X.env.locals
 inj:∀x y c,X.env.cells.lookup x=some c->X.env.cells.lookup y=some c->x=y
 has:∀x,(X.env.kindOf x=some .cell\/X.env.kindOf x=some .free)->∃c,X.env.cells.lookup x=some c
 oz:∀x c,X.fn x=true->X.env.cells.lookup x=some c->X.s₀.heap.objs.size<=c
 hd:X.calm=true->X.A.handled=none
 frames:X.A.frames=some X.stack
 oE:X.stack=X.outer\/(X.stack=X.env::X.outer/\X.env.frame=some X.env.locals)
 oU:∀b∈X.ex,b≠X.env.locals/\∀x c,X.env.cells.lookup x=some c->c≠b
 bs:∀b o,X.base.get? b=some o->X.s₀.heap.get? b=some o/\X.H₀ b=none
 nV:X.base.objs.size<=X.s₀.heap.objs.size
 nL:∀b o,X.base.get? b=some o->b∉X.ex
 nP:∀b∈X.ex,b∉X.fs
 ny:X.s₀.heap.FunFrames X.base X.outer
 n9:∀b∈X.fs,X.H₀ b=none
structure Inv(X:Cx)(W5:QQY)(Y:List (Option V))(H:Hp)(s:Sd):Prop where
 ok:X.Ok
 os:s.os=X.s₀.os
 bare:AllBare s.gens
 base:Un X.fs X.ex X.H₀ H X.s₀.heap s.heap
 loc:∃m,s.heap.Ns X.env.locals m/\∀(i:Nat) (x:Str) (v:V),X.N[i]?=some x->Y[i]?=some (some v)->Rj X.env.scope x->∃u,qC v u/\U8 X.env s.heap m x u
 cell:∀x c,X.env.cells.lookup x=some c->∃v,s.heap.IsCell c v
 free:H X.env.locals=none
 mT:∀x c,X.env.cells.lookup x=some c->H c=none
 pin:∀p∈X.pn++W5,s.heap.get? p.1=some p.2/\H p.1=none/\p.1≠X.env.locals/\p.1∉X.fs/\∀v,p.2.data≠.cell v
 mM:yc X.prog X.w H s.heap
 len:Y.length=X.N.length
variable {X:Cx}{W5:T0 (Addr × Obj)}{s:Sd}
section
variable {Y:T0 (Option V)}
def Cx.Ok.nofr(ok:X.Ok){b:Addr}{o:Obj}(e:X.base.get? b=some o):b∉X.fs:=λhb=>by have:=(ok.ny.mem hb).1;rw[e]at this;cases this
def Inv.bs(I:Inv X W5 Y H s):∀b o,X.base.get? b=some o->s.heap.get? b=some o/\H b=none:=λb o e=>⟨I.base.keep b o (I.ok.bs b o e).1 (I.ok.bs b o e).2 (I.ok.nofr e) (I.ok.nL b o e),I.base.free b o (I.ok.bs b o e).1 (I.ok.bs b o e).2 (I.ok.nL b o e)⟩
def Inv.bk(I:Inv X W5 Y H s):∀b o,X.base.get? b=some o->s.heap.get? b=some o:=λb o e=>(I.bs b o e).1
def Inv.mod(I:Inv X W5 Y H s):Mod X.K X.mg X.base:=I.ok.mod
def Inv.nj(I:Inv X W5 Y H s):X.K.In s.heap:=I.ok.mod.oi.keeps I.bk
def Inv.lt(I:Inv X W5 Y H s):X.env.locals<s.heap.objs.size:=let⟨_,hn,_⟩:=I.loc;hn.lt
def Inv.sz(I:Inv X W5 Y H s):X.s₀.heap.objs.size<=s.heap.objs.size:=dW I.ok.above (jy I.lt)
def Inv.oK(I:Inv X W5 Y H s){a:Addr}(h:s.heap.objs.size<=a):a∉X.fs:=λhb=>by obtain⟨_,o,ho,_⟩:=I.ok.ny.mem hb;exact absurd (dJ (dq ho) (dW I.sz h)) (e9 _)
def Inv.oS(I:Inv X W5 Y H s):∀x c,X.env.cells.lookup x=some c->c≠X.env.locals:=λx c e z=>by obtain⟨v,o,ho,hd⟩:=I.cell x c e;obtain⟨m,⟨o',es,ep,XJ,hd',_⟩,_⟩:=I.loc;rw[z,XJ]at ho;cases ho;rw[hd']at hd;cases hd
def Inv.ny(I:Inv X W5 Y H s):s.heap.FunFrames X.base X.outer:=by
 have all:∀(l:T0 Env),(∀b∈vS l,b∈X.fs)->X.s₀.heap.FunFrames X.base l->s.heap.FunFrames X.base l:=by
  intro l;induction l with
  | nil=>intro _ _;trivial
  | cons env r ih=>intro hs hl;obtain⟨hk,⟨L,o,hf,hn,ho,hd⟩,hr⟩:=hl;have hL:L∈X.fs:=hs L (by unfold vS;rw[fV,hf];exact dG);obtain⟨sl,e⟩:=I.base.slot L o ho (I.ok.n9 L hL) hL λz=>I.ok.nP L z hL;exact⟨hk,⟨L,_,hf,hn,e,hd⟩,ih (λb hb=>hs b (by unfold vS;rw[fV,hf];exact dA _ hb)) hr⟩
 exact all X.outer (λ_ hb=>hb) I.ok.ny
def Inv.stack(I:Inv X W5 Y H s):s.heap.FunFrames X.base X.stack:=by
 rcases I.ok.oE with e|⟨e,hf⟩
 .rw[e];exact I.ny
 .rw[e];obtain⟨m,hn,_⟩:=I.loc;refine .cons (by rw[I.ok.kind];decide) hf hn ?_ I.ny;exact gF (dW I.ok.nV I.ok.above)
def Inv.nq(I:Inv X W5 Y H s):∀b∈vS X.stack,b∈X.env.locals::X.fs:=λb hb=>by
 rcases I.ok.oE with e|⟨e,hf⟩
 .rw[e]at hb;exact dA _ hb
 .rw[e]at hb;unfold vS at hb;rw[fV,hf]at hb;exact hb
def Inv.nB(I:Inv X W5 Y H s):∀b∈vS X.stack,H b=none:=λb hb=>by
 rcases de.mp (I.nq b hb)with e|hb
 .rw[e];exact I.free
 .obtain⟨_,o,ho,_⟩:=I.ok.ny.mem hb;exact I.base.free b o ho (I.ok.n9 b hb) λz=>I.ok.nP b z hb
def Inv.step{g':Array GenState}{t':Nat}{d':Drawn}{ch:QXQ}(I:Inv X W5 Y H s) (X6:∀b∈ch,(b∈X.ex\/X.s₀.heap.objs.size<=b)/\b≠X.env.locals/\(∀x c,X.env.cells.lookup x=some c->c≠b)/\∀p∈X.pn++W5,p.1≠b) (keep:∀b o,b≠X.env.locals->b∉X.fs->b∉ch->s.heap.get? b=some o->H b=none->h'.get? b=some o) (slot:∀b o,b≠X.env.locals->b∈X.fs->b∉ch->s.heap.get? b=some o->H b=none->∃sl,h'.get? b=some {o with slots:=sl}) (free:∀b o,b∉ch->s.heap.get? b=some o->H b=none->H' b=none)
  (there:∀b o,b∉ch->s.heap.get? b=some o->∃o',h'.get? b=some o')
  (nk:∀b xs,H b=some (.tup xs)->H' b=some (.tup xs)) (m9:∀b o u,H b=some (.frz o u)->H' b=some (.frz o u)) (nz:∀b ps,H b=some (.tbl ps)->∃more,H' b=some (.tbl (ps++more)))
  (ns:∀m,s.heap.Ns X.env.locals m->h'.Ns X.env.locals m) (mM:yc X.prog X.w H' h') (hg:AllBare g'):
  Inv X W5 Y H' {s with heap:=h',gens:=g',drawn:=d',toks:=t'}:=by
 have neL:∀b o,X.s₀.heap.get? b=some o->b≠X.env.locals:=λb o e=>dC (dJ (dq e) I.ok.above);have neC:∀b o,X.s₀.heap.get? b=some o->b∉X.ex->b∉ch:=λb o e hx hb=>by
  rcases(X6 b hb).1 with z|z
  .exact hx z
  .exact absurd (dJ (dq e) z) (e9 _)
 have Zr:∀x c,X.env.cells.lookup x=some c->∀v,s.heap.IsCell c v->h'.IsCell c v:=λx c e v ⟨o,ho,hd⟩=>by
  have nch:c∉ch:=λz=>(X6 c z).2.2.1 x c e rfl;by_cases hc:c∈X.fs
  .obtain⟨sl,q⟩:=slot c o (I.oS x c e) hc nch ho (I.mT x c e);exact⟨_,q,hd⟩
  .exact⟨o,keep c o (I.oS x c e) hc nch ho (I.mT x c e),hd⟩
 refine⟨I.ok,I.os,hg,⟨λb o e n hb hx=>?_,λb o e n hb hx=>?_,λb o e n hx=>?_,λb o e hx=>?_,λb xs e=>nk b xs (I.base.nk b xs e),λb o xs e=>m9 b o xs (I.base.m9 b o xs e),λb ps e=>?_⟩,?_,λx c e=>?_,?_,λx c e=>?_,λp hp=>?_,mM,I.len⟩
 .exact keep b o (neL b o e) hb (neC b o e hx) (I.base.keep b o e n hb hx) (I.base.free b o e n hx)
 .obtain⟨sl,e1⟩:=I.base.slot b o e n hb hx;obtain⟨YA,e2⟩:=slot b _ (neL b o e) hb (neC b o e hx) e1 (I.base.free b o e n hx);exact⟨YA,e2⟩
 .obtain⟨o',e1⟩:=I.base.there b o e hx;exact free b o' (neC b o e hx) e1 (I.base.free b o e n hx)
 .obtain⟨o',e1⟩:=I.base.there b o e hx;exact there b o' (neC b o e hx) e1
 .obtain⟨m1,e1⟩:=I.base.nz b ps e;obtain⟨m2,e2⟩:=nz b _ e1;exact⟨m1++m2,by rw[e2,kH]⟩
 .obtain⟨m,hn,hl⟩:=I.loc;refine⟨m,ns m hn,λi x v e1 e2 e3=>?_⟩;obtain⟨u,r,l⟩:=hl i x v e1 e2 e3;refine⟨u,r,?_⟩;rcases l with l|⟨k,c,e,z⟩
  .exact .inl l
  .exact .inr ⟨k,c,e,Zr x c e _ z⟩
 .obtain⟨v,z⟩:=I.cell x c e;exact⟨v,Zr x c e v z⟩
 .obtain⟨m,⟨o,_,_,ho,_⟩,_⟩:=I.loc;exact free _ o (λz=>(X6 _ z).2.1 rfl) ho I.free
 .obtain⟨v,o,ho,hd⟩:=I.cell x c e;exact free c o (λz=>(X6 c z).2.2.1 x c e rfl) ho (I.mT x c e)
 .obtain⟨e,n,ne,nf,d⟩:=I.pin p hp;have nch:p.1∉ch:=λz=>(X6 p.1 z).2.2.2 p hp rfl;exact⟨keep p.1 p.2 ne nf nch e n,free p.1 p.2 nch e n,ne,nf,d⟩
def Inv.un{t':Nat}(I:Inv X W5 Y H s)(u:Un X.fs [] H H' s.heap h')(mM:yc X.prog X.w H' h'):Inv X W5 Y H' {s with heap:=h',toks:=t'}:=by
 obtain⟨m,⟨o,es,ep,ho,r⟩,_⟩:=id I.loc;obtain⟨sl,hL⟩:=u.any ho I.free (by simp);exact I.step (g':=s.gens) (d':=s.drawn) (ch:=[]) (λ_ z=>nomatch z) (λb o _ hb _ e n=>u.keep b o e n hb (by simp)) (λb o _ hb _ e n=>u.slot b o e n hb (by simp)) (λb o _ e n=>u.free b o e n (by simp)) (λb o _ e=>u.there b o e (by simp)) u.nk u.m9 u.nz (λm' hm=>by
  obtain⟨o',es',ep',XJ,r'⟩:=hm;rw[ho]at XJ;cases XJ;exact⟨_,es',ep',hL,r'⟩) mM I.bare
def Inv.call{t':Nat}{d':Drawn}(I:Inv X W5 Y H s)(u:Un (vS X.stack) ch H H' s.heap h')(mM:yc X.prog X.w H' h')(hg:AllBare g') (X6:∀b∈ch,(b∈X.ex\/X.s₀.heap.objs.size<=b)/\b≠X.env.locals/\(∀x c,X.env.cells.lookup x=some c->c≠b)/\∀p∈X.pn++W5,p.1≠b):
  Inv X W5 Y H' {s with heap:=h',gens:=g',drawn:=d',toks:=t'}:=by
 obtain⟨m,⟨o,es,ep,ho,r⟩,_⟩:=id I.loc;obtain⟨sl,hL⟩:=u.any ho I.free λz=>(X6 _ z).2.1 rfl;exact I.step (ch:=ch) X6 (λb o hL hb hc e n=>u.keep b o e n (λz=>(de.mp (I.nq b z)).elim hL hb) hc) (λb o _ _ hc e n=>u.any e n hc) (λb o hc e n=>u.free b o e n hc) (λb o hc e=>u.there b o e hc) u.nk u.m9 u.nz (λm' hm=>by
  obtain⟨o',es',ep',XJ,r'⟩:=hm;rw[ho]at XJ;cases XJ;exact⟨_,es',ep',hL,r'⟩) mM hg
def Inv.turned{t':Nat}{it:Addr}(I:Inv X W5 Y H s)(k:∀b o,b≠it->s.heap.get? b=some o->h'.get? b=some o)(hn:H it=none)(hL:it≠X.env.locals) (h1:it∈X.ex\/X.s₀.heap.objs.size<=it) (h2:∀x c,X.env.cells.lookup x=some c->c≠it) (h3:∀p∈X.pn++W5,p.1≠it):Inv X W5 Y H {s with heap:=h',toks:=t'}:=by
 have nit:∀b u,H b=some u->b≠it:=λb u e z=>by rw[z,hn]at e;cases e
 refine I.step (g':=s.gens) (d':=s.drawn) (ch:=[it]) (λb hb=>?_) (λb o _ _ hc e _=>k b o (λz=>hc (by simp[z])) e) (λb o _ _ hc e _=>⟨o.slots,k b o (λz=>hc (by simp[z])) e⟩) (λ_ _ _ _ n=>n)
  (λb o hc e=>⟨o,k b o (λz=>hc (by simp[z])) e⟩) (λ_ _ e=>e) (λ_ _ _ e=>e) (λb ps e=>⟨#[],by rw[e];simp⟩) (λm hm=>?_) (λb u e=>?_) I.bare
 .have e:b=it:=by simpa using hb
  subst e;exact⟨h1,hL,h2,h3⟩
 .obtain⟨o,es,ep,ho,r⟩:=hm;exact⟨o,es,ep,k _ o (dI hL) ho,r⟩
 .refine(I.mM b u e).ni (λc v hc q=>k c v ?_ q) (λ_ q=>q) λ_ _ q=>q;rcases hc with z|z
  .rw[z];exact nit b u e
  .exact nit c _ z
def Inv.tok(I:Inv X W5 Y H s)(t:Nat):Inv X W5 Y H {s with toks:=t}:=I.un (h':=s.heap) (t':=t) Un.refl I.mM
def Inv.kept{t':Nat}(I:Inv X W5 Y H s)(k:∀b u,s.heap.get? b=some u->h'.get? b=some u):Inv X W5 Y H {s with heap:=h',toks:=t'}:=I.un (Un.kept k) (I.mM.kept k)
def Inv.laid{a:Addr}{t':Nat}(I:Inv X W5 Y H s)(k:∀b u,s.heap.get? b=some u->h'.get? b=some u)(hp:s.heap.objs.size<=a)(new:sJ X.prog X.w (upd H a o) h' a o):
  Inv X W5 Y (upd H a o) {s with heap:=h',toks:=t'}:=I.un (Un.laid k hp (I.mM.fresh hp)) (I.mM.laid k hp new)
def Inv.write{x e:Addr}{t':Nat}(I:Inv X W5 Y H s)(mu:TZ (H x))(he:e=x\/H e=some (.own x))(k:∀b u,b≠e->s.heap.get? b=some u->h'.get? b=some u)(heo:∃u,h'.get? e=some u) (new:sJ X.prog X.w (upd H x o) h' x o):Inv X W5 Y (upd H x o) {s with heap:=h',toks:=t'}:=I.un (Un.write mu he k heo) (I.mM.write mu he k heo new)
def Inv.nH{X7:QQY}(I:Inv X W5 Y H s)(h:∀p∈X7,s.heap.get? p.1=some p.2/\H p.1=none/\p.1≠X.env.locals/\p.1∉X.fs/\∀v,p.2.data≠.cell v):Inv X X7 Y H s:=
 ⟨I.ok,I.os,I.bare,I.base,I.loc,I.cell,I.free,I.mT,λp hp=>(dU.mp hp).elim (λz=>I.pin p (fg _ z)) (h p),I.mM,I.len⟩
def BI{N:QQQ}(hN:N.Nodup){i j:Nat}{x:Str}(a:N[i]?=some x)(b:N[j]?=some x):i=j:=by obtain⟨h1,e1⟩:=cU.mp a;obtain⟨h2,e2⟩:=cU.mp b;exact(lD hN).mp (e1.trans e2.symm)
def Dx{M:Model}{A:Ar}{E:QQX}{i:Nat}{x:Str}{Q:Unit->Sd->Prop}(I:Inv X W5 Y H s)(hN:X.N.Nodup)(hi:X.N[i]?=some x)(hx:LR X.env.scope x)(r:qC v u) (h:∀s',Inv X W5 (Y.set i (some v)) H s'->(∃a,Heap.SameBut a s.heap s'.heap/\(a=X.env.locals\/X.env.cells.lookup x=some a))->Q () s') (hf:Ln X x:=by first|exact .inl rfl|exact .inr rfl|assumption):wpAny M A (storeName X.env x u) Q E s:=by
 obtain⟨m,hn,hl⟩:=id I.loc;have ZM:(X.env.scope.kind==.class||(X.env.scope.kind==.module&&X.env.locals != X.env.globals))=false:=by rw[I.ok.kind];rfl
 have hiσ:i<Y.length:=by rw[I.len];exact(cU.mp hi).1
 have oS:=I.oS;have Xk:∀{a:Addr} {h':Heap},(∃o,s.heap.get? a=some o/\H a=none)->Heap.SameBut a s.heap h'->yc X.prog X.w H h':=λ{a h'} ha hs b ob e=>by
  obtain⟨_,_,XS⟩:=ha;refine(I.mM b ob e).ni (λc w' hc q=>(hs.2 c ?_).trans q) (λ_ q=>q) λ_ _ q=>q
  rintro rfl
  rcases hc with rfl|hc
  .rw[XS]at e;cases e
  .rw[XS]at hc;cases hc
 rcases hx with hk|hk
 .refine wpAny_storeName_local hk hn (λh' YG hs=>?_) ZM;obtain⟨oL,_,_,hoL,_⟩:=id hn;refine h _ ⟨I.ok,I.os,I.bare,⟨λb o e n hb hx=>?_,λb o e n hb hx=>?_,I.base.free,λb o e hx=>?_,I.base.nk,I.base.m9,I.base.nz⟩,⟨_,YG,λj y v' e1 e2 e3=>?_⟩,λy c e=>?_,I.free,I.mT,λp hp=>?_,Xk ⟨oL,hoL,I.free⟩ hs,by simpa using I.len⟩ ⟨_,hs,.inl rfl⟩
  .exact(hs.2 b (dC (dJ (dq e) I.ok.above))).trans (I.base.keep b o e n hb hx)
  .obtain⟨sl,e1⟩:=I.base.slot b o e n hb hx;exact⟨sl,(hs.2 b (dC (dJ (dq e) I.ok.above))).trans e1⟩
  .obtain⟨o',e1⟩:=I.base.there b o e hx;exact⟨o',(hs.2 b (dC (dJ (dq e) I.ok.above))).trans e1⟩
  .by_cases hj:j=i
   .subst hj;rw[hi]at e1;cases e1;rw[eJ hiσ]at e2;cases e2;exact⟨u,r,.inl ⟨hk,by simp⟩⟩
   .rw[eN (dI hj)]at e2;obtain⟨u',r',q⟩:=hl j y v' e1 e2 e3;refine⟨u',r',?_⟩;rcases q with⟨k,e⟩|⟨k,c,e,z⟩
    .refine .inl ⟨k,?_⟩;have:y≠x:=λe=>hj (BI hN e1 (e ▸ hi));simp[this,e]
    .exact .inr ⟨k,c,e,z.sameBut hs (oS y c e)⟩
  .obtain⟨w',z⟩:=I.cell y c e;exact⟨w',z.sameBut hs (oS y c e)⟩
  .obtain⟨e,n,ne,nf,d⟩:=I.pin p hp;exact⟨(hs.2 p.1 ne).trans e,n,ne,nf,d⟩
 .have hfn:X.fn x=true:=by
   rcases hf with z|z
   .exact z
   .rw[z]at hk;cases hk
  obtain⟨c,hc⟩:=I.ok.has x (.inl hk);obtain⟨w',z⟩:=I.cell x c hc;refine wpAny_storeName_cell I.ok.kind hk hc z (λh' hc' hs=>?_);obtain⟨oc,hoc,hocd⟩:=id z;refine h {s with heap:=h'} ⟨I.ok,I.os,I.bare,⟨λb o e n hb hx=>?_,λb o e n hb hx=>?_,I.base.free,λb o e hx=>?_,I.base.nk,I.base.m9,I.base.nz⟩,⟨m,hn.sameBut hs (dI (oS x c hc)),λj y v' e1 e2 e3=>?_⟩,λy c' e=>?_,I.free,I.mT,λp hp=>?_,Xk ⟨oc,hoc,I.mT x c hc⟩ hs,by simpa using I.len⟩ ⟨c,hs,.inr hc⟩
  .exact(hs.2 b (dC (dJ (dq e) (I.ok.oz x c hfn hc)))).trans (I.base.keep b o e n hb hx)
  .obtain⟨sl,e1⟩:=I.base.slot b o e n hb hx;exact⟨sl,(hs.2 b (dC (dJ (dq e) (I.ok.oz x c hfn hc)))).trans e1⟩
  .obtain⟨o',e1⟩:=I.base.there b o e hx;exact⟨o',(hs.2 b (dC (dJ (dq e) (I.ok.oz x c hfn hc)))).trans e1⟩
  .by_cases hj:j=i
   .subst hj;rw[hi]at e1;cases e1;rw[eJ hiσ]at e2;cases e2;exact⟨u,r,.inr ⟨.inl hk,c,hc,hc'⟩⟩
   .rw[eN (dI hj)]at e2;obtain⟨u',r',q⟩:=hl j y v' e1 e2 e3;refine⟨u',r',?_⟩;rcases q with q|⟨k,c',e,z'⟩
    .exact .inl q
    .refine .inr ⟨k,c',e,z'.sameBut hs ?_⟩
     rintro rfl
     exact hj (BI hN e1 (I.ok.inj _ _ _ e hc ▸ hi))
  .by_cases Zs:c'=c
   .subst Zs;exact⟨_,hc'⟩
   .obtain⟨w2,z2⟩:=I.cell y c' e;exact⟨w2,z2.sameBut hs Zs⟩
  .obtain⟨e,n,ne,nf,d⟩:=I.pin p hp;refine⟨(hs.2 p.1 ?_).trans e,n,ne,nf,d⟩;intro q;rw[q,hoc]at e;have q':oc=p.2:=df e;exact d w' (by rw[<-q'];exact hocd)
def zx{M:Model}{A:Ar}{E:QQX}{i:Nat}{x:Str}{Q:Unit->Sd->Prop}(I:Inv X W5 Y H s)(hN:X.N.Nodup)(hi:X.N[i]?=some x)(hx:LR X.env.scope x)(r:qC v u) (h:∀s',Inv X W5 (Y.set i (some v)) H s'->Q () s') (hf:Ln X x:=by first|exact .inl rfl|exact .inr rfl|assumption):wpAny M A (storeName X.env x u) Q E s:=
 Dx I hN hi hx r (λs' I' _=>h s' I') hf
def Inv.oP{s':Sd}(I:Inv X W5 Y H s)(ho:s'.os=s.os)(u:Un (vS X.stack) ch H H' s.heap s'.heap)(mM:yc X.prog X.w H' s'.heap)(hg:AllBare s'.gens) (X6:∀b∈ch,(b∈X.ex\/X.s₀.heap.objs.size<=b)/\b≠X.env.locals/\(∀x c,X.env.cells.lookup x=some c->c≠b)/\∀p∈X.pn++W5,p.1≠b):Inv X W5 Y H' s':=by
 obtain⟨h',g',d',t',o'⟩:=s';have e:o'=s.os:=ho;subst e;exact I.call (g':=g') (t':=t') (d':=d') u mM hg X6
end
abbrev XK:=Vl->Option Addr->Hp->Prop
abbrev St:=T0 (Option V)
abbrev VK:=V->Hp->Prop
abbrev TE:=St->Hp->VK->Prop
abbrev TT:=St->Hp->(Bool->Hp->Prop)->Prop
abbrev TA:=St->Hp->(T0 V->Hp->Prop)->Prop
structure FE where
 nx:St->Hp->Prop
 rt:VK
 bk:St->Hp->Prop:=λ_ _=>False
 ct:St->Hp->Prop:=λ_ _=>False
abbrev TS:=FE->St->Hp->Prop
def EP(X:Cx)(W5:QQY)(Y:St)(Q:VK)(u:Vl)(s':Sd):Prop:=∃v H',Inv X W5 Y H' s'/\qC v u/\Q v H'
def TP(X:Cx)(W5:QQY)(Y:St)(Q:Bool->Hp->Prop)(b:Bool)(s':Sd):Prop:=∃H',Inv X W5 Y H' s'/\Q b H'
def AP(X:Cx)(W5:QQY)(Y:St)(Q:T0 V->Hp->Prop)(us:T0 Vl)(s':Sd):Prop:=∃vs H',Inv X W5 Y H' s'/\qx vs us/\Q vs H'
def SP(X:Cx)(W5:QQY)(D:FE)(f:Flow)(s':Sd):Prop:=
 match f with
 | .next=>∃σ' H',Inv X W5 σ' H' s'/\D.nx σ' H'
 | .brk=>∃σ' H',Inv X W5 σ' H' s'/\D.bk σ' H'
 | .cont=>∃σ' H',Inv X W5 σ' H' s'/\D.ct σ' H'
 | .ret u=>∃v σ' H',Inv X W5 σ' H' s'/\qC v u/\D.rt v H'
def PE(X:Cx)(e:Expr)(t:TE):Prop:=
 ∀(W5:QQY) (s:Sd) (Y:St) (H:Hp) (Q:VK),Inv X W5 Y H s->t Y H Q->wpAny (model X.prog X.w) X.A (eval e X.env) (EP X W5 Y Q) X.xe s
def PT(X:Cx)(e:Expr)(t:TT):Prop:=
 ∀(W5:QQY) (s:Sd) (Y:St) (H:Hp) (Q:Bool->Hp->Prop),Inv X W5 Y H s->t Y H Q->wpAny (model X.prog X.w) X.A (isTrue e X.env (eval e X.env)) (TP X W5 Y Q) X.xe s
def PW(X:Cx)(e:Expr)(t:TT):Prop:=
 ∀(XC:Sem Vl) (W5:QQY) (s:Sd) (Y:St) (H:Hp) (Q:Bool->Hp->Prop),Inv X W5 Y H s->t Y H Q->wpAny (model X.prog X.w) X.A (isTrue e X.env XC) (TP X W5 Y Q) X.xe s
def PW.pt(h:PW X e t):PT X e t:=h _
def PA(X:Cx)(es:T0 Expr)(t:TA):Prop:=
 ∀(pos:Pos) (W5:QQY) (s:Sd) (Y:St) (H:Hp) (Q:T0 V->Hp->Prop),Inv X W5 Y H s->t Y H Q->wpAny (model X.prog X.w) X.A (spliced (backTo pos (starEach es X.env))) (AP X W5 Y Q) X.xe s
def PS(X:Cx)(st:Stmt)(t:TS):Prop:=
 ∀(W5:QQY) (s:Sd) (Y:St) (H:Hp) (D:FE),Inv X W5 Y H s->t D Y H->wpAny (model X.prog X.w) X.A (exec st X.env) (SP X W5 D) X.xe s
def Cn(X:Cx)(st:T0 Stmt)(t:TS):Prop:=
 ∀(W5:QQY) (s:Sd) (Y:St) (H:Hp) (D:FE),Inv X W5 Y H s->t D Y H->wpAny (model X.prog X.w) X.A (execs st X.env) (SP X W5 D) X.xe s
def sf{α:Type}{t:Sem α}{Q Q':α->Sd->Prop}{M:Model}{A:Ar}{E:QQX}{s:Sd}(h:wpAny M A t Q E s)(hQ:∀a s,Q a s->Q' a s):wpAny M A t Q' E s:=dZ h hQ λ_ _ x=>x
variable {tA tB':TT}{ta tb:TE}{pos:Pos}
section
def EW(i:Nat):TE:=λY H Q=>∃v,Y[i]?=some (some v)/\Q v H
def tC(v:V):TE:=λ_ H Q=>Q v H
def MI{i:Nat}{x:Str}(hN:X.N[i]?=some x)(hv:Rj X.env.scope x)(hd:zu x:=by decide)(X8:(x==("__classdict__":Str))=false:=by decide):PE X (.Name x pos) (EW i):=by
 intro W5 s Y H Q I h;obtain⟨v,e,h⟩:=h;obtain⟨m,hn,hl⟩:=I.loc;obtain⟨u,r,l⟩:=hl i x v hN e hv;have Xa:EP X W5 Y Q u s:=⟨v,H,I,r,h⟩;rcases l with⟨hk,hm⟩|⟨hk,c,hc,hcell⟩
 .exact lT (wpAny_loadName_local I.ok.kind hk hn hm Xa) hd
 .rcases hk with hk|hk
  .exact lT (wpAny_loadName_cell I.ok.kind hk hc hcell Xa) hd
  .exact lT (wpAny_loadName_free I.ok.kind hk hc hcell Xa X8) hd
def Sa{i j pos}:PE X (.Constant (.int i) j pos) (tC (.int i)):=λ_ _ _ H _ I h=>wpAny_Constant_int ⟨.int i,H,I.tok _,⟨_,rfl⟩,h⟩
def Uz{b j pos}:PE X (.Constant (.bool b) j pos) (tC (.bl b)):=λ_ _ _ H _ I h=>Constant_bool ⟨.bl b,H,I,rfl,h⟩
def Rb{j pos}:PE X (.Constant .none j pos) (tC .mG):=λ_ _ _ H _ I h=>Constant_none ⟨.mG,H,I,rfl,h⟩
def RO{x j pos}:PE X (.Constant (.str x) j pos) (tC (.str x)):=λ_ _ _ H _ I h=>Calls.Constant_str ⟨.str x,H,I.tok _,⟨_,rfl⟩,h⟩
def Gl(X:Cx)(x:Str):Prop:=X.env.kindOf x=some .globalImplicit
def wD{E:QQX}{W5:QQY}{u:Vl}{Q:QQX}(I:Inv X W5 Y H s)(hg:Gl X x)(hm:X.mg x=some u)(h:Q u s) (hd:zu x:=by decide):wpAny (model X.prog X.w) X.A (eval (.Name x pos) X.env) Q E s:=
 jl I.ok.kind hg (Calls.loadGlobal_global (by rw[I.ok.glob];exact I.mod.glob.keeps I.bk) hm h) hd
def wB{E:QQX}{W5:QQY}{u:Vl}{Q:QQX}(I:Inv X W5 Y H s)(hg:Gl X x)(hm:X.mg x=none)(hv:bootBuiltins x=some u)(h:Q u s) (hn:x≠"__name__":=by decide) (hd:zu x:=by decide):wpAny (model X.prog X.w) X.A (eval (.Name x pos) X.env) Q E s:=by
 obtain⟨mb,h1,h2⟩:=I.mod.blt;exact jl I.ok.kind hg (Calls.loadGlobal_builtin (by rw[I.ok.glob];exact I.mod.glob.keeps I.bk) hm (by rw[I.ok.blt];exact h1.keeps I.bk) ((h2 x hn).trans hv) h) hd
def Fh{u:Vl}(hg:Gl X x)(hm:X.mg x=some u)(r:qC v u)(hd:zu x:=by decide):PE X (.Name x pos) (tC v):=
 λ_ _ _ H _ I h=>wD I hg hm ⟨v,H,I,r,h⟩ hd
variable {a b:Expr}
def tB(t:TE):TT:=λY H Q=>t Y H λx H1=>∃c,x=.bl c/\Q c H1
def RV(h:PE X e t)(he:∀XC,isTrue e X.env XC=(do let v<-XC;standAt e.pos;holding [v] (truthy v)):=by intro _;rfl):PT X e (tB t):=by intro W5 s Y H Q I hw;refine isTrue_plain (sf (h W5 s Y H _ I hw) λv s1 zz=>x5 zz λx H1 I1 r1 q1=>?_) (he _);obtain⟨d,rfl,q⟩:=q1;cases r1;exact fj ⟨H1,I1,q⟩
variable {rest:T0 Expr}
def Wn(t u:TT):TT:=λY H Q=>t Y H λc H1=>if c=true then u Y H1 Q else Q false H1
def WV(t u:TT):TT:=λY H Q=>t Y H λc H1=>if c=true then Q true H1 else u Y H1 Q
def VU(t:TT):TT:=λY H Q=>t Y H λc H1=>Q (!c) H1
def Oc(ha:PT X a tA):PW X (.BoolOp .And [a] pos) tA:=by
 intro wh W5 s Y H Q I h;refine isTrue_and (sf (ha W5 s Y H Q I h) λc s1 e=>?_);cases c with
 | true=>exact isTrue_and_nil e
 | false=>exact e
def RE(ha:PT X a tA):PW X (.BoolOp .Or [a] pos) tA:=by
 intro wh W5 s Y H Q I h;refine isTrue_or (sf (ha W5 s Y H Q I h) λc s1 e=>?_);cases c with
 | false=>exact isTrue_or_nil e
 | true=>exact e
def SO(ha:PT X a tA)(hb:PW X (.BoolOp .And (b::rest) pos) tB'):PW X (.BoolOp .And (a::b::rest) pos) (Wn tA tB'):=by
 intro wh W5 s Y H Q I h;refine isTrue_and (sf (ha W5 s Y H _ I h) λc s1 ⟨H1,I1,q1⟩=>?_);cases c with
 | true=>exact hb wh W5 s1 Y H1 Q I1 q1
 | false=>exact⟨H1,I1,q1⟩
def UQ(ha:PT X a tA)(hb:PW X (.BoolOp .Or (b::rest) pos) tB'):PW X (.BoolOp .Or (a::b::rest) pos) (WV tA tB'):=by
 intro wh W5 s Y H Q I h;refine isTrue_or (sf (ha W5 s Y H _ I h) λc s1 ⟨H1,I1,q1⟩=>?_);cases c with
 | true=>exact⟨H1,I1,q1⟩
 | false=>exact hb wh W5 s1 Y H1 Q I1 q1
def Sy(ha:PT X a tA):PT X (.UnaryOp .Not a pos) (VU tA):=by intro W5 s Y H Q I h;exact isTrue_not (ha W5 s Y H (λc H1=>Q (!c) H1) I h)
def UB(ta tb:TE):TE:=λY H Q=>ta Y H λx H1=>∃c,x=.bl c/\if c=true then tb Y H1 Q else Q (.bl false) H1
def Wd(ta tb:TE):TE:=λY H Q=>ta Y H λx H1=>∃c,x=.bl c/\if c=true then Q (.bl true) H1 else tb Y H1 Q
def UI(ta:TE):TE:=λY H Q=>ta Y H λx H1=>∃c,x=.bl c/\Q (.bl (!c)) H1
def RU{op}(h:PE X a t):PE X (.BoolOp op [a] pos) t:=λW5 s Y H Q I hw=>BoolOp_one (h W5 s Y H Q I hw)
def RY(ha:PE X a ta)(hb:PE X (.BoolOp .And (b::rest) pos) tb):PE X (.BoolOp .And (a::b::rest) pos) (UB ta tb):=by
 intro W5 s Y H Q I h;refine BoolOp_and (sf (ha W5 s Y H _ I h) λv s1 zz=>x5 zz λx H1 I1 r1 q1=>?_);obtain⟨c,rfl,q1⟩:=q1;cases r1;refine fj ?_;cases c with
 | true=>exact hb W5 s1 Y H1 Q I1 q1
 | false=>exact⟨.bl false,H1,I1,rfl,q1⟩
def UK(ha:PE X a ta)(hb:PE X (.BoolOp .Or (b::rest) pos) tb):PE X (.BoolOp .Or (a::b::rest) pos) (Wd ta tb):=by
 intro W5 s Y H Q I h;refine BoolOp_or (sf (ha W5 s Y H _ I h) λv s1 zz=>x5 zz λx H1 I1 r1 q1=>?_);obtain⟨c,rfl,q1⟩:=q1;cases r1;refine fj ?_;cases c with
 | false=>exact hb W5 s1 Y H1 Q I1 q1
 | true=>exact⟨.bl true,H1,I1,rfl,q1⟩
def SV(ha:PE X a ta):PE X (.UnaryOp .Not a pos) (UI ta):=by intro W5 s Y H Q I h;refine UnaryOp_ (sf (ha W5 s Y H _ I h) λv s1 zz=>x5 zz λx H1 I1 r1 q1=>?_);obtain⟨c,rfl,q1⟩:=q1;cases r1;exact not_of (fj ⟨.bl (!c),H1,I1,rfl,q1⟩)
def W1(t:TT)(ta tb:TE):TE:=λY H Q=>t Y H λc H1=>if c=true then ta Y H1 Q else tb Y H1 Q
def NN(hc:PT X c tA)(ha:PE X a ta)(hb:PE X b tb):PE X (.IfExp c a b pos) (W1 tA ta tb):=by
 intro W5 s Y H Q I h;refine wpAny_IfExp (sf (hc W5 s Y H _ I h) λd s1 ⟨H1,I1,q1⟩=>?_);cases d with
 | true=>exact ha W5 s1 Y H1 Q I1 q1
 | false=>exact hb W5 s1 Y H1 Q I1 q1
end
def yU(K:qh)(H:Hp)(a:Addr)(xs:T0 V):Prop:=
 Rd H a (.lst xs)\/
  ∃(o:Obj) (its:Array Vl) (n:Nat),K.lookup a=some o/\o.cls=.type "list"/\o.dict=none/\o.data=.seq its n/\its.size<=sizeLine/\qx xs its.toList
def uU(K:qh)(H:Hp)(a:Addr)(xs:T0 V):Prop:=
 Rd H a (.tup xs)\/
  ∃(o:Obj) (its:Array Vl) (n:Nat),K.lookup a=some o/\o.cls=.type "tuple"/\o.dict=none/\o.data=.seq its n/\its.size<=sizeLine/\qx xs its.toList
def VL:Vl->Option V
 | .none=>some .mG
 | .bool b=>some (.bl b)
 | .int i _=>some (.int i)
 | .str x _=>some (.str x)
 | .bytes b _=>some (.byt b)
 | .float b _=>some (.flt b)
 | .ref a=>some (.ref a)
 | .type n=>some (.ty n)
 | _=>none
def qC.abs(r:qC x u):VL u=some x:=by
 cases x with
 | mG=>cases r;rfl
 | bl _=>cases r;rfl
 | int _=>obtain⟨t,rfl⟩:=r;rfl
 | str _=>obtain⟨t,rfl⟩:=r;rfl
 | byt _=>obtain⟨t,rfl⟩:=r;rfl
 | flt _=>obtain⟨t,rfl⟩:=r;rfl
 | ref _=>cases r;rfl
 | ty _=>cases r;rfl
def qC.inj(r:qC x u)(q:qC y u):x=y:=df (r.abs.symm.trans q.abs)
theorem qx.inj:∀{xs ys:T0 V} {us:T0 Vl},qx xs us->qx ys us->xs=ys
 | _,_,_,.nil,.nil=>rfl
 | _,_,_,.cons r t,.cons r' t'=>by rw[r.inj r',qx.inj t t']
variable {xs ys:T0 V}
section
variable {Y:St}{a:Addr}
def uU.of{K:qh}(h:H a=some (.tup xs)):uU K H a xs:=.inl (.inl h)
def Inv.list(I:Inv X W5 Y H s)(h:yU X.K H a xs):∃its:T0 Vl,qx xs its/\PlainL s.heap a its.toArray/\xs.length<=sizeLine:=by
 rcases h with h|⟨o,its,n,hk,hc,hd,hs,hz,r⟩
 .obtain⟨z,its,n,r,e⟩:=h.ok I.mM;exact⟨its,r,⟨_,n,e,rfl,rfl,rfl⟩,z⟩
 .refine⟨its.toList,r,⟨o,n,I.nj a o hk,hc,hd,by simpa using hs⟩,?_⟩;have e:=r.length;simp only[ig]at e;omega
def Inv.tuple(I:Inv X W5 Y H s)(h:uU X.K H a xs):∃its:T0 Vl,qx xs its/\IsTup s.heap a its.toArray/\xs.length<=sizeLine:=by
 rcases h with h|⟨o,its,n,hk,hc,hd,hs,hz,r⟩
 .obtain⟨z,its,r,p⟩:=h.ok I.mM;exact⟨its,r,p.is,z⟩
 .refine⟨its.toList,r,⟨o,I.nj a o hk,hc,n,by simpa using hs⟩,?_⟩;have e:=r.length;simp only[ig]at e;omega
def Inv.nK(I:Inv X W5 Y H s)(h:yU X.K H a xs)(h':yU X.K H a ys):xs=ys:=by
 obtain⟨its,r,⟨o,n,e,_,_,d⟩,_⟩:=I.list h;obtain⟨its',r',⟨o',n',e',_,_,d'⟩,_⟩:=I.list h';rw[e]at e';cases e';rw[d]at d';injection d' with d1 _
 have:its=its':=by simpa using eO Array.toList d1
 subst this;exact r.inj r'
def Inv.mZ(I:Inv X W5 Y H s)(h:uU X.K H a xs)(h':uU X.K H a ys):xs=ys:=by
 obtain⟨its,r,⟨o,e,_,n,d⟩,_⟩:=I.tuple h;obtain⟨its',r',⟨o',e',_,n',d'⟩,_⟩:=I.tuple h';rw[e]at e';cases e';rw[d]at d';injection d' with d1 _
 have:its=its':=by simpa using eO Array.toList d1
 subst this;exact r.inj r'
end
abbrev Cx.nG(X:Cx)(E:QQX):Cx:={X with xe:=E}
abbrev Cx.om(X:Cx):Cx:=X.nG λ_ _=>False
def Cx.Ok.nG{X:Cx}(ok:X.Ok)(E:QQX):(X.nG E).Ok:=
 ⟨ok.mod,ok.kind,ok.glob,ok.blt,ok.above,ok.inj,ok.has,ok.oz,ok.hd,ok.frames,ok.oE,ok.oU,ok.bs,ok.nV,ok.nL,ok.nP,ok.ny,ok.n9⟩
def Cx.Ok.mY{X:Cx}{E:QQX}(ok:(X.nG E).Ok):X.Ok:=
 ⟨ok.mod,ok.kind,ok.glob,ok.blt,ok.above,ok.inj,ok.has,ok.oz,ok.hd,ok.frames,ok.oE,ok.oU,ok.bs,ok.nV,ok.nL,ok.nP,ok.ny,ok.n9⟩
section
variable {Y:St}{E:QQX}
def Inv.nG(I:Inv X W5 Y H s)(E:QQX):Inv (X.nG E) W5 Y H s:=⟨I.ok.nG E,I.os,I.bare,I.base,I.loc,I.cell,I.free,I.mT,I.pin,I.mM,I.len⟩
def Inv.mY(I:Inv (X.nG E) W5 Y H s):Inv X W5 Y H s:=⟨I.ok.mY,I.os,I.bare,I.base,I.loc,I.cell,I.free,I.mT,I.pin,I.mM,I.len⟩
def SP.mY{D:FE}(h:SP (X.nG E) W5 D f s'):SP X W5 D f s':=by
 cases f with
 | next=>obtain⟨σ',H',I,q⟩:=h;exact⟨σ',H',I.mY,q⟩
 | brk=>obtain⟨σ',H',I,q⟩:=h;exact⟨σ',H',I.mY,q⟩
 | cont=>obtain⟨σ',H',I,q⟩:=h;exact⟨σ',H',I.mY,q⟩
 | ret u=>obtain⟨v,σ',H',I,r,q⟩:=h;exact⟨v,σ',H',I.mY,r,q⟩
def Cn.om{st:T0 Stmt}(h:Cn X.om st t):Cn X st t:=λW5 s Y H D I hw=>dZ (h W5 s Y H D (I.nG _) hw) (λ_ _ q=>q.mY) λ_ _ z=>False.elim z
end
variable {st:Stmt}{u:TS}{te:TE}
section
variable {rest:T0 Stmt}{t:TS}{e:Expr}
def Ul:TS:=λD Y H=>D.nx Y H
def Wg(t u:TS):TS:=λD Y H=>t {D with nx:=u D} Y H
def On:Cn X [] Ul:=λ_ _ Y H _ I h=>gM ⟨Y,H,I,h⟩
def M8(h1:PS X st t)(h2:Cn X rest u):Cn X (st::rest) (Wg t u):=by
 intro W5 s Y H D I h;refine jz (sf (h1 W5 s Y H {D with nx:=u D} I h) λf s1 q=>?_);cases f with
 | next=>obtain⟨σ',H',I',q⟩:=q;exact h2 W5 s1 σ' H' D I' q
 | ret v=>exact q
 | brk=>exact q
 | cont=>exact q
def Ep(h1:PS X st t):Cn X [st] t:=by
 intro W5 s Y H D I h;refine jz (sf (h1 W5 s Y H D I h) λf s1 q=>?_);cases f with
 | next=>exact gM q
 | ret v=>exact q
 | brk=>exact q
 | cont=>exact q
def Inv.quiet{W5:QQY}(I:Inv X W5 Y H s):interactive X.env=false:=by simp[interactive,I.ok.kind]
def TX(te:TE):TS:=λD Y H=>te Y H λ_ H1=>D.nx Y H1
def Qj(he:PE X e te)(hs:swapsWith e none pos.line X.env=pure false:=by rfl):PS X (.Expr e pos) (TX te):=by intro W5 s Y H D I h;exact wpAny_Expr_any (sf (he W5 s Y H _ I h) λv s1 zz=>x5 zz λx H1 I1 r1 q1=>⟨Y,H1,I1,q1⟩) I.quiet hs
def VQ(te:TE):TS:=λD Y H=>te Y H D.rt
def RB(he:PE X e te):PS X (.Return (some e) pos) (VQ te):=by intro W5 s Y H D I h;exact wpAny_Return_some (sf (he W5 s Y H _ I h) λv s1 zz=>x5 zz λx H1 I1 r1 q1=>⟨x,Y,H1,I1,r1,q1⟩)
def Wp(c:TT)(t u:TS):TS:=λD Y H=>c Y H λb H1=>if b=true then t D Y H1 else u D Y H1
def Uq(hc:PT X c tc)(ha:Cn X a t)(hb:Cn X b u):PS X (.If c a b pos) (Wp tc t u):=by
 intro W5 s Y H D I h;refine wpAny_If (sf (hc W5 s Y H _ I h) λd s1 ⟨H1,I1,q1⟩=>?_);cases d with
 | true=>exact ha W5 s1 Y H1 D I1 q1
 | false=>exact hb W5 s1 Y H1 D I1 q1
def RH:TS:=λ_ _ _=>False
def Lk:PS X st RH:=λ_ _ _ _ _ _ h=>h.elim
end
abbrev TG:=V->St->Hp->(St->Hp->Prop)->Prop
abbrev Oh:=T0 V->St->Hp->(St->Hp->Prop)->Prop
def PG(X:Cx)(Xy:Expr)(t:TG):Prop:=
 ∀(W5:QQY) (s:Sd) (Y:St) (H:Hp) (v:V) (u:Vl) (Q:St->Hp->Prop),Inv X W5 Y H s->qC v u->t v Y H Q->
  wpAny (model X.prog X.w) X.A (assign Xy X.env u) (λ_ s'=>∃σ' H',Inv X W5 σ' H' s'/\Q σ' H') X.xe s
def NV(X:Cx)(ts:T0 Expr)(t:Oh):Prop:=
 ∀(W5:QQY) (s:Sd) (Y:St) (H:Hp) (vs:T0 V) (us:T0 Vl) (Q:St->Hp->Prop),Inv X W5 Y H s->qx vs us->t vs Y H Q->
  wpAny (model X.prog X.w) X.A (assignInOrder ((assignEach ts X.env).map (·.2)) us) (λ_ s'=>∃σ' H',Inv X W5 σ' H' s'/\Q σ' H') X.xe s
abbrev Ro:=V->V->V->Hp->(Hp->Prop)->Prop
def TL(X:Cx)(t:Ro):Prop:=
 ∀(W5:QQY) (s:Sd) (Y:St) (H:Hp) (o i v:V) (ov iv u:Vl) (Q:Hp->Prop),Inv X W5 Y H s->qC o ov->qC i iv->qC v u->t o i v H Q->
  wpAny (model X.prog X.w) X.A (setItem ov iv u) (λ_ s'=>∃H',Inv X W5 Y H' s'/\Q H') X.xe s
def Je(i:Nat):TG:=λv Y H Q=>Q (Y.set i (some v)) H
def Qx{i:Nat}{x:Str}(hN:X.N.Nodup)(hi:X.N[i]?=some x)(hx:LR X.env.scope x)(hf:Ln X x:=by first|exact .inl rfl|exact .inr rfl|assumption):PG X (.Name x pos) (Je i):=by intro W5 s Y H v u Q I r h;exact kY (zx I hN hi hx r (λs' I'=>⟨_,H,I',h⟩) hf)
def Vy:Oh:=λvs Y H Q=>vs=[]/\Q Y H
def UD(t:TG)(u:Oh):Oh:=λvs Y H Q=>∃v r,vs=v::r/\t v Y H λσ' H'=>u r σ' H' Q
def Qc:NV X [] Vy:=by intro W5 s Y H vs us Q I r h;obtain⟨e,h⟩:=h;subst e;cases r;exact assignInOrder_nil ⟨Y,H,I,h⟩
def L6{u:Oh}(h1:PG X e t)(h2:NV X es u) (hs:(assignEach (e::es) X.env).map (·.2)=assign e X.env::(assignEach es X.env).map (·.2):=by rfl):NV X (e::es) (UD t u):=by
 intro W5 s Y H vs us Q I r h;obtain⟨v,vr,e1,h⟩:=h;subst e1;cases r with
 | cons r rr=>rw[hs];refine assignInOrder_cons (sf (h1 W5 s Y H _ _ _ I r h) λ_ s1 ⟨σ1,H1,I1,q1⟩=>?_);exact h2 W5 s1 σ1 H1 _ _ Q I1 rr q1
def Vt(K:qh)(n:Nat)(t:Oh):TG:=λv Y H Q=>∃a xs,v=.ref a/\uU K H a xs/\xs.length=n/\t xs Y H Q
def SJ{n:Nat}(hc:X.calm=true)(h:NV X es t) (hn:(assignEach es X.env).length=n:=by rfl) (Xu:(assignEach es X.env).findIdx? (·.1)=none:=by rfl):PG X (.Tuple es k pos) (Vt X.K n t):=by
 intro W5 s Y H v u Q I r hw;obtain⟨a,xs,e1,hq,hl,hw⟩:=hw;subst e1;cases r;obtain⟨its,rv,ht,hz⟩:=I.tuple hq;refine assign_Tuple_tuple (I.ok.hd hc) ht (by simp[hn,<-hl,rv.length]) Xu λh' hx=>?_;have I1:Inv X W5 Y H {s with heap:=h'}:=I.kept (t':=s.toks) λb o e=>hx b o (dC (dq e)) e;exact h W5 _ Y H xs _ Q I1 (by simpa using rv) hw
def VP(to ti:TE)(t:Ro):TG:=λv Y H Q=>to Y H λo H1=>ti Y H1 λi H2=>t o i v H2 λH3=>Q Y H3
def Sh(ho:PE X o to)(hi:PE X i ti)(hs:TL X t) (ha:∀v,assign (.Subscript o i pos) X.env v=(do
   let ov<-holding [v] (eval o X.env);let iv<-holding [v,ov] (eval i X.env)
   standAt pos
   holding [v,ov,iv] (setItem ov iv v)
   release [v,ov,iv] []):=by intro _;rfl):PG X (.Subscript o i pos) (VP to ti t):=by
 intro W5 s Y H v u Q I r h;rw[ha];refine cT (eK (sf (ho W5 s Y H _ I h) λov s1 zz=>x5 zz λx H1 I1 r1 q1=>?_));refine cT (eK (sf (hi W5 s1 Y H1 _ I1 q1) λiv s2 zz=>x5 zz λy H2 I2 r2 q2=>?_));refine cT (ic (cT (eK (sf (hs W5 s2 Y H2 x y v ov iv u _ I2 r1 r2 r q2) λ_ s3 ⟨H3,I3,q3⟩=>?_))));exact wpAny_release ⟨Y,H3,I3,q3⟩
def Pm(te:TE)(g:TG):TS:=λD Y H=>te Y H λx H1=>g x Y H1 D.nx
def Sg(he:PE X e te)(hg:PG X tg g)(hs:swapsWithSole [tg] e pos.line X.env=pure false:=by rfl)(hw:swappedStores [tg] e X.env=pure none:=by rfl)
  (h1:(assignEach [tg] X.env).map (·.2)=[assign tg X.env]:=by rfl):PS X (.Assign [tg] e pos) (Pm te g):=by
 intro W5 s Y H D I h;refine wpAny_Assign_stores (sf (he W5 s Y H _ I h) λv s1 zz=>x5 zz λx H1 I1 r1 q1=>?_) hs hw;rw[h1];exact sf (hg W5 s1 Y H1 x v _ I1 r1 q1) λ_ s2 q=>q
def M9{i:Nat}{x:Str}(hN:X.N.Nodup)(hi:X.N[i]?=some x)(hx:LR X.env.scope x)(he:PE X e te)(hs:swapsWith e (some (.Name x Xh)) pos.line X.env=pure false:=by rfl)(hf:Ln X x:=by first|exact .inl rfl|exact .inr rfl|assumption):
  PS X (.Assign [.Name x Xh] e pos) (Pm te (Je i)):=by
 intro W5 s Y H D I h;refine wpAny_Assign_Name (sf (he W5 s Y H _ I h) λv s1 zz=>x5 zz λy H1 I1 r1 q1=>?_) hs;exact zx I1 hN hi hx r1 (λs2 I2=>⟨_,H1,I2,q1⟩) hf
def Rv(c:TT)(tb:TS):TS:=λD Y H=>∃W:Nat->St->Hp->Prop,(∃m,W m Y H)/\∀m Y H,W m Y H->
 c Y H λb H1=>if b=true then ∃N:St->Hp->Prop,(∀σ' H',N σ' H'->∃m',m'<m/\W m' σ' H')/\tb {D with nx:=N,ct:=N,bk:=D.nx} Y H1 else D.nx Y H1
def Mb{tb:TS}(hp:PassesOwn (model X.prog X.w) X.A X.env X.xe)(hc:PT X c tc)(hb:Cn X body tb):PS X (.While c body [] pos) (Rv tc tb):=by
 intro W5 s Y H D I h;obtain⟨W,⟨m0,w0⟩,turn⟩:=h;refine wpAny_While (codeAny_whileLoop (λn s'=>∃σ' H',Inv X W5 σ' H' s'/\W n σ' H') ?_ m0 ⟨Y,H,I,w0⟩)
 rintro n s1 ⟨σ1,H1,I1,w1⟩
 refine gz hp (sf (hc W5 s1 σ1 H1 _ I1 (turn n σ1 H1 w1)) λb s2 ⟨H2,I2,q2⟩=>?_);cases b with
 | true=>
  obtain⟨N,hN,q2⟩:=q2;rw[cZ rfl];refine gz hp (sf (hb W5 s2 σ1 H2 _ I2 q2) λf s3 q3=>?_);cases f with
  | next=>obtain⟨σ3,H3,I3,n3⟩:=q3;obtain⟨m',hm,w3⟩:=hN σ3 H3 n3;exact⟨m',hm,σ3,H3,I3,w3⟩
  | cont=>obtain⟨σ3,H3,I3,n3⟩:=q3;obtain⟨m',hm,w3⟩:=hN σ3 H3 n3;exact⟨m',hm,σ3,H3,I3,w3⟩
  | brk=>exact q3
  | ret v=>exact q3
 | false=>rw[cX dw];exact gM ⟨σ1,H2,I2,q2⟩
structure It where
 go:Nat->Hp->Prop
 oH:Nat->Hp->V->Hp->Prop
 stop:Nat->Hp->Prop
def AC(X:Cx)(W5:QQY)(H:Hp)(b:Addr):Prop:=
 H b=none/\b≠X.env.locals/\b∉X.fs/\(b∈X.ex\/X.s₀.heap.objs.size<=b)/\(∀x c,X.env.cells.lookup x=some c->c≠b)/\∀p∈X.pn++W5,p.1≠b
def Inv.nN{W5:QQY}{H H':Hp}{b:Addr}(I:Inv X W5 Y H s)(hb:s.heap.objs.size<=b)(hn:H' b=none):AC X W5 H' b:=by
 refine⟨hn,gI (dJ I.lt hb),I.oK hb,.inr (dW I.sz hb),λx c e z=>?_,λp hp z=>?_⟩
 .obtain⟨v,q⟩:=I.cell x c e;exact absurd (dJ q.lt (by rw[z];exact hb)) (e9 _)
 .exact absurd (dJ (dq (I.pin p hp).1) (by rw[z];exact hb)) (e9 _)
structure F'(P:Pg)(w:Wo)(K:qh)(tg:Expr)(J:It)(fp:QXQ)(it:Addr)(tn:Nat->Heap->Prop):Prop where
 mem:it∈fp
 obj:∀i h,tn i h->∀b∈fp,∃o,h.get? b=some o/\∀v,o.data≠.cell v
 keep:∀i h h',tn i h->(∀b∈fp,∀o,h.get? b=some o->h'.get? b=some o)->tn i h'
 item:∀(X:Cx),X.prog=P->X.w=w->X.K=K->X.calm=true->∀(i:Nat) (W5:QQY) (s:Sd) (Y:St) (H:Hp) (E:QQX),Inv X W5 Y H s->(∀b∈fp,AC X W5 H b)->tn i s.heap->J.go i H->
  wpAny (model P w) X.A (pyNext (.ref it)) (λr s1=>∃u,r=some u/\
   wpAny (model P w) X.A (letOwnedTupleGo tg (.ref it) u) (λ_ s2=>∃x H',Inv X W5 Y H' s2/\qC x u/\J.oH i H x H'/\tn (i+1) s2.heap/\∀b∈fp,H' b=none) E s1) E s
 done:∀(X:Cx),X.prog=P->X.w=w->X.K=K->X.calm=true->∀(i:Nat) (W5:QQY) (s:Sd) (Y:St) (H:Hp) (E:QQX),Inv X W5 Y H s->(∀b∈fp,AC X W5 H b)->tn i s.heap->J.stop i H->
  wpAny (model P w) X.A (pyNext (.ref it)) (λr s1=>r=none/\Inv X W5 Y H s1) E s
 self:∀(A:Ar) (i:Nat) (s:Sd) (Q:QQX) (E:QQX),tn i s.heap->Q (.ref it) s->wpAny (model P w) A (pyIter (.ref it)) Q E s
abbrev TI:=St->Hp->(It->Hp->Prop)->Prop
def WI(X:Cx)(W5:QQY)(Y:St)(tg:Expr)(R:It->Hp->Prop)(itv:Vl)(s2:Sd):Prop:=
 ∃(it:Addr) (fp:QXQ) (tn:Nat->Heap->Prop) (J:It) (H':Hp),itv=.ref it/\Inv X W5 Y H' s2/\F' X.prog X.w X.K tg J fp it tn/\tn 0 s2.heap/\(∀b∈fp,AC X W5 H' b)/\R J H'
def PI(X:Cx)(tg iter:Expr)(wi:TI):Prop:=
 ∀(W5:QQY) (s:Sd) (Y:St) (H:Hp) (R:It->Hp->Prop),Inv X W5 Y H s->wi Y H R->
  wpAny (model X.prog X.w) X.A (eval iter X.env) (λv s1=>wpAny (model X.prog X.w) X.A (pyIter v) (WI X W5 Y tg R) X.xe s1) X.xe s
def Jm{M:Model}{A:Ar}{E:QQX}{s:Sd}{tg:Expr}{it:Addr}{u:Vl}{o:Obj}{n:String}{vs:Array Vl}{Q:Unit->Sd->Prop}(ho:s.heap.get? it=some o)(hc:o.cls=.type n)(hd:o.data=.fields vs) (hn:["enumerate","zip","dict_itemiterator","dict_reverseitemiterator","odict_iterator","itertools.zip_longest","itertools.pairwise"].contains n=false) (hQ:Q () s):wpAny M A (letOwnedTupleGo tg (.ref it) u) Q E s:=by
  unfold letOwnedTupleGo;cases tg<;>first
    | exact c9 hQ
    | (cases u<;>first
        | exact c9 hQ
        | (refine cT (wpAny_load ho ?_)
           rw[hc,hd];show wpAny M A (if (["enumerate","zip","dict_itemiterator","dict_reverseitemiterator","odict_iterator","itertools.zip_longest","itertools.pairwise"].contains n&&vs[0]?==some (rawInt _))=true then _ else _) Q E s;rw[cX (by intro h;rw[hn,eQ]at h;cases h)];exact c9 hQ))
def Vf(K:qh)(a:Addr):It:=
 ⟨λi H=>∃xs x,yU K H a xs/\xs[i]?=some x,λi H x H'=>H'=H/\∀xs,yU K H a xs->xs[i]?=some x,λi H=>∃xs,yU K H a xs/\xs.length<=i⟩
def VI(K:qh)(a:Addr):It:=
 ⟨λi H=>∃xs x,uU K H a xs/\xs[i]?=some x,λi H x H'=>H'=H/\∀xs,uU K H a xs->xs[i]?=some x,λi H=>∃xs,uU K H a xs/\xs.length<=i⟩
def UZ(lo:Int)(n:Nat):It:=⟨λi _=>i<n,λi H x H'=>H'=H/\x=.int (lo+i),λi _=>n<=i⟩
def KM{K:qh}(a it:Addr):F' P w K tg (Vf K a) [it] it (λi h=>h.IsListIter it a i) where
 mem:=by simp
 obj:=λi h st b hb=>by
  have e:b=it:=by simpa using hb
  subst e;obtain⟨o,e,c,d⟩:=st;exact⟨o,e,λv z=>by rw[d]at z;cases z⟩
 keep:=λi h h' st k=>st.at λo e=>k it (by simp) o e
 item:=by intro X hP hw hK hc i W5 s Y H E I hf st hg;subst hP hw hK;obtain⟨xs,x,hq,hx⟩:=hg;obtain⟨its,rv,p,hz⟩:=I.list hq;obtain⟨u,hu,ru⟩:=rv.get hx;obtain⟨f0,f1,f2,f3,f4,f5⟩:=hf it (by simp);refine wpAny_pyNext_list_item st p.isList (x:=u) (by simpa using hu) λh' XX sb=>?_;have I1:Inv X W5 Y H {s with heap:=h'}:=I.turned (t':=s.toks) (λb o hb e=>(sb.2 b hb).trans e) f0 f1 f3 f4 f5;obtain⟨o,e,c,d⟩:=id XX;exact⟨u,rfl,Jm (s:={s with heap:=h'}) e c d (by decide) ⟨x,H,I1,ru,⟨rfl,λys hy=>by rw[I.nK hy hq];exact hx⟩,XX,λb hb=>(hf b hb).1⟩⟩
 done:=by intro X hP hw hK hc i W5 s Y H E I hf st hg;subst hP hw hK;obtain⟨xs,hq,hx⟩:=hg;obtain⟨its,rv,p,hz⟩:=I.list hq;obtain⟨f0,f1,f2,f3,f4,f5⟩:=hf it (by simp);have hl:=rv.length;exact wpAny_pyNext_list_end (I.ok.hd hc) st p.isList (by simp;omega) λh' eb=>⟨rfl,I.turned (t':=s.toks) (λb o hb e=>eb b o hb e) f0 f1 f3 f4 f5⟩
 self:=λ_ _ _ _ _ st h=>wpAny_pyIter_listiter st h
def Hy{K:qh}(a it:Addr):F' P w K tg (VI K a) [it] it (λi h=>h.IsTupleIter it a i) where
 mem:=by simp
 obj:=λi h st b hb=>by
  have e:b=it:=by simpa using hb
  subst e;obtain⟨o,e,c,d⟩:=st;exact⟨o,e,λv z=>by rw[d]at z;cases z⟩
 keep:=λi h h' st k=>st.at λo e=>k it (by simp) o e
 item:=by intro X hP hw hK hc i W5 s Y H E I hf st hg;subst hP hw hK;obtain⟨xs,x,hq,hx⟩:=hg;obtain⟨its,rv,p,hz⟩:=I.tuple hq;obtain⟨u,hu,ru⟩:=rv.get hx;obtain⟨f0,f1,f2,f3,f4,f5⟩:=hf it (by simp);refine wpAny_pyNext_tuple_item st (show s.heap.IsTuple a its.toArray from p) (x:=u) (by simpa using hu) λh' XX sb=>?_;have I1:Inv X W5 Y H {s with heap:=h'}:=I.turned (t':=s.toks) (λb o hb e=>(sb.2 b hb).trans e) f0 f1 f3 f4 f5;obtain⟨o,e,c,d⟩:=id XX;exact⟨u,rfl,Jm (s:={s with heap:=h'}) e c d (by decide) ⟨x,H,I1,ru,⟨rfl,λys hy=>by rw[I.mZ hy hq];exact hx⟩,XX,λb hb=>(hf b hb).1⟩⟩
 done:=by intro X hP hw hK hc i W5 s Y H E I hf st hg;subst hP hw hK;obtain⟨xs,hq,hx⟩:=hg;obtain⟨its,rv,p,hz⟩:=I.tuple hq;obtain⟨f0,f1,f2,f3,f4,f5⟩:=hf it (by simp);have hl:=rv.length;exact wpAny_pyNext_tuple_end (I.ok.hd hc) st (show s.heap.IsTuple a its.toArray from p) (by simp;omega) λh' eb=>⟨rfl,I.turned (t':=s.toks) (λb o hb e=>eb b o hb e) f0 f1 f3 f4 f5⟩
 self:=λ_ _ _ _ _ st h=>wpAny_pyIter_tupleiter st h
def HZ{K:qh}(it:Addr)(lo:Int)(n:Nat):F' P w K tg (UZ lo n) [it] it (λi h=>IsRangeIter h it (lo+(i:Nat)*1) ((n:Int) - (i:Nat)) 1) where
 mem:=by simp
 obj:=λi h st b hb=>by
  have e:b=it:=by simpa using hb
  subst e;exact⟨_,st,λv z=>by
   have z':Data.fields _=Data.cell v:=z;cases z'⟩
 keep:=λi h h' st k=>k it (by simp) _ st
 item:=by intro X hP hw hK hc i W5 s Y H E I hf st hg;subst hP hw hK;obtain⟨f0,f1,f2,f3,f4,f5⟩:=hf it (by simp);have W:=Walks.range (prog:=X.prog) (w:=X.w) (I.ok.hd hc) it lo 1 n;refine W.item i s _ _ hg st λv h' tk hv XX kk=>?_;obtain⟨t,rfl⟩:=hv;have I1:Inv X W5 Y H {s with heap:=h',toks:=tk}:=I.turned (λb o hb e=>kk b o (by simpa using hb) e) f0 f1 f3 f4 f5;refine⟨_,rfl,Jm (s:={s with heap:=h',toks:=tk}) (n:="range_iterator") XX rfl rfl (by decide) ⟨.int (lo+i),H,I1,⟨t,?_⟩,⟨rfl,rfl⟩,XX,λb hb=>(hf b hb).1⟩⟩;rw[Int.mul_one]
 done:=by intro X hP hw hK hc i W5 s Y H E I hf st hg;subst hP hw hK;obtain⟨f0,f1,f2,f3,f4,f5⟩:=hf it (by simp);exact wpAny_pyNext_range_end (I.ok.hd hc) st (by have:n<=i:=hg;omega) λh' eb=>⟨rfl,I.turned (t':=s.toks) (λb o hb e=>eb b o hb e) f0 f1 f3 f4 f5⟩
 self:=λ_ _ _ _ _ st h=>wpAny_pyIter_rangeiter st h
variable {tg:Expr}
def G'{W5:QQY}{R:It->Hp->Prop}{E:QQX}{lo hi:Int}{t u v:Tok}{tk:Nat}(I:Inv X W5 Y H s)(h1:-(2 ^ 62)<=lo)(h2:lo<2 ^ 62)(h3:-(2 ^ 62)<=hi)(h4:hi<2 ^ 62) (q:R (UZ lo (hi - lo).toNat) H):wpAny (model X.prog X.w) X.A (pyIter (.ref s.heap.objs.size)) (WI X W5 Y tg R) E {s with heap:=s.heap.push {cls:=.type "range",data:=.fields #[.int lo t,.int hi u,.int 1 v]},toks:=tk}:=by
 refine wpAny_pyIter_range (IsRange.new ..) (small_one h1 h2 h3 h4) ?_;have I1:Inv X W5 Y H {s with heap:=s.heap.push {cls:=.type "range",data:=.fields #[.int lo t,.int hi u,.int 1 v]},toks:=tk}:=I.kept λb o e=>cY _ e;refine⟨(s.heap.push {cls:=.type "range",data:=.fields #[.int lo t,.int hi u,.int 1 v]}).objs.size,[(s.heap.push {cls:=.type "range",data:=.fields #[.int lo t,.int hi u,.int 1 v]}).objs.size],_,_,H,rfl,I1.kept (t':=tk) λb o e=>cY _ e,HZ _ lo (hi - lo).toNat,?_,λb hb=>?_,q⟩
 .have e1:lo+((0:Nat):Int)*1=lo:=by simp
  have e2:(((hi - lo).toNat:Nat):Int) - ((0:Nat):Int)=Builtin.Range.rangeSize lo hi 1:=by rw[rangeSize_one];split<;>omega
  show IsRangeIter _ _ (lo+((0:Nat):Int)*1) ((((hi - lo).toNat:Nat):Int) - ((0:Nat):Int)) 1;rw[e1,e2];exact dE _ rfl
 .have e:b=(s.heap.push {cls:=.type "range",data:=.fields #[.int lo t,.int hi u,.int 1 v]}).objs.size:=by simpa using hb
  subst e;exact I1.nN (dg _) (I1.mM.fresh (dg _))
def UA(ta:TA):TI:=λY H R=>ta Y H λvs H1=>∃j:Int,vs=[.int j]/\-(2 ^ 62)<=j/\j<2 ^ 62/\R (UZ 0 j.toNat) H1
def Ud(ta:TA):TI:=λY H R=>ta Y H λvs H1=>∃i j:Int,vs=[.int i,.int j]/\(-(2 ^ 62)<=i/\i<2 ^ 62/\-(2 ^ 62)<=j/\j<2 ^ 62)/\R (UZ i (j - i).toNat) H1
def KN{a:Expr}{ta:TA}(hg:Gl X "range")(hm:X.mg "range"=none)(ha:PA X [a] ta)(hs:starEach [a] X.env=[(false,eval a X.env)]:=by rfl):PI X tg (.Call (.Name "range" p) [a] [] pos) (UA ta):=by
 intro W5 s Y H R I h;refine Call_ (wB I hg hm boot_range (fJ (sf (ha pos W5 s Y H _ I h) λus s1 zz=>x5 zz λvs H1 I1 r1 q1=>?_) hs rfl));obtain⟨j,e,q1,q2,q⟩:=q1;subst e;cases r1 with
 | cons r rr=>cases rr;obtain⟨t,rfl⟩:=r;exact call_range_1 (G' I1 (by omega) (by omega) q1 q2 (by simpa using q))
def Kc{a b:Expr}{ta:TA}{p pos:Pos}(hg:Gl X "range")(hm:X.mg "range"=none)(ha:PA X [a,b] ta)(hs:starEach [a,b] X.env=[(false,eval a X.env),(false,eval b X.env)]:=by rfl)(Yg:starEach [b] X.env=[(false,eval b X.env)]:=by rfl):
  PI X tg (.Call (.Name "range" p) [a,b] [] pos) (Ud ta):=by
 intro W5 s Y H R I h;refine Call_ (wB I hg hm boot_range (fJ (sf (ha pos W5 s Y H _ I h) λus s1 zz=>x5 zz λvs H1 I1 r1 q1=>?_) (by rw[hs,Yg]) (by rw[Yg];rfl)));obtain⟨i,j,e,⟨q1,q2,q3,q4⟩,q⟩:=q1;subst e;cases r1 with
 | cons r rr=>
  cases rr with
  | cons r' rr=>cases rr;obtain⟨t,rfl⟩:=r;obtain⟨t',rfl⟩:=r';exact call_range_2 (G' I1 q1 q2 q3 q4 q)
def Wr(wi:TI)(g:TG)(tb:TS):TS:=λD Y H=>wi Y H λJ H1=>∃W:Nat->Nat->St->Hp->Prop,(∃m,W 0 m Y H1)/\∀i m Y H,W i m Y H->
 (J.stop i H/\D.nx Y H)\/(J.go i H/\∃N:St->Hp->Prop,(∀σ' H',N σ' H'->∃m',m'<m/\W (i+1) m' σ' H')/\∀x H',J.oH i H x H'->g x Y H' λσ2 H2=>tb {D with nx:=N,ct:=N,bk:=D.nx} σ2 H2)
def BO(fp:QXQ)(h:Heap):QQY:=fp.filterMap λb=>(h.get? b).map λo=>(b,o)
def va{fp:QXQ}{h:Heap}{b:Addr}{o:Obj}(hb:b∈fp)(e:h.get? b=some o):(b,o)∈BO fp h:=kI.mpr ⟨b,hb,by rw[e];rfl⟩
def Km{p:Addr×Obj}(hp:p∈BO fp h):p.1∈fp/\h.get? p.1=some p.2:=by
 obtain⟨b,hb,e⟩:=kI.mp hp;cases q:h.get? b with
 | none=>rw[q]at e;cases e
 | some o=>rw[q]at e;have e':(b,o)=p:=df e;subst e';exact⟨hb,q⟩
def Inv.pinned{W5:QQY}{fp:QXQ}(I:Inv X W5 Y H s)(hf:∀b∈fp,AC X W5 H b)(ho:∀b∈fp,∃o,s.heap.get? b=some o/\∀v,o.data≠.cell v):Inv X (W5++BO fp s.heap) Y H s:=
 I.nH λp hp=>(dU.mp hp).elim (λz=>I.pin p (d9 _ z)) λz=>by obtain⟨hb,e⟩:=Km z;obtain⟨f0,f1,f2,_⟩:=hf p.1 hb;obtain⟨o,e',d⟩:=ho p.1 hb;rw[e]at e';cases e';exact⟨e,f0,f1,f2,d⟩
def Inv.mU{W5 pl:QQY}(I:Inv X (W5++pl) Y H s):Inv X W5 Y H s:=I.nH λp hp=>I.pin p (d9 _ (fg _ hp))
def Rm{tb:TS}(hp:PassesOwn (model X.prog X.w) X.A X.env X.xe)(hc:X.calm=true)(hi:PI X tg iter wi)(hg:PG X tg g)(hb:Cn X body tb) (hs:∀x,foldedSetIterable iter X.env x=pure x:=by intro _;rfl):PS X (.For tg iter body [] pos) (Wr wi g tb):=by
 intro W5 s Y H D I h;refine wpAny_For (sf (hi W5 s Y H _ I h) λv s1 h1=>sf h1 λitv s2 h2=>?_) hs;obtain⟨it,fp,tn,J,H2,e,I2,T,Xo,f2,W,⟨m0,w0⟩,turn⟩:=h2;subst e;have Yj:∀{H':Hp},(∀b∈fp,H' b=none)->∀b∈fp,AC X W5 H' b:=λhn b hb=>⟨hn b hb,(f2 b hb).2⟩;refine codeAny_forLoop_any (λn s'=>∃i σ' H',Inv X W5 σ' H' s'/\tn i s'.heap/\(∀b∈fp,H' b=none)/\W i n σ' H') ?_ m0 ⟨0,Y,H2,I2,Xo,λb hb=>(f2 b hb).1,w0⟩
 rintro n s3 ⟨i,σ3,H3,I3,X2,fr3,w3⟩
 rcases turn i n σ3 H3 w3 with⟨stop,qn⟩|⟨go,N,hN,step⟩
 .refine gz hp (sf (T.done X rfl rfl rfl hc i W5 s3 σ3 H3 X.xe I3 (Yj fr3) X2 stop) λr s4 ⟨hr,I4⟩=>?_);subst hr;exact gM ⟨σ3,H3,I4,qn⟩
 .refine gz hp (sf (T.item X rfl rfl rfl hc i W5 s3 σ3 H3 X.xe I3 (Yj fr3) X2 go) λr s4 ⟨u,hr,h4⟩=>?_);subst hr;refine gz hp (sf h4 λ_ s5 zz=>?_);obtain⟨x,H5,I5,r5,y5,YL,fr5⟩:=zz;have I5':=I5.pinned (Yj fr5) (T.obj _ _ YL);refine gz hp (sf (hg _ s5 σ3 H5 x u _ I5' r5 (step x H5 y5)) λ_ s6 ⟨σ6,H6,I6,q6⟩=>?_);refine gz hp (sf (hb _ s6 σ6 H6 _ I6 q6) λf s7 q7=>?_);have again:∀{σ7:St} {H7:Hp},Inv X (W5++BO fp s5.heap) σ7 H7 s7->N σ7 H7->∃m,m<n/\∃i σ' H',Inv X W5 σ' H' s7/\tn i s7.heap/\(∀b∈fp,H' b=none)/\W i m σ' H':=λ{σ7 H7} I7 n7=>by obtain⟨m',hm,w7⟩:=hN σ7 H7 n7;refine⟨m',hm,i+1,σ7,H7,I7.mU,T.keep _ _ _ YL λb hb o e=>(I7.pin (b,o) (d9 _ (d9 _ (va hb e)))).1,λb hb=>?_,w7⟩;obtain⟨o,e,d⟩:=T.obj _ _ YL b hb;exact(I7.pin (b,o) (d9 _ (d9 _ (va hb e)))).2.1
  cases f with
  | next=>obtain⟨σ7,H7,I7,n7⟩:=q7;exact again I7 n7
  | cont=>obtain⟨σ7,H7,I7,n7⟩:=q7;exact again I7 n7
  | brk=>obtain⟨σ7,H7,I7,q7⟩:=q7;exact⟨σ7,H7,I7.mU,q7⟩
  | ret v=>obtain⟨x7,σ7,H7,I7,r7,q7⟩:=q7;exact⟨x7,σ7,H7,I7.mU,r7,q7⟩
abbrev R2:=V->V->Hp->VK->Prop
def xk(X:Cx)(f:Vl->Vl->Sem Vl)(r:R2):Prop:=
 ∀(W5:QQY) (s:Sd) (Y:St) (H:Hp) (x y:V) (v u:Vl) (Q:VK),Inv X W5 Y H s->qC x v->qC y u->r x y H Q->
  wpAny (model X.prog X.w) X.A (f v u) (EP X W5 Y Q) X.xe s
def Vw(X:Cx)(f:Vl->Sem Vl)(r:V->Hp->VK->Prop):Prop:=
 ∀(W5:QQY) (s:Sd) (Y:St) (H:Hp) (x:V) (v:Vl) (Q:VK),Inv X W5 Y H s->qC x v->r x H Q->
  wpAny (model X.prog X.w) X.A (f v) (EP X W5 Y Q) X.xe s
def yl(X:Cx)(f:Vl)(r:T0 V->Hp->VK->Prop):Prop:=
 ∀(W5:QQY) (s:Sd) (Y:St) (H:Hp) (xs:T0 V) (us:T0 Vl) (Q:VK),Inv X W5 Y H s->qx xs us->r xs H Q->
  wpAny (model X.prog X.w) X.A (call f us) (EP X W5 Y Q) X.xe s
def Uh(r:R2)(ta tb:TE):TE:=λY H Q=>ta Y H λx H1=>tb Y H1 λy H2=>r x y H2 Q
def W0(r:V->Hp->VK->Prop)(ta:TE):TE:=λY H Q=>ta Y H λx H1=>r x H1 Q
def rI(C:Int->Int->Prop)(g:Int->Int->V):R2:=λx y H Q=>∃i j,x=.int i/\y=.int j/\C i j/\Q (g i j) H
def Q7(g:Int->Int->V):R2:=λx y H Q=>∃i j,x=.int i/\y=.int j/\Q (g i j) H
def rU(g:Int->V):V->Hp->VK->Prop:=λx H Q=>∃i,x=.int i/\Q (g i) H
variable {tc:TE}
section
variable {a b c:Expr}
def Sx(ha:PE X a ta)(hb:PE X b tb){W5:QQY}{s:Sd}{Y:St}{H:Hp}{R:V->V->Hp->Prop}(I:Inv X W5 Y H s) (h:ta Y H λx H1=>tb Y H1 λy H2=>R x y H2) {Q:QQX} {f:Vl->Vl->Sem Vl} (hf:∀v u s2 x y H2,Inv X W5 Y H2 s2->qC x v->qC y u->R x y H2->wpAny (model X.prog X.w) X.A (f v u) Q X.xe s2):
  wpAny (model X.prog X.w) X.A (eval a X.env) (λv s₁=>wpAny (model X.prog X.w) X.A (eval b X.env) (λu s₂=>wpAny (model X.prog X.w) X.A (f v u) Q X.xe s₂) X.xe s₁) X.xe s:=by
 refine sf (ha W5 s Y H _ I h) λv s1 zz=>x5 zz λx H1 I1 r1 q1=>?_;refine sf (hb W5 s1 Y H1 _ I1 q1) λu s2 zz=>x5 zz λy H2 I2 r2 q2=>?_;exact hf v u s2 x y H2 I2 r1 r2 q2
def Q1{op:Operator}(ho:xk X (binaryOp op) r)(ha:PE X a ta)(hb:PE X b tb):PE X (.BinOp a op b pos) (Uh r ta tb):=by intro W5 s Y H Q I h;exact wpAny_BinOp (Sx ha hb I h λv u s2 x y H2 I2 rx ry q=>ho W5 s2 Y H2 x y v u Q I2 rx ry q)
def Uy{op:UnaryOp}(ho:Vw X (unaryOp op) r)(ha:PE X a ta):PE X (.UnaryOp op a pos) (W0 r ta):=by intro W5 s Y H Q I h;exact UnaryOp_ (sf (ha W5 s Y H _ I h) λv s1 zz=>x5 zz λx H1 I1 r1 q1=>ho W5 s1 Y H1 x v Q I1 r1 q1)
def We{f:Vl->Vl->Sem Vl}{C:Int->Int->Prop}{g:Int->Int->Int} (rule:∀(i j:Int) (t u:Tok) (s:Sd) (Q:QQX) (E:QQX),C i j->Q (.int (g i j) s.toks) {s with toks:=s.toks+1}->wpAny (model X.prog X.w) X.A (f (.int i t) (.int j u)) Q E s):
  xk X f (rI C λi j=>.int (g i j)):=by
 intro W5 s Y H x y v u Q I rx ry h;obtain⟨i,j,rfl,rfl,hc,q⟩:=h;obtain⟨t,rfl⟩:=rx;obtain⟨t',rfl⟩:=ry;exact rule i j t t' s _ _ hc ⟨.int (g i j),H,I.tok _,⟨_,rfl⟩,q⟩
def Tx{f:Vl->Vl->Sem Vl}{g:Int->Int->Int} (rule:∀(i j:Int) (t u:Tok) (s:Sd) (Q:QQX) (E:QQX),Q (.int (g i j) s.toks) {s with toks:=s.toks+1}->wpAny (model X.prog X.w) X.A (f (.int i t) (.int j u)) Q E s):
  xk X f (Q7 λi j=>.int (g i j)):=by
 intro W5 s Y H x y v u Q I rx ry h;obtain⟨i,j,rfl,rfl,q⟩:=h;obtain⟨t,rfl⟩:=rx;obtain⟨t',rfl⟩:=ry;exact rule i j t t' s _ _ ⟨.int (g i j),H,I.tok _,⟨_,rfl⟩,q⟩
def OC{f:Vl->Vl->Sem Vl}{g:Int->Int->Bool} (rule:∀(i j:Int) (t u:Tok) (s:Sd) (Q:QQX) (E:QQX),Q (.bool (g i j)) s->wpAny (model X.prog X.w) X.A (f (.int i t) (.int j u)) Q E s):
  xk X f (Q7 λi j=>.bl (g i j)):=by
 intro W5 s Y H x y v u Q I rx ry h;obtain⟨i,j,rfl,rfl,q⟩:=h;obtain⟨t,rfl⟩:=rx;obtain⟨t',rfl⟩:=ry;exact rule i j t t' s _ _ ⟨.bl (g i j),H,I,rfl,q⟩
def UJ(i j:Int):Prop:=0<j/\j<1073741824
def Dp(i j:Int):Prop:=(-(2 ^ 64)<i/\i<2 ^ 64)\/(-(2 ^ 64)<j/\j<2 ^ 64)
def Dp.ok(h:Dp i j):IntMulOk i j:=by
 rcases h with⟨h1,h2⟩|⟨h1,h2⟩
 .exact .of_left (intBits_le_64 h1 h2)
 .exact .of_right (intBits_le_64 h1 h2)
def SQ:xk X (binaryOp .Add) (Q7 λi j=>.int (i+j)):=Tx λ_ _ _ _ _ _ _ q=>add_int q
def RI:xk X (binaryOp .Sub) (Q7 λi j=>.int (i - j)):=Tx λ_ _ _ _ _ _ _ q=>sub_int q
def Tb:xk X (binaryOp .Mult) (rI Dp λi j=>.int (i*j)):=We λ_ _ _ _ _ _ _ hc q=>mul_int q hc.ok
def Pi:xk X (binaryOp .FloorDiv) (rI UJ λi j=>.int (i / j)):=We λi j _ _ _ _ _ hc q=>by have h1:(0:Int)<j:=hc.1;have h2:j<1073741824:=hc.2;exact floordiv_int (by omega) (by rw[Int.fdiv_eq_ediv_of_nonneg i (by omega)];exact q) (.inl (PyProof.noPylong_small (by omega)))
def Rf:xk X (binaryOp .Mod) (rI (λ_ j=>0<j) λi j=>.int (i % j)):=We λi j _ _ _ _ _ hc q=>by have h1:(0:Int)<j:=hc;exact mod_int' (by omega) (by rw[Int.fmod_eq_emod_of_nonneg i (by omega)];exact q)
def WT{f:Vl->Sem Vl}{g:Int->Int} (rule:∀(i:Int) (t:Tok) (s:Sd) (Q:QQX) (E:QQX),Q (.int (g i) s.toks) {s with toks:=s.toks+1}->wpAny (model X.prog X.w) X.A (f (.int i t)) Q E s):
  Vw X f (rU λi=>.int (g i)):=by
 intro W5 s Y H x v Q I rx h;obtain⟨i,rfl,q⟩:=h;obtain⟨t,rfl⟩:=rx;exact rule i t s _ _ ⟨.int (g i),H,I.tok _,⟨_,rfl⟩,q⟩
def Sm:Vw X (unaryOp .USub) (rU λi=>.int (-i)):=WT λ_ _ _ _ _ q=>neg_int q
end
section
variable {a b c:Expr}
def Iv{W5:QQY}{Q:VK}{k k':Bool}(I:Inv X W5 Y H s)(q:Q (.bl k) H)(e:k=k'):EP X W5 Y Q (.bool k') s:=by subst e;exact⟨.bl k,H,I,rfl,q⟩
def UM:xk X (compareOp .Lt) (Q7 λi j=>.bl (decide (i<j))):=OC λ_ _ _ _ _ _ _ q=>lt_int q
def UR:xk X (compareOp .LtE) (Q7 λi j=>.bl (decide (i<=j))):=OC λ_ _ _ _ _ _ _ q=>le_int q
def Tr:xk X (compareOp .Gt) (Q7 λi j=>.bl (decide (j<i))):=OC λ_ _ _ _ _ _ _ q=>gt_int q
def UO:xk X (compareOp .GtE) (Q7 λi j=>.bl (decide (j<=i))):=OC λ_ _ _ _ _ _ _ q=>ge_int q
def Ko:xk X (compareOp .In) (λx y H Q=>∃i j,x=.str i/\y=.str j/\Q (.bl (!(Builtin.Str.occurrences j i 0 j.length 1).isEmpty)) H):=by intro W5 s Y H x y v u Q I rx ry h;obtain⟨i,j,rfl,rfl,q⟩:=h;obtain⟨t,rfl⟩:=rx;obtain⟨t',rfl⟩:=ry;exact in_str (Iv I q rfl)
def S5:xk X (compareOp .Is) (λx y H Q=>y=.mG/\Q (.bl (decide (x=.mG))) H):=by
 intro W5 s Y H x y v u Q I rx ry h;obtain⟨rfl,q⟩:=h;cases ry;refine is_none_gen (Iv I q ?_);cases x<;>first
  | (cases rx;rfl)
  | (obtain⟨t,rfl⟩:=rx;rfl)
def PN:xk X (compareOp .IsNot) (λx y H Q=>y=.mG/\Q (.bl (!decide (x=.mG))) H):=by
 intro W5 s Y H x y v u Q I rx ry h;obtain⟨rfl,q⟩:=h;cases ry;refine isnot_none_gen (Iv I q ?_);cases x<;>first
  | (cases rx;rfl)
  | (obtain⟨t,rfl⟩:=rx;rfl)
def HN(b:Expr){op:CmpOp}(h:op≠.In:=by decide)(h2:op≠.NotIn:=by decide):behindInMarks op b=false:=by
 have e1:(op==CmpOp.In)=false:=by cases op<;>first|rfl|exact absurd rfl h
 have e2:(op==CmpOp.NotIn)=false:=by cases op<;>first|rfl|exact absurd rfl h2
 cases b<;>simp[behindInMarks,e1,e2]
def Jr{op:CmpOp}(ho:xk X (compareOp op) r)(ha:PE X a ta)(hb:PE X b tb)(hm:behindInMarks op b=false):PE X (.Compare a [op] [b] pos) (Uh r ta tb):=by intro W5 s Y H Q I h;exact wpAny_Compare1 (Sx ha hb I h λv u s2 x y H2 I2 rx ry q=>ho W5 s2 Y H2 x y v u Q I2 rx ry q) hm
def QX(t:TE):TT:=λY H Q=>t Y H λx H'=>∃k,x=.bl k/\Q k H'
def IL{op:CmpOp}(ho:xk X (compareOp op) r)(ha:PE X a ta)(hb:PE X b tb)(hm:behindInMarks op b=false):PT X (.Compare a [op] [b] pos) (QX (Uh r ta tb)):=by
 intro W5 s Y H Q I h;refine wpAny_isTrue_Compare1 (sf (ha W5 s Y H _ I h) λv s1 zz=>x5 zz λx H1 I1 r1 q1=>sf (hb W5 s1 Y H1 _ I1 q1) λu s2 zz=>x5 zz λy H2 I2 r2 q2=>
  sf (ho W5 s2 Y H2 x y v u _ I2 r1 r2 q2) λc s3 zz=>?_) hm
 obtain⟨z,H3,I3,r3,k,e,q3⟩:=zz;subst e;cases r3;exact fj ⟨H3,I3,q3⟩
def Lg(r r':R2)(ta tb tc:TE):TE:=λY H Q=>ta Y H λx H1=>tb Y H1 λy H2=>r x y H2 λz H3=>∃k,z=.bl k/\
 (if k=true then tc Y H3 λw' H4=>r' y w' H4 Q else Q (.bl false) H3)
def NI{op XY:CmpOp}(ho:xk X (compareOp op) r)(XJ:xk X (compareOp XY) r')(ha:PE X a ta)(hb:PE X b tb)(hc:PE X c tc) (hm:lastMarks [op,XY] [b,c]=false:=by with_unfolding_all rfl):PE X (.Compare a [op,XY] [b,c] pos) (Lg r r' ta tb tc):=by
 intro W5 s Y H Q I h;refine Compare_chain (sf (ha W5 s Y H _ I h) λv s1 zz=>x5 zz λx H1 I1 r1 q1=>chain_link (sf (hb W5 s1 Y H1 _ I1 q1) λu s2 zz=>x5 zz λy H2 I2 r2 q2=>
  sf (ho W5 s2 Y H2 x y v u _ I2 r1 r2 q2) λd s3 zz=>?_)) hm
 obtain⟨z,H3,I3,r3,k,e,q3⟩:=zz;subst e;cases r3;refine fj ?_;cases k with
 | false=>exact ite_ff ⟨.bl false,H3,I3,rfl,q3⟩
 | true=>exact ite_tt (chain_last (sf (hc W5 s3 Y H3 _ I3 q3) λw' s4 zz=>x5 zz λz' H4 I4 r4 q4=>XJ W5 s4 Y H4 y z' u w' Q I4 r2 r4 q4))
def Me{op XY:CmpOp}(ho:xk X (compareOp op) r)(XJ:xk X (compareOp XY) r')(ha:PE X a ta)(hb:PE X b tb)(hc:PE X c tc) (hm:lastMarks [op,XY] [b,c]=false:=by with_unfolding_all rfl):PT X (.Compare a [op,XY] [b,c] pos) (QX (Lg r r' ta tb tc)):=by
 intro W5 s Y H Q I h;refine isTrue_chain (sf (ha W5 s Y H _ I h) λv s1 zz=>x5 zz λx H1 I1 r1 q1=>test_link (sf (hb W5 s1 Y H1 _ I1 q1) λu s2 zz=>x5 zz λy H2 I2 r2 q2=>
  sf (ho W5 s2 Y H2 x y v u _ I2 r1 r2 q2) λd s3 zz=>?_)) hm
 obtain⟨z,H3,I3,r3,k,e,q3⟩:=zz;subst e;cases r3;refine fj ?_;cases k with
 | false=>obtain⟨k',e',q'⟩:=q3;cases e';exact ite_ff ⟨H3,I3,q'⟩
 | true=>refine ite_tt (test_last (sf (hc W5 s3 Y H3 _ I3 q3) λw' s4 zz=>x5 zz λz' H4 I4 r4 q4=>sf (XJ W5 s4 Y H4 y z' u w' _ I4 r2 r4 q4) λd' s5 zz=>?_));obtain⟨z2,H5,I5,r5,k2,e2,q5⟩:=zz;subst e2;cases r5;exact fj ⟨H5,I5,q5⟩
def yy:(sizeLine:Nat)<2 ^ 63:=by rw[dH];decide
def HA:xk X (binaryOp .Add) (λx y H Q=>∃i j,x=.str i/\y=.str j/\i.length+j.length<=sizeLine/\Q (.str (i++j)) H):=by intro W5 s Y H x y v u Q I rx ry h;obtain⟨i,j,rfl,rfl,hz,q⟩:=h;obtain⟨t,rfl⟩:=rx;obtain⟨t',rfl⟩:=ry;exact add_str (λt' tk=>⟨.str (i++j),H,I.tok _,⟨_,rfl⟩,q⟩) hz
def ye{x:V}(r:qx [x] us):∃u,us=[u]/\qC x u:=by
 cases r with
 | cons r1 r2=>cases r2;exact⟨_,rfl,r1⟩
def M7{x y:V}(r:qx [x,y] us):∃u w',us=[u,w']/\qC x u/\qC y w':=by
 cases r with
 | cons r1 r2=>
  cases r2 with
  | cons r3 r4=>cases r4;exact⟨_,_,rfl,r1,r3⟩
def Kf(hc:X.calm=true):yl X (.builtin "max") (λxs H Q=>∃i j,xs=[.int i,.int j]/\Q (.int (if j>i then j else i)) H):=by
 intro W5 s Y H xs us Q I r h;obtain⟨i,j,rfl,q⟩:=h;obtain⟨u,w',rfl,⟨t,rfl⟩,⟨t',rfl⟩⟩:=M7 r;refine max_two_ints (I.ok.hd hc) λh' tk k=>⟨_,H,I.kept k,?_,q⟩;by_cases hj:j>i
 .rw[cZ hj,cZ hj];exact⟨_,rfl⟩
 .rw[cX hj,cX hj];exact⟨_,rfl⟩
def JS(hc:X.calm=true):yl X (.builtin "min") (λxs H Q=>∃i j,xs=[.int i,.int j]/\Q (.int (if j<i then j else i)) H):=by
 intro W5 s Y H xs us Q I r h;obtain⟨i,j,rfl,q⟩:=h;obtain⟨u,w',rfl,⟨t,rfl⟩,⟨t',rfl⟩⟩:=M7 r;refine min_two_ints (I.ok.hd hc) λh' tk k=>⟨_,H,I.kept k,?_,q⟩;by_cases hj:j<i
 .rw[cZ hj,cZ hj];exact⟨_,rfl⟩
 .rw[cX hj,cX hj];exact⟨_,rfl⟩
end
structure Im(h:Heap)(x dx C:Addr)(mA:QQZ):Prop where
 obj:h.get? x=some (W.instObj C dx)
 ns:h.Ns1 dx mA
 ne:dx≠x
def JV{h:Heap}{dx:Addr}{mA:QQZ}(n:h.Ns1 dx mA):∃od,h.get? dx=some od/\∀name,W.lookIn name od=some (mA name):=by
 obtain⟨o,es,ep,ho,hd,hk,_,hm⟩:=n;refine⟨o,ho,λname=>?_⟩;have e:=hm name;unfold nsFind findBy at e;rw[<-kK]at e;unfold W.lookIn;rw[hd];dsimp only;split
 .rename_i y q;rw[q]at e;exact eO some e
 .rename_i q;rw[q]at e;have a:es.toList.any (·.refKey)=false:=by rw[kZ];intro y hy;obtain⟨z,t,hkey⟩:=hk y (ke.mp hy);simp[DictEntry.refKey,hkey]
  have a':¬es.toList.any (·.refKey)=true:=by rw[a];exact dw
  rw[cX a'];exact eO some e
def Im.look(I:Im h x dx C mA):∃od,W.InstAt h x (W.instObj C dx) C (some od)/\∀name,W.lookIn name od=some (mA name):=
 let⟨od,ho,hl⟩:=JV I.ns
 ⟨od,⟨I.obj,rfl,rfl,ho⟩,hl⟩
variable {prog:Pg}{A:Ar}{K:qh}{dx C:Addr}{mA:QQZ}{name:Str}
section
variable {w:Wo}{E:QQX}{x f:Addr}{v:Vl}
def Od{ZN:Bool}{Q:QQX}(X:K.In s.heap)(I:Im s.heap x dx C mA)(hg:W.plainGet K C name=true)(hh:W.hasDictIn K C=true) (ha:W.findIn K (.ref C) name=some none) (hv:mA name=some v) (hv':W.handedIn v=true) (h:Q v {s with toks:=s.toks+1}):
  wpAny (model prog w) A (getAttr (.ref x) name ZN) Q E s:=by
 obtain⟨od,J,hl⟩:=I.look;exact W.get_value X J (kq hg).1 (W.findObj_own hh ha rfl (by rw[hl,hv])) hv' h
def NF{pl:Sem Bool}{Q:Vl×T0 Vl->Sd->Prop}(X:K.In s.heap)(I:Im s.heap x dx C mA)(hg:W.plainGet K C name=true) (hf:W.findIn K (.ref C) name=some (some (.ref f))) (ht:W.isFn K (.ref f)=true) (hv:mA name=none) (h:Q (.ref f,[.ref x]) s):
  wpAny (model prog w) A (getMethod (.ref x) name pl) Q E s:=by
 obtain⟨od,J,hl⟩:=I.look;exact W.method_fn X J (kq hg).1 (kq hg).2 hf (fh.mp ht) (by show(W.lookIn name od).map (·.isSome)=some false;rw[hl,hv];rfl) h
def Qt{Q:Unit->Sd->Prop}(X:K.In s.heap)(I:Im s.heap x dx C mA) (hs:W.findIn K (.ref C) "__setattr__"=some (some (.builtin "object.__setattr__"))) (hp:W.plainOver K C=true) (ht:W.takerIn K C name=some none) (hh:W.hasDictIn K C=true) (hw:PySem.Within mA ns) (hsz:ns.length<=sizeLine) (h:∀h',Im h' x dx C (λy=>if y=name then some v else mA y)->Heap.SameBut dx s.heap h'->Q () {s with heap:=h',toks:=s.toks+2}):
  wpAny (model prog w) A (setAttr (.ref x) name v) Q E s:=by
 obtain⟨od,J,hl⟩:=I.look;refine W.set_plain X J hs (W.osa_open (s:={s with toks:=s.toks+1}) (r:=none) X J hp ht λb=>?_);obtain⟨cd,hc,hd'⟩:=W.any_some hh;have hx:s.heap.get? x=some ⟨.ref C,some dx,.plain,#[]⟩:=I.obj;refine cT (c9 (cT (cT (wpAny_loadPart hx (cT (mf (s:={s with toks:=s.toks+1}) (kr X hc) ?_))))));rw[hd'];refine c9 (a:=some dx) (cT (c9 (cT ?_)));refine wpAny_nsSet1 (s:={s with toks:=s.toks+1}) I.ns λh' ZO Yg=>?_;obtain⟨oD,esD,epD,hoD,CQ,hcD⟩:=ZO.count (PySem.Within.cons name v hw);refine cT (lE hoD (by rw[CQ];exact lF (dW hcD (by rw[eh];omega))) ?_);exact c9 (h _ ⟨(Yg.2 _ (dI I.ne)).trans I.obj,ZO,I.ne⟩ Yg)
def Ny{vs:T0 Vl}{kw:T0 (Str×Vl)}(X:K.In s.heap)(hm:W.makesIn K C=true) (hi:W.findIn K (.ref C) "__init__"=some (some (.ref f))) (hf:W.typeIn K (.ref f)=some (.type "function")) (h:codeAny (model prog w) (A.under (.builtin "type.__call__" ⟨.ref C::vs,kw⟩)) (.call (.ref f) ⟨.ref (s.heap.objs.size+1)::vs,kw⟩) (W.InitBack (s.heap.objs.size+1) R) {s with heap:=(s.heap.push W.emptyDict).push (W.instObj C s.heap.objs.size)}):
  codeAny (model prog w) A (.call (.ref C) ⟨vs,kw⟩) R s:=by
 obtain⟨hh,g,d,t,os⟩:=s;exact W.make_core (W.makes_of X hm) (ja X hi) (λself=>W.bind_fn X self hf) (.inl rfl) h
end
def vm(f:Str)(v:V):T0 (Str×V)->T0 (Str×V)
 | []=>[(f,v)]
 | (g,x)::r=>if g=f then(g,v)::r else(g,x)::vm f v r
theorem Am(f g:Str)(v:V):∀fs:T0 (Str×V),(vm f v fs).lookup g=if g=f then some v else fs.lookup g
 | []=>by
  show List.lookup g [(f,v)]=_;by_cases h:g=f
  .have hb:(g==f)=true:=fh.mpr h;simp only[List.lookup,hb,cZ h]
  .have hb:(g==f)=false:=gp.mpr h;simp only[List.lookup,hb,cX h]
 | (k,x)::r=>by
  have ih:=Am f g v r;rw[show vm f v ((k,x)::r)=(if k=f then(k,v)::r else(k,x)::vm f v r)from rfl];by_cases hk:k=f
  .rw[cZ hk];by_cases h:g=k
   .have hb:(g==k)=true:=fh.mpr h;simp only[List.lookup,hb,cZ (h.trans hk)]
   .have hb:(g==k)=false:=gp.mpr h;simp only[List.lookup,hb,cX (λe:g=f=>h (e.trans hk.symm))]
  .rw[cX hk];by_cases h:g=k
   .have hb:(g==k)=true:=fh.mpr h;simp only[List.lookup,hb,cX (λe:g=f=>hk (h.symm.trans e))]
   .have hb:(g==k)=false:=gp.mpr h;simp only[List.lookup,hb];exact ih
theorem zO(f:Str)(v:V):∀fs:T0 (Str×V),f∈(vm f v fs).map (·.1)/\∀g,g∈fs.map (·.1)->g∈(vm f v fs).map (·.1)
 | []=>⟨by simp[vm],λg h=>by simp at h⟩
 | (k,x)::r=>by
  obtain⟨i1,i2⟩:=zO f v r;rw[show vm f v ((k,x)::r)=(if k=f then(k,v)::r else(k,x)::vm f v r)from rfl];by_cases hk:k=f
  .rw[cZ hk];subst hk;exact⟨by simp,λg h=>by simpa using h⟩
  .rw[cX hk];refine⟨?_,λg h=>?_⟩
   .rw[dR];exact dA _ i1
   .rw[dR]at h ⊢;rcases de.mp h with e|e
    .exact de.mpr (.inl e)
    .exact dA _ (i2 g e)
theorem Az(f:Str)(v:V):∀fs:T0 (Str×V),(vm f v fs).length<=fs.length+1
 | []=>by simp[vm]
 | (k,x)::r=>by
  have ih:=Az f v r;rw[show vm f v ((k,x)::r)=(if k=f then(k,v)::r else(k,x)::vm f v r)from rfl];by_cases hk:k=f
  .rw[cZ hk,eh,eh];omega
  .rw[cX hk,eh,eh];omega
def x9.some_of{v:V}(r:x9 (some v) o):∃u,o=some u/\qC v u:=by
 cases o with
 | none=>exact(show False from r).elim
 | some u=>exact⟨u,rfl,r⟩
def x9.none_of{o:Option Vl}(r:x9 none o):o=none:=by
 cases o with
 | none=>rfl
 | some u=>exact(show False from r).elim
def JQ{u:Vl}(r:qC v u):W.handedIn u=true:=by
 cases v with
 | mG=>cases(show u=Value.none from r);rfl
 | bl b=>cases(show u=Value.bool b from r);rfl
 | int i=>obtain⟨t,e⟩:=(show ∃t,u=Value.int i t from r);cases e;rfl
 | str x=>obtain⟨t,e⟩:=(show ∃t,u=Value.str x t from r);cases e;rfl
 | byt b=>obtain⟨t,e⟩:=(show ∃t,u=Value.bytes b t from r);cases e;rfl
 | flt b=>obtain⟨t,e⟩:=(show ∃t,u=Value.float b t from r);cases e;rfl
 | ref a=>cases(show u=Value.ref a from r);rfl
 | ty n=>cases(show u=Value.type n from r);rfl
section
variable {P:Pg}{w:Wo}{a:Addr}{fs fs':T0 (Str × V)}
def EO(mM:yc P w H h)(e:H a=some (.ins C dx fs)):∃mA,Im h a dx C mA/\(∀f,x9 (fs.lookup f) (mA f))/\PySem.Within mA (fs.map (·.1))/\fs.length<=1000/\H dx=some (.own a):=by obtain⟨d,z,ne,ob,mA,n,r,q⟩:=(show sJ P w H h a (.ins C dx fs)from mM a _ e);exact⟨mA,⟨ob,n,ne⟩,r,q,z,d⟩
end
structure Cls(K:qh)(C:Addr):Prop where
 pg:W.plainGet K C Str.empty=true
 hd:W.hasDictIn K C=true
 po:W.plainOver K C=true
 sa:W.findIn K (.ref C) "__setattr__"=some (some (.builtin "object.__setattr__"))
def Cls.get{K:qh}(c:Cls K C)(f:Str):W.plainGet K C f=true:=c.pg
def tZ(K:qh)(C:Addr)(f:Str):Prop:=W.findIn K (.ref C) f=some none
def tZ.oM{K:qh}(n:tZ K C f):W.takerIn K C f=some none:=by unfold W.takerIn;rw[show W.findIn K (.ref C) f=some none from n];rfl
structure W4(K:qh)(C:Addr)(f:Str)(v:V)(u:Vl):Prop where
 at_:W.findIn K (.ref C) f=some (some u)
 rel:qC v u
 get:W.specialIn K u "__get__"=some none
 cp:W.copiedNames.contains f=false
structure vk(K:qh)(C:Addr)(m:Str)(f:Addr):Prop where
 at_:W.findIn K (.ref C) m=some (some (.ref f))
 fn:W.isFn K (.ref f)=true
 kp:W.keepIn K (.ref f)=true
section
variable {Y:St}{a:Addr}{fs:T0 (Str × V)}{f:Str}{v:V}{E:QQX}
def Cd{b:Bool}{Q:QQX}(I:Inv X W5 Y H s)(e:H a=some (.ins C dx fs))(c:Cls X.K C)(n:tZ X.K C f)(l:fs.lookup f=some v) (h:∀u s',Inv X W5 Y H s'->qC v u->Q u s'):wpAny (model X.prog X.w) A (getAttr (.ref a) f b) Q E s:=by
 obtain⟨mA,O,r,_,_,_⟩:=EO I.mM e;obtain⟨u,hu,ru⟩:=x9.some_of (v:=v) (o:=mA f) (by rw[<-l];exact r f);exact Od I.nj O (c.get f) c.hd n hu (JQ ru) (h u _ (I.tok _) ru)
def BZ{pl:Sem Bool}{Q:Vl×T0 Vl->Sd->Prop}(I:Inv X W5 Y H s)(e:H a=some (.ins C dx fs))(c:Cls X.K C)(k:vk X.K C m g)(l:fs.lookup m=none) (h:Q (.ref g,[.ref a]) s):wpAny (model X.prog X.w) A (getMethod (.ref a) m pl) Q E s:=by
 obtain⟨mA,O,r,_,_,_⟩:=EO I.mM e;have hn:mA m=none:=x9.none_of (by rw[<-l];exact r m);exact NF I.nj O (c.get m) k.at_ k.fn hn h
def Cp{u:Vl}{Q:Unit->Sd->Prop}(I:Inv X W5 Y H s)(e:H a=some (.ins C dx fs))(c:Cls X.K C)(n:tZ X.K C f)(hl:fs.length<1000)(ry:qC y u) (h:∀s',Inv X W5 Y (upd H a (.ins C dx (vm f y fs))) s'->Q () s'):wpAny (model X.prog X.w) A (setAttr (.ref a) f u) Q E s:=by
 obtain⟨mA,O,r,wi,_,ho⟩:=EO I.mM e;have hz:(fs.map (·.1)).length<=sizeLine:=by rw[cS,dH];omega
 refine Qt I.nj O c.sa c.po n.oM c.hd wi hz λh' O' sb=>h _ ?_;have hd:∃o,h'.get? dx=some o:=let⟨o,_,_,e',_⟩:=O'.ns;⟨o,e'⟩;refine I.write (x:=a) (e:=dx) (by rw[e];exact True.intro) (.inr ho) (λb q hb z=>(sb.2 b hb).trans z) hd ?_;refine⟨by rw[pQ O.ne];exact ho,?_,O.ne,O'.obj,_,O'.ns,λg=>?_,λg hg=>?_⟩
 .have:=Az f y fs;omega
 .show x9 ((vm f y fs).lookup g) (if g=f then some u else mA g);rw[Am];by_cases q:g=f
  .rw[cZ q,cZ q];exact ry
  .rw[cX q,cX q];exact r g
 .by_cases q:g=f
  .rw[q];exact(zO f y fs).1
  .refine(zO f y fs).2 g (wi g λz=>hg ?_);show(if g=f then some u else mA g)=none;rw[cX q];exact z
def Inv.made(I:Inv X W5 Y H s):Inv X W5 Y (upd (upd H s.heap.objs.size (.own (s.heap.objs.size+1))) (s.heap.objs.size+1) (.ins C s.heap.objs.size [])) {s with heap:=(s.heap.push W.emptyDict).push (W.instObj C s.heap.objs.size)}:=by
 have e1:(s.heap.push W.emptyDict).get? s.heap.objs.size=some W.emptyDict:=dE s.heap rfl;have e2:((s.heap.push W.emptyDict).push (W.instObj C s.heap.objs.size)).get? (s.heap.objs.size+1)=some (W.instObj C s.heap.objs.size):=by
  have:=dE (s.heap.push W.emptyDict) (o:=W.instObj C s.heap.objs.size) rfl
  rwa [ft]at this
 have e3:(s.heap.push W.emptyDict).Ns s.heap.objs.size (λ_=>none):=⟨W.emptyDict,#[],_,e1,rfl,(λe he=>absurd he (by simp)),λ_=>rfl⟩;have I1:=I.laid (a:=s.heap.objs.size) (o:=.own (s.heap.objs.size+1)) (h':=s.heap.push W.emptyDict) (t':=s.toks) (λb u q=>cY _ q) (dg _) ⟨_,e1⟩;refine I1.laid (a:=s.heap.objs.size+1) (o:=.ins C s.heap.objs.size []) (t':=s.toks) (λb u q=>cY _ q) (mh (ft _ _)) ?_;have ne:s.heap.objs.size≠s.heap.objs.size+1:=dC (fv _);refine⟨by rw[pQ ne,qa],eD _,ne,e2,λ_=>none,(k9 e3).at λo q=>cY _ q,λ_=>True.intro,λy hy=>absurd rfl hy⟩
def IB{prog:Pg}{w:Wo}{env:Env}{e:Expr}{f:Str}{s:Sd}{Q:QQX}(hb:attributeBase e f env (eval e env)=eval e env) (h:wpAny (model prog w) A (eval e env) (λo s₁=>wpAny (model prog w) A (getAttr o f true) Q E s₁) E s):wpAny (model prog w) A (eval (.Attribute e f pos) env) Q E s:=
 Attribute_any_ h (by rw[arm_eval_Attribute,hb])
end
def VE(K:qh)(ta:TE)(f:Str):TE:=λY H Q=>ta Y H λx H1=>∃a C dx fs v,x=.ref a/\H1 a=some (.ins C dx fs)/\Cls K C/\tZ K C f/\fs.lookup f=some v/\Q v H1
def V8(K:qh)(ta tv:TE)(f:Str):TS:=λD Y H=>tv Y H λy H1=>ta Y H1 λx H2=>∃a C dx fs,x=.ref a/\H2 a=some (.ins C dx fs)/\Cls K C/\tZ K C f/\fs.length<1000/\
 D.nx Y (upd H2 a (.ins C dx (vm f y fs)))
def QD(X:Cx)(op:Operator)(rd:V->V->Hp->VK->Prop):Prop:=
 ∀(W5:QQY) (s:Sd) (Y:St) (H:Hp) (x y:V) (u v:Vl) (Q:VK),Inv X W5 Y H s->qC x u->qC y v->rd x y H Q->wpAny (model X.prog X.w) X.A (inplaceOp op u v) (EP X W5 Y Q) X.xe s
def Qb(K:qh)(ta tv:TE)(rd:V->V->Hp->VK->Prop)(f:Str):TS:=λD Y H=>ta Y H λx H1=>∃a C dx fs v,x=.ref a/\H1 a=some (.ins C dx fs)/\Cls K C/\tZ K C f/\fs.lookup f=some v/\
 tv Y H1 λy H2=>rd v y H2 λz H3=>∃ZP fs',H3 a=some (.ins C ZP fs')/\fs'.length<1000/\D.nx Y (upd H3 a (.ins C ZP (vm f z fs')))
variable {value:Expr}{Xh Zd:Pos}{tv:TE}
section
variable {o e:Expr}{f:Str}
def Sb(he:PE X e ta)(hb:attributeBase e f X.env (eval e X.env)=eval e X.env):PE X (.Attribute e f pos) (VE X.K ta f):=by intro W5 s Y H Q I h;refine IB hb (sf (he W5 s Y H _ I h) λu s1 zz=>?_);obtain⟨x,H1,I1,rx,a,C,dx,fs,v,ex,ea,c,n,l,q⟩:=zz;subst ex;obtain rfl:u=Value.ref a:=rx;exact Cd I1 ea c n l λu' s2 I2 ru=>⟨v,H1,I2,ru,q⟩
def SX(ha:PE X o ta)(hv:PE X value tv)(hs:swapsWith value (some (.Attribute o f Xh)) pos.line X.env=pure false):PS X (.Assign [.Attribute o f Xh] value pos) (V8 X.K ta tv f):=by intro W5 s Y H D I h;refine iM (sf (hv W5 s Y H _ I h) λu s1 zz=>x5 zz λy H1 I1 ry q=>sf (ha W5 s1 Y H1 _ I1 q) λov s2 zz=>?_) hs;obtain⟨x,H2,I2,rx,a,C,dx,fs,ex,ea,c,n,l,q2⟩:=zz;subst ex;obtain rfl:ov=Value.ref a:=rx;exact Cp I2 ea c n l ry λs3 I3=>⟨Y,_,I3,q2⟩
def KP(ha:PE X o ta)(hv:PE X value tv)(hop:QD X op rd):PS X (.AugAssign (.Attribute o f Zd) op value pos) (Qb X.K ta tv rd f):=by intro W5 s Y H D I h;refine wpAny_AugAssign_AttributeAny (sf (ha W5 s Y H _ I h) λov s1 zz=>?_);obtain⟨x,H1,I1,rx,a,C,dx,fs,v,ex,ea,c,n,l,q⟩:=zz;subst ex;obtain rfl:ov=Value.ref a:=rx;refine Cd I1 ea c n l λu s2 I2 ru=>sf (hv W5 s2 Y H1 _ I2 q) λw3 s3 zz=>x5 zz λy H2 I3 ry q3=>sf (hop W5 s3 Y H2 v y u w3 _ I3 ru ry q3) λw4 s4 zz=>?_;obtain⟨z,H3,I4,rz,ZP,fs',ea',l',q4⟩:=zz;exact Cp I4 ea' c n l' rz λs5 I5=>⟨Y,_,I5,q4⟩
def VX:V->V->Hp->VK->Prop:=λx y H Q=>∃i j,x=.int i/\y=.int j/\Q (.int (i+j)) H
def Wt:V->V->Hp->VK->Prop:=λx y H Q=>∃i j,x=.int i/\y=.int j/\Q (.int (i - j)) H
def SW:QD X .Add VX:=by
 rintro W5 s Y H x y u v Q I rx ry ⟨i,j,rfl,rfl,q⟩
 obtain⟨t,rfl⟩:=(show ∃t,u=Value.int i t from rx);obtain⟨t',rfl⟩:=(show ∃t',v=Value.int j t' from ry);exact PyProof.Rows.iadd_int ⟨.int (i+j),H,I.tok _,⟨_,rfl⟩,q⟩
def RT:QD X .Sub Wt:=by
 rintro W5 s Y H x y u v Q I rx ry ⟨i,j,rfl,rfl,q⟩
 obtain⟨t,rfl⟩:=(show ∃t,u=Value.int i t from rx);obtain⟨t',rfl⟩:=(show ∃t',v=Value.int j t' from ry);exact PyProof.Rows.isub_int ⟨.int (i - j),H,I.tok _,⟨_,rfl⟩,q⟩
end
variable {Q:QQX}
section
variable {Y:St}{E:QQX}{c:Vl}{b:Bool}
inductive Cb(K:qh)(H:Hp):V->Vl->Prop where
 | mG:Cb K H .mG (.type "NoneType")
 | bl (x:Bool):Cb K H (.bl x) (.type "bool")
 | int (i:Int):Cb K H (.int i) (.type "int")
 | str (x:Str):Cb K H (.str x) (.type "str")
 | flt (x:UInt64):Cb K H (.flt x) (.type "float")
 | lst {a:Addr} {xs:List V} (e:H a=some (.lst xs)):Cb K H (.ref a) (.type "list")
 | frz {a:Addr} {o:Obj} {xs:List V} (e:H a=some (.frz o (.lst xs))):Cb K H (.ref a) (.type "list")
 | tup {a:Addr} {xs:List V} (e:H a=some (.tup xs)):Cb K H (.ref a) (.type "tuple")
 | dK {a:Addr} {kvs:List (qS×V)} (e:H a=some (.dK kvs)):Cb K H (.ref a) (.type "dict")
 | dT {a:Addr} {kvs:List (List qS×V)} (e:H a=some (.dT kvs)):Cb K H (.ref a) (.type "dict")
 | ins {a C dx:Addr} {fs:List (Str×V)} (e:H a=some (.ins C dx fs)) (cl:Cls K C) (ha:W.findIn K (.ref C) "__class__"=some (some (.builtin "object.__class__")))
   (hn:W.specialIn K (.builtin "object.__class__") "__get__"=some (some (.builtin "getset_descriptor.__get__"))) (htk:W.takesIn K (.builtin "object.__class__")=some true)
   (hm:W.mroIn K C (.type "object")=some true):Cb K H (.ref a) (.ref C)
end
structure rO(k:Nat)(A:Ar):Prop where
 hd:A.handled=none
 dp:A.depth+3*k+5<recursionLimit
 un:A.units+16*k+200<cLine
def rO.mono{j k:Nat}(r:rO k A)(h:j<=k):rO j A:=⟨r.hd,by have:=r.dp;omega,by have:=r.un;omega⟩
def rO.deeper{k:Nat}(r:rO (k+1) A)(env:Env):rO k (A.deeper env):=
 ⟨r.hd,by have:=r.dp;show A.depth+1+3*k+5<_;omega,by have:=r.un;show A.units+3+16*k+200<_;omega⟩
def HR{A:Ar}{C:Addr}{us:T0 Vl}{kw:T0 (Str×Vl)}:(A.under (.builtin "type.__call__" ⟨.ref C::us,kw⟩)).depth=A.depth+1:=by first|rfl|simp[Around.under,Code.weight,Code.isCreation,Code.isGuard,Code.isCaller,Code.frames,Code.isFrame,guardIds]
def HY{A:Ar}{C:Addr}{us:T0 Vl}{kw:T0 (Str×Vl)}:(A.under (.builtin "type.__call__" ⟨.ref C::us,kw⟩)).units=A.units+1:=by first|rfl|simp[Around.under,Code.cUnits,Code.frames,Code.isFrame]
def rO.make{k:Nat}(r:rO (k+1) A)(C:Addr)(us:T0 Vl)(kw:T0 (Str×Vl)):rO k (A.under (.builtin "type.__call__" ⟨.ref C::us,kw⟩)):=
 ⟨r.hd,by have:=r.dp;rw[HR];omega,by have:=r.un;rw[HY];omega⟩
def rO.depth(r:rO k A):A.depth<recursionLimit:=by have:=r.dp;omega
def rO.units(r:rO k A):A.units+64<cLine:=by have:=r.un;omega
def Tz:TA:=λ_ H Q=>Q [] H
def U0(ta:TE)(tr:TA):TA:=λY H Q=>ta Y H λx H1=>tr Y H1 λxs H2=>Q (x::xs) H2
variable {es:T0 Expr}
section
variable {e:Expr}{t:TA}
def R6:PA X [] Tz:=λ_ _ _ _ H Q I h=>iC ⟨[],H,I,.nil,h⟩
def P0(ha:PE X e te)(hr:PA X es t)(hs:A7 X e es:=by rfl):PA X (e::es) (U0 te t):=by intro pos W5 s Y H Q I h;rw[hs];show wpAny _ _ (spliced ((false,eval e X.env)::backTo pos (starEach es X.env))) _ _ s;refine ik (sf (ha W5 s Y H _ I h) λu s1 zz=>x5 zz λx H1 I1 r1 q1=>?_);exact sf (hr pos W5 s1 Y H1 _ I1 q1) λus s2 zz=>x5 zz λxs H2 I2 r2 q2=>⟨x::xs,H2,I2,.cons r1 r2,q2⟩
def VZ(t:TA):TE:=λY H Q=>t Y H λxs H1=>xs.length<=sizeLine/\∀p,H1 p=none->Q (.ref p) (upd H1 p (.tup xs))
def Wu(t:TA):TE:=λY H Q=>t Y H λxs H1=>xs.length<=sizeLine/\∀p,H1 p=none->Q (.ref p) (upd H1 p (.lst xs))
def SS{x1}(h:PA X es t):PE X (.Tuple es x1 pos) (VZ t):=by intro W5 s Y H Q I hq;refine wpAny_Tuple_spliced (sf (h pos W5 s Y H _ I hq) λus s1 ⟨xs,H1,I1,r,z,q⟩=>⟨by rw[<-r.length];exact z,?_⟩);have hf:H1 s1.heap.objs.size=none:=I1.mM.fresh (dg _);refine⟨.ref s1.heap.objs.size,upd H1 s1.heap.objs.size (.tup xs),I1.laid (t':=s1.toks) (λb u e=>cY _ e) (dg _) ?_,rfl,q _ hf⟩;exact⟨z,us,r,⟨_,dE _ rfl,rfl,⟨_,rfl⟩,rfl⟩⟩
def Rl(h:PA X es t):PE X (.List es pos) (Wu t):=by intro W5 s Y H Q I hq;refine wpAny_List_spliced (sf (h pos W5 s Y H _ I hq) λus s1 ⟨xs,H1,I1,r,z,q⟩=>⟨by rw[<-r.length];exact z,?_⟩);have hf:H1 s1.heap.objs.size=none:=I1.mM.fresh (dg _);refine⟨.ref s1.heap.objs.size,upd H1 s1.heap.objs.size (.lst xs),I1.laid (t':=s1.toks) (λb u e=>cY _ e) (dg _) ?_,rfl,q _ hf⟩;exact⟨z,us,0,r,dE _ rfl⟩
end
abbrev Sp:=T0 V->Hp->VK->XK->Prop
abbrev KQ:=T0 Env->Hp->Sd->XK->Vl->Sd->Prop
structure Io(P:Pg)(w:Wo)(K:qh)(mg:QQZ)(base:Heap)(A:Ar)(outer:List Env)(s:Sd)(H:Hp):Prop where
 frames:A.frames=some outer
 mod:Mod K mg base
 bs:∀b o,base.get? b=some o->s.heap.get? b=some o/\H b=none
 nV:base.objs.size<=s.heap.objs.size
 ny:s.heap.FunFrames base outer
 n9:∀b∈vS outer,H b=none
 mM:yc P w H s.heap
 bare:AllBare s.gens
def CE(outer:T0 Env)(P:Pg)(w:Wo)(H:Hp)(s:Sd)(Q:VK)(u:Vl)(s':Sd):Prop:=
 ∃v H',s'.os=s.os/\AllBare s'.gens/\Un (vS outer) [] H H' s.heap s'.heap/\yc P w H' s'.heap/\qC v u/\Q v H'
def CR(CX:KQ)(outer:T0 Env)(P:Pg)(w:Wo)(H:Hp)(s:Sd)(Q:VK)(E:XK)(r:Result)(s':Sd):Prop:=
 match r with
 | .ok (.ret u)=>CE outer P w H s Q u s'
 | .ok _=>False
 | .error e=>CX outer H s E e s'
structure wZ(P:Pg)(w:Wo)(K:qh)(mg:QQZ)(base:Heap)(CX:KQ)(k:Nat)(f:Addr)(fd:FuncData)(ps:QQQ)(sp:Sp):Prop where
 len:∀vs H Q E,sp vs H Q E->vs.length=ps.length
 run:∀(A:Ar) (outer:List Env) (s:Sd) (H:Hp) (args:Args) (us:List Vl) (vs:List V) (Q:VK) (E:XK),rO k A->Io P w K mg base A outer s H->BindsTo s fd args (ps.zip us)->qx vs us->sp vs H Q E->
  codeAny (model P w) A (.call (.ref f) args) (CR CX outer P w H s Q E) s
def Io.make{K:qh}(e:Io P w K mg base A outer s H)(C:Addr)(us:T0 Vl)(kw:T0 (Str×Vl)):
  Io P w K mg base (A.under (.builtin "type.__call__" ⟨.ref C::us,kw⟩)) outer s H:=⟨by first|exact e.frames|(simpa [Around.under,Code.envs,Code.isFrame,pushEnvs]using e.frames),e.mod,e.bs,e.nV,e.ny,e.n9,e.mM,e.bare⟩
variable {s':Sd}
section
variable {Y:St}
def Inv.nX(I:Inv X W5 Y H s):Io X.prog X.w X.K X.mg X.base X.A X.stack s H:=
 ⟨I.ok.frames,I.ok.mod,I.bs,dW I.ok.nV I.sz,I.stack,I.nB,I.mM,I.bare⟩
def Inv.after{Q:VK}{u:Vl}(I:Inv X W5 Y H s)(h:CE X.stack X.prog X.w H s Q u s'):EP X W5 Y Q u s':=by obtain⟨v,H',os,bare,un,mM,r,q⟩:=h;obtain⟨hh,g,d,t,ZQ⟩:=s';obtain rfl:ZQ=s.os:=os;exact⟨v,H',I.call (h':=hh) (g':=g) (d':=d) (t':=t) (ch:=[]) un mM bare (λb z=>absurd z (by simp)),r,q⟩
end
def UE(sp:Sp)(XT:T0 V)(E:XK)(t:TA):TE:=λY H Q=>t Y H λvs H1=>sp (vs++XT) H1 Q E
def Uw(C:Addr)(sp:Sp)(XT:T0 V)(E:XK)(t:TA):TE:=λY H Q=>t Y H λvs H1=>∀x dx,H1 x=none->H1 dx=none->dx≠x->
 sp (.ref x::(vs++XT)) (upd (upd H1 dx (.own x)) x (.ins C dx [])) (λv H2=>v=.mG/\Q (.ref x) H2) E
def uG(K:qh)(fd:FuncData)(ps:QQQ)(ds:T0 Vl):Prop:=
 ∀(s:Sd) (us:T0 Vl),K.In s.heap->(us++ds).length=ps.length->BindsTo s fd ⟨us,[]⟩ (ps.zip (us++ds))
def uG.all{K:qh}{fd:FuncData}{ps:QQQ}(h:∀us:T0 Vl,us.length=ps.length->bindArgs fd ⟨us,[]⟩=pure (ps.zip us)):uG K fd ps []:=λs us _ hl=>by rw[eY]at hl ⊢;exact .of_eq (h us hl)
def CC(CX:KQ)(X:Cx)(E:XK):Prop:=∀(W5:QQY) (Y:St) (H:Hp) (s:Sd) (e:Vl) (s':Sd),Inv X W5 Y H s->CX X.stack H s E e s'->X.xe e s'
variable {CX:KQ}{k:Nat}{fd:FuncData}{ps:QQQ}{sp:Sp}{XT:T0 V}{ds:T0 Vl}{m:Str}{p W8:Pos}
section
variable {f:Addr}{E:XK}{x:Str}{e o:Expr}{t:TA}
def EQ{W5:QQY}{Q:VK}(F:wZ X.prog X.w X.K X.mg X.base CX k f fd ps sp)(hr:rO k X.A)(hb:uG X.K fd ps ds)(hd:qx XT ds)(hx:CC CX X E) (I:Inv X W5 Y H s) (r:qx vs us) (h:sp (vs++XT) H Q E):wpAny (model X.prog X.w) X.A (call (.ref f) us) (EP X W5 Y Q) X.xe s:=by
 have r2:qx (vs++XT) (us++ds):=r.append hd;have hl:(us++ds).length=ps.length:=by rw[<-r2.length];exact F.len _ _ _ _ h
 refine hJ (gh (F.run X.A X.stack s H ⟨us,[]⟩ (us++ds) (vs++XT) Q E hr I.nX (hb s us I.nj hl) r2 h) λr s' hq=>?_);cases r with
 | error e=>exact hx W5 Y H s e s' I hq
 | ok fl=>
  cases fl with
  | ret u=>exact I.after hq
  | next=>exact False.elim hq
  | brk=>exact False.elim hq
  | cont=>exact False.elim hq
def Pl(F:wZ X.prog X.w X.K X.mg X.base CX k f fd ps sp)(hr:rO k X.A)(hg:Gl X x)(hm:X.mg x=some (.ref f))(hk:W.keepIn X.K (.ref f)=true)(hb:uG X.K fd ps ds)(hd:qx XT ds)(hx:CC CX X E) (ha:PA X (e::es) t) (Xp:zu x:=by decide) (he:A7 X e es:=by rfl) (Xl:CP X pos es:=by rfl):
  PE X (.Call (.Name x p) (e::es) [] pos) (UE sp XT E t):=by
 intro W5 s Y H Q I h;refine fP (wD I hg hm ?_ Xp);refine iN (h₀:=X.base) I.ok.mod.oi hk (sf (ha pos W5 s Y H _ I h) λus s1 zz=>x5 zz λvs H1 I1 r q=>⟨I1.nj,?_⟩) he Xl;exact EQ F hr hb hd hx I1 r q
structure Mk(K:qh)(C f:Addr):Prop where
 makes:W.makesIn K C=true
 init:W.findIn K (.ref C) "__init__"=some (some (.ref f))
 fn:W.isFn K (.ref f)=true
 kp:W.keepIn K (.ref C)=true
def MX{W5:QQY}{Q:VK}(M:Mk X.K C f)(F:wZ X.prog X.w X.K X.mg X.base CX k f fd ps sp)(hr:rO (k+1) X.A)(hb:uG X.K fd ps ds)(hd:qx XT ds) (hx:CC CX X E) (I:Inv X W5 Y H s) (r:qx vs us) (h:∀x dx,H x=none->H dx=none->dx≠x->sp (.ref x::(vs++XT)) (upd (upd H dx (.own x)) x (.ins C dx [])) (λv H2=>v=.mG/\Q (.ref x) H2) E):
  wpAny (model X.prog X.w) X.A (call (.ref C) us) (EP X W5 Y Q) X.xe s:=by
 have hq:=h (s.heap.objs.size+1) s.heap.objs.size (I.mM.fresh (gS _)) (I.mM.fresh (dg _)) (dC (fv _));have I2:=Inv.made (C:=C) I;have r2:qx (V.ref (s.heap.objs.size+1)::(vs++XT)) (Value.ref (s.heap.objs.size+1)::(us++ds)):=.cons rfl (r.append hd);have hl:(Value.ref (s.heap.objs.size+1)::us++ds).length=ps.length:=by have e:=r2.length;rw[F.len _ _ _ _ hq]at e;exact e.symm
 refine hJ (Ny (f:=f) I.nj M.makes M.init (fh.mp M.fn) (gh (F.run _ X.stack _ _ ⟨Value.ref (s.heap.objs.size+1)::us,[]⟩ (Value.ref (s.heap.objs.size+1)::(us++ds)) _ _ E (hr.make C us [])
  (I2.nX.make C us []) (hb _ (Value.ref (s.heap.objs.size+1)::us) I2.nj hl) r2 hq) λr s' YM=>?_))
 cases r with
 | error e=>exact hx W5 Y _ _ e s' I2 YM
 | ok fl=>
  cases fl with
  | ret u=>obtain⟨v,H',I3,rv,ev,q3⟩:=I2.after YM;subst ev;exact⟨rv,⟨V.ref (s.heap.objs.size+1),H',I3,rfl,q3⟩⟩
  | next=>exact False.elim YM
  | brk=>exact False.elim YM
  | cont=>exact False.elim YM
def OZ(M:Mk X.K C f)(F:wZ X.prog X.w X.K X.mg X.base CX k f fd ps sp)(hr:rO (k+1) X.A)(hg:Gl X x)(hm:X.mg x=some (.ref C))(hb:uG X.K fd ps ds)(hd:qx XT ds)(hx:CC CX X E) (ha:PA X (e::es) t) (Xp:zu x:=by decide) (he:A7 X e es:=by rfl) (Xl:CP X pos es:=by rfl):
  PE X (.Call (.Name x p) (e::es) [] pos) (Uw C sp XT E t):=by
 intro W5 s Y H Q I h;refine fP (wD I hg hm ?_ Xp);refine iN (h₀:=X.base) I.ok.mod.oi M.kp (sf (ha pos W5 s Y H _ I h) λus s1 zz=>x5 zz λvs H1 I1 r q=>⟨I1.nj,?_⟩) he Xl;exact MX M F hr hb hd hx I1 r q
end
variable {g:T0 Vl→T0 Vl→T0 Vl}{gV:T0 V→T0 V→T0 V}{ks:QQQ}{kpos:Pos}{kws:T0 Keyword}{tk:TA}{nm:Option Str}
section
variable {f:Addr}{E:XK}{x:Str}{e o:Expr}{t:TA}
structure VH(K:qh)(fd:FuncData)(ps ks:QQQ)(g:List Vl->List Vl->List Vl)(gV:List V->List V->List V):Prop where
 to:∀(s:Sd) (us ws:List Vl),K.In s.heap->(g us ws).length=ps.length->BindsTo s fd ⟨us,ks.zip ws⟩ (ps.zip (g us ws))
 rel:∀{vs:List V} {us:List Vl} {zs:List V} {ws:List Vl},qx vs us->qx zs ws->qx (gV vs zs) (g us ws)
end
structure sW(N P:QQQ)(sc:Scope):Prop where
 kind:sc.kind=.function
 co:sc.isCoroutine=false
 gen:sc.isGenerator=false
 nd:N.Nodup
 pre:N.take P.length=P
 par:∀x∈P,sc.names.lookup x=some .local\/sc.names.lookup x=some .cell
 oV:∀y∈sc.names,y.2≠.free
theorem DD{kindOf:Str->Option NameKind}{x:Str}:∀{binds:T0 (Str×Vl)} {m:QQZ},(∀v,(x,v)∉binds)->bindL kindOf binds m x=m x
 | [],_,_=>rfl
 | (n,v)::r,m,h=>by
  unfold bindL;rw[DD λw hw=>h w (dA _ hw)];split
  .have:x≠n:=by rintro rfl;exact h v dG
   simp[this]
  .rfl
theorem DW{kindOf:Str->Option NameKind}{x:Str}:∀{binds:T0 (Str×Vl)} {m:QQZ},(∀v,(x,v)∉binds)->bindC kindOf binds m x=m x
 | [],_,_=>rfl
 | (n,v)::r,m,h=>by
  unfold bindC;rw[DW λw hw=>h w (dA _ hw)];split
  .rfl
  .have:x≠n:=by rintro rfl;exact h v dG
   simp[this]
theorem D3{kindOf:Str->Option NameKind}{x:Str}{v:Vl}:∀{P:QQQ} {vs:T0 Vl} {i:Nat} {m:QQZ},P.Nodup->P[i]?=some x->vs[i]?=some v->kindOf x=some .local->
  bindL kindOf (P.zip vs) m x=some v
 | [],_,_,_,_,h,_,_=>by simp at h
 | _::_,[],_,_,_,_,h,_=>by simp at h
 | p::P,w::vs,0,m,nd,h1,h2,hk=>by simp at h1 h2;subst h1;subst h2;show bindL kindOf ((p,w)::P.zip vs) m p=_;unfold bindL;rw[DD λv hv=>(dO.mp nd).1 (jP hv).1,cZ hk];simp
 | p::P,w::vs,i+1,m,nd,h1,h2,hk=>by show bindL kindOf ((p,w)::P.zip vs) m x=_;unfold bindL;exact D3 (i:=i) (dO.mp nd).2 (by simpa using h1) (by simpa using h2) hk
theorem D7{kindOf:Str->Option NameKind}{x:Str}{v:Vl}:∀{P:QQQ} {vs:T0 Vl} {i:Nat} {m:QQZ},P.Nodup->P[i]?=some x->vs[i]?=some v->kindOf x≠some .local->
  bindC kindOf (P.zip vs) m x=some v
 | [],_,_,_,_,h,_,_=>by simp at h
 | _::_,[],_,_,_,_,h,_=>by simp at h
 | p::P,w::vs,0,m,nd,h1,h2,hk=>by simp at h1 h2;subst h1;subst h2;show bindC kindOf ((p,w)::P.zip vs) m p=_;unfold bindC;rw[DW λv hv=>(dO.mp nd).1 (jP hv).1,cX hk];simp
 | p::P,w::vs,i+1,m,nd,h1,h2,hk=>by show bindC kindOf ((p,w)::P.zip vs) m x=_;unfold bindC;exact D7 (i:=i) (dO.mp nd).2 (by simpa using h1) (by simpa using h2) hk
def yd(N:QQQ)(vs:T0 V):St:=vs.map some++List.replicate (N.length - vs.length) none
def vc(CX:KQ)(P:Pg)(w:Wo)(K:qh)(mg:QQZ)(base:Heap)(N:QQQ)(qual:Str)(scope:Scope)(f:Addr)(cd:Vl)(A:Ar)(outer:T0 Env)(s:Sd)(H:Hp)(E:XK):Cx where
 prog:=P
 w:=w
 K:=K
 mg:=mg
 base:=base
 A:=A.deeper (envOfC qual scope s.heap.objs.size f cd)
 N:=N
 s₀:=s
 H₀:=H
 env:=envOfC qual scope s.heap.objs.size f cd
 outer:=outer
 stack:=envOfC qual scope s.heap.objs.size f cd::outer
 ex:=[]
 calm:=true
 fn:=λ_=>true
 pn:=[]
 xe:=λe s'=>wpAny (model P w) (A.deeper (envOfC qual scope s.heap.objs.size f cd)) (leaving (envOfC qual scope s.heap.objs.size f cd) e) (λ_ ZR=>CX outer H s E e ZR) (λe' ZR=>CX outer H s E e' ZR) s'
def Gs{sc:Scope}{n:Nat}{x:Str}(h:sc.names.lookup x=some .cell):∃c,(cellsFrom n sc.names []).lookup x=some c:=by have q:=lG sc.names n [] (.inl h);exact jA.mp q
def Kh{CX:KQ}{K:qh}{qual:Str}{f:Addr}{cd:Vl}{A:Ar}{E:XK}{vs:T0 V} (S:sW N ps scope) (hd:A.handled=none) (e0:Io P w K mg base A outer s H) (hl:vs.length=ps.length) (r:qx vs us) (x:InCallC s s.heap.objs.size (bindL (envOfC qual scope s.heap.objs.size f cd).kindOf (ps.zip us) λ_=>none) (cellsFrom (s.heap.objs.size+1) scope.names []) (bindC (envOfC qual scope s.heap.objs.size f cd).kindOf (ps.zip us) λ_=>none) s1):
  Inv (vc CX P w K mg base N qual scope f cd A outer s H E) [] (yd N vs) H s1:=by
 have Xl:ps.length<=N.length:=by have:=eO List.length S.pre;rw[fQ]at this;omega
 obtain⟨h1,tk,rfl,hk⟩:=x.done;have noA:∀b:Addr,b∉(vc CX P w K mg base N qual scope f cd A outer s H E).ex:=λb z=>absurd (show b∈([]:QXQ)from z) (by simp);refine⟨⟨e0.mod,S.kind,rfl,rfl,dg _,λy z c h1 h2=>?_,λy hy=>?_,λy c _ h=>?_,λ_=>hd,Around.frames_deeper e0.frames,.inr ⟨rfl,rfl⟩,λb z=>absurd z (noA b),e0.bs,e0.nV,λb _ _=>noA b,λb z=>absurd z (noA b),e0.ny,e0.n9⟩,rfl,e0.bare,Un.kept hk,⟨_,x.toInCall.ns,λi y v h1 h2 h3=>?_⟩,λy c h=>⟨_,x.cell y c h⟩,e0.mM.fresh (dg _),λy c h=>?_,λp hp=>absurd (show p∈([]:QQY)from hp) (by simp),e0.mM.kept hk,?_⟩
 .exact name_of_addr x.apart (gK h1) (gK h2)
 .have hy:scope.names.lookup y=some .cell\/scope.names.lookup y=some .free:=hy;rcases hy with hy|hy
  .exact Gs hy
  .exact absurd rfl (S.oV _ (gK hy))
 .exact jy (x.above y c (gK h))
 .have hi:i<vs.length:=by
   unfold yd at h2;by_cases hi:i<vs.length
   .exact hi
   .rw[eR (by simpa using hi)]at h2;rw[jM]at h2;split at h2<;>cases h2
  have ha:vs[i]?=some v:=by
   unfold yd at h2;rw[eZ (by simpa using hi),dz]at h2;cases e:vs[i]? with
   | none=>rw[e]at h2;cases h2
   | some a=>rw[e]at h2;cases h2;rfl
  obtain⟨u,hu,rv⟩:=r.get ha;have hp:ps[i]?=some y:=by rw[<-S.pre,List.getElem?_take_of_lt (by omega)];exact h1
  have ndP:ps.Nodup:=by rw[<-S.pre];exact S.nd.sublist (List.take_sublist _ _)
  refine⟨u,rv,?_⟩;rcases S.par y (fm hp)with k|k
  .exact .inl ⟨k,D3 ndP hp hu k⟩
  .obtain⟨c,e⟩:=Gs (n:=s.heap.objs.size+1) k;refine .inr ⟨.inl k,c,e,?_⟩;have q:=x.cell y c e;rw[D7 ndP hp hu (by show scope.names.lookup y≠_;rw[k];decide)]at q;exact q
 .exact e0.mM.fresh (jy (x.above y c (gK h)))
 .unfold yd;show _=N.length;rw[cW,cS,iK];omega
def Ma{CX:KQ}{P:Pg}{w:Wo}{K:qh}{mg:QQZ}{base:Heap}{f:Addr}{dV kV XI pm Xd ct oc:Vl}{an od:Option Addr} {X3:Array (Option Vl)} {N ps:QQQ} {sp:Sp} (lk:K.lookup f=some ⟨oc,od,.func (W.fnOf name qual params body scope dV kV XI pm an Xd ct),X3⟩) (X8:W.codeIn K Xd qual=true) (S:sW N ps scope) (len:∀vs H Q E,sp vs H Q E->vs.length=ps.length) (Xr:∀(A:Ar) (outer:T0 Env) (s:Sd) (H:Hp) (vs:T0 V) (Q:VK) (E:XK),rO k (A.deeper (envOfC qual scope s.heap.objs.size f Xd))->sp vs H Q E->
   ∃t,Cn (vc CX P w K mg base N qual scope f Xd A outer s H E) body t/\t {nx:=λ_ H'=>Q .mG H',rt:=Q} (yd N vs) H):
  wZ P w K mg base CX (k+1) f (W.fnOf name qual params body scope dV kV XI pm an Xd ct) ps sp:=by
 refine⟨len,λA outer s H args us vs Q E hr e0 hb r YB=>?_⟩;have hl:=len _ _ _ _ YB;have KX:K.In s.heap:=e0.mod.oi.keeps λb o e=>(e0.bs b o e).1;have lim:s.heap.NoLimit:=e0.mod.nolimit.keeps λb o e=>(e0.bs b o e).1;have hkind:∀y∈ps.zip us,scope.names.lookup y.1=some .local\/(scope.names.lookup y.1=some .cell/\((cellsFrom (s.heap.objs.size+1) scope.names []).lookup y.1).isSome=true):=λ⟨n,v⟩ hy=>by
  rcases S.par n (jP hy).1 with q|q
  .exact .inl q
  .exact .inr ⟨q,lG _ _ _ (.inl q)⟩
 refine codeAny_call_function hr.depth (KX _ _ lk) rfl S.co S.gen rfl (W.codeRec_of KX X8) (hb _ _ _ _ ?_);refine wpAny_newFunctionEnv_cells S.kind hkind λenv he s1 x=>?_;subst he;refine⟨lim.keeps x.toInCall.keep,codeAny_func ?_⟩;obtain⟨t,ht,hq⟩:=Xr A outer s H vs Q E (hr.deeper _) YB;have I:Inv (vc CX P w K mg base N qual scope f Xd A outer s H E) [] (yd N vs) H s1:=Kh S hr.hd e0 hl r x;refine dZ (ht [] s1 (yd N vs) H _ I hq) (λfl s' hs=>?_) λe s' hs=>hs;have Xa:∀{σ':St} {H':Hp} {v:V} {u:Vl},Inv (vc CX P w K mg base N qual scope f Xd A outer s H E) [] σ' H' s'->qC v u->Q v H'->CE outer P w H s Q u s':=
  λ{σ' H' v u} J rv q=>⟨v,H',J.os,J.bare,J.base,J.mM,rv,q⟩
 cases fl with
 | ret u=>obtain⟨v,σ',H',J,rv,q⟩:=hs;exact Xa J rv q
 | next=>obtain⟨σ',H',J,q⟩:=hs;exact Xa (v:=V.mG) (u:=Value.none) J rfl q
 | brk=>obtain⟨_,_,_,q⟩:=hs;exact False.elim q
 | cont=>obtain⟨_,_,_,q⟩:=hs;exact False.elim q
variable {id T:String}{r:T0 V→Hp→VK→Prop}
section
variable {x:Str}{e:Expr}{t:TA}
def WB(r:T0 V->Hp->VK->Prop)(t:TA):TE:=λY H Q=>t Y H λvs H1=>r vs H1 Q
def MJ(hc:yl X (.builtin id) r)(hg:Gl X x)(hm:X.mg x=none)(hv:bootBuiltins x=some (.builtin id))(ha:PA X (e::es) t)(hn:x≠"__name__":=by decide)(Xp:zu x:=by decide)
  (he:A7 X e es:=by rfl) (Xl:CP X pos es:=by rfl):PE X (.Call (.Name x p) (e::es) [] pos) (WB r t):=by
 intro W5 s Y H Q I h;refine fP (wB I hg hm hv ?_ hn Xp);exact gN (sf (ha pos W5 s Y H _ I h) λus s1 zz=>x5 zz λvs H1 I1 r1 q1=>hc W5 s1 Y H1 vs us Q I1 r1 q1) he Xl
def J9(hc:yl X (.type T) r)(hg:Gl X x)(hm:X.mg x=none)(hv:bootBuiltins x=some (.type T))(ha:PA X (e::es) t)(hn:x≠"__name__":=by decide)(Xp:zu x:=by decide)
  (he:A7 X e es:=by rfl) (Xl:CP X pos es:=by rfl):PE X (.Call (.Name x p) (e::es) [] pos) (WB r t):=by
 intro W5 s Y H Q I h;refine fP (wB I hg hm hv ?_ hn Xp);exact fJ (sf (ha pos W5 s Y H _ I h) λus s1 zz=>x5 zz λvs H1 I1 r1 q1=>hc W5 s1 Y H1 vs us Q I1 r1 q1) he Xl
end
end L2
namespace HT
open PySem PyProof.Rows
section
open PySem.SeqAt
open PySem.AutoSeq1 (wpAny_loadPart')
open PySem.MeetsSeq PySem.MeetsSeq2 PySem.MeetsSeq3
end
variable {prog:Pg}{w:Wo}{A:Ar}{E:QQX}{s:Sd}
def O4{vs ws:T0 Vl}{Q:QQX}(ht:IsTup s.heap t vs.toArray)(hb:IsTup s.heap b ws.toArray)(hv:vs≠[]) (h1:ws=[]->Q (.ref t) s) (h2:ws≠[]->Q (.ref s.heap.objs.size) {s with heap:=s.heap.push {cls:=.type "tuple",data:=.seq (vs++ws).toArray}})
  (hsz:vs.length+ws.length<=sizeLine):wpAny (model prog w) A (binaryOp .Add (.ref t) (.ref b)) Q E s:=by
 obtain⟨⟨cls,dd,data,sl⟩,ho,hc,n,hd⟩:=id ht;obtain⟨⟨cls2,dd2,data2,sl2⟩,ho2,hc2,n2,hd2⟩:=id hb;simp only at hc hd hc2 hd2;subst hc hd hc2 hd2;have e:vs.toArray++ws.toArray=(vs++ws).toArray:=by simp
 by_cases hw:ws=[]
 .exact kM ⟨_,ho,rfl⟩ ⟨_,ho2,rfl⟩ lH seq_tuple_add jW jN (jB _ _)
   (tuple_addW1 t b vs.toArray ws.toArray n n2 dd dd2 sl sl2 (by simpa using hv) (by simp[hw])) ⟨ho,ho2,h1 hw⟩
 .refine kM ⟨_,ho,rfl⟩ ⟨_,ho2,rfl⟩ lH seq_tuple_add jW jN (jB _ _)
   (tuple_addW2 t b vs.toArray ws.toArray n n2 dd dd2 sl sl2 (by simpa using hv) (by simpa using hw) (by rw[dh,dh];exact hsz)) ⟨ho,ho2,?_⟩
  rw[e];exact h2 hw
def sZ(n d:Nat):Option Int->Nat
 | none=>d
 | some v=>if v<0 then(v+(n:Int)).toNat else min v.toNat n
def BC(n d:Nat):sZ n d none=d:=rfl
def Jp(n d k:Nat):sZ n d (some (k:Int))=min k n:=by show(if (k:Int)<0 then((k:Int)+(n:Int)).toNat else min (k:Int).toNat n)=min k n;rw[cX (by omega),jm]
def Ra(n d:Nat)(hd:d<=n)(o:Option Int):sZ n d o<=n:=by
 cases o with
 | none=>exact hd
 | some v=>
  show(if v<0 then(v+(n:Int)).toNat else min v.toNat n)<=n;by_cases hv:v<0
  .rw[cZ hv];omega
  .rw[cX hv];exact Nat.min_le_right _ _
def IS(v:Int)(n d:Nat):(if v<0 then max (v+(n:Int)) 0 else min v (n:Int))=((sZ n d (some v):Nat):Int):=by
 show(if v<0 then max (v+(n:Int)) 0 else min v (n:Int))=(((if v<0 then(v+(n:Int)).toNat else min v.toNat n):Nat):Int);by_cases hv:v<0
 .simp only[cZ hv];omega
 .simp only[cX hv];omega
def Hr(lo hi:Option Int)(n:Nat):Builtin.Slice.sliceAdjust lo hi 1 (n:Int)=(((sZ n 0 lo:Nat):Int),((sZ n n hi:Nat):Int)):=by
 have h1:¬((1:Int)<0):=by omega
 unfold Builtin.Slice.sliceAdjust;simp only[h1,kg];refine mi ?_ ?_
 .cases lo with
  | none=>rfl
  | some v=>exact IS v n 0
 .cases hi with
  | none=>rfl
  | some v=>exact IS v n n
def Iu(i j:Nat):Builtin.Slice.slicePlaces (i:Int) (j:Int) 1=j - i:=by
 unfold Builtin.Slice.slicePlaces;have h1:(1:Int)>0:=by omega
 simp only[h1,jb,Int.ediv_one];split<;>omega
def BX{Q:Option Int->Sd->Prop}(p:IsPart v o)(h:Q o s):wpAny (model prog w) A (Builtin.Slice.slicePartIndex v) Q E s:=by
 cases p with
 | none=>exact slicePart_none h
 | int i t=>exact slicePart_int h
def vU{sl:Addr}{vl vu:Vl}{lo hi:Option Int}{Q:Int×Int×Nat->Sd->Prop}(hs:s.heap.IsSliceOf sl vl vu .none)(pl:IsPart vl lo)(pu:IsPart vu hi) (h:Q (((sZ n 0 lo:Nat):Int),1,sZ n n hi - sZ n 0 lo) s):wpAny (model prog w) A (Builtin.Slice.sliceApplied (.ref sl) (pure (n:Int))) Q E s:=by
 obtain⟨os,ZS,Zt,Yk⟩:=id hs;unfold Builtin.Slice.sliceApplied Builtin.Slice.sliceFields;refine cT (cT (fi ZS Yk (x:=vl) rfl (cT (fi ZS Yk (x:=vu) rfl (cT (fi ZS Yk (x:=.none) rfl (c9 ?_)))))));refine cT (slicePart_none ?_);show wpAny _ _ (if ((1:Int)==0)=true then _ else _) _ _ s;rw[cX (by decide)];refine cT (BX pl (cT (BX pu (cT (c9 ?_)))));show wpAny _ _ (match Builtin.Slice.sliceAdjust lo hi 1 (n:Int)with|(lo,hi)=>pure (lo,(1:Int),Builtin.Slice.slicePlaces lo hi 1)) _ _ s;rw[Hr lo hi n];show wpAny _ _ (pure (((sZ n 0 lo:Nat):Int),(1:Int),Builtin.Slice.slicePlaces ((sZ n 0 lo:Nat):Int) ((sZ n n hi:Nat):Int) 1)) _ _ s;rw[Iu];exact c9 h
def Lz(xs:Array Vl)(i k:Nat):((List.range k).filterMap λ(m:Nat)=>xs[((i:Int)+(m:Int)*1).toNat]?).toArray=((xs.toList.drop i).take k).toArray:=by
 have e:(λ(m:Nat)=>xs[((i:Int)+(m:Int)*1).toNat]?)=λm=>xs[i+m]?:=by
  funext m;have:((i:Int)+(m:Int)*1).toNat=i+m:=by omega
  rw[this]
 rw[e];have:=pick_run xs i k;rw[List.filterMap_map]at this;have e2:((λx=>xs[x]?)∘λx=>i+x)=λm=>xs[i+m]?:=rfl;rw[e2]at this;rw[this]
def zG{t sl:Addr}{vl vu:Vl}{lo hi:Option Int}{Q:QQX}(ht:IsTup s.heap t W6)(hs:s.heap.IsSliceOf sl vl vu .none)(pl:IsPart vl lo)(pu:IsPart vu hi) (hw:¬(sZ W6.size 0 lo=0/\sZ W6.size W6.size hi=W6.size)) (h:Q (.ref s.heap.objs.size) {s with heap:=s.heap.push {cls:=.type "tuple",data:=.seq ((W6.toList.drop (sZ W6.size 0 lo)).take (sZ W6.size W6.size hi - sZ W6.size 0 lo)).toArray}})
  (hsz:W6.size<=sizeLine):wpAny (model prog w) A (getItem (.ref t) (.ref sl)) Q E s:=by
 have Yu:sizeOk (.seq ((W6.toList.drop (sZ W6.size 0 lo)).take (sZ W6.size W6.size hi - sZ W6.size 0 lo)).toArray):=by show((W6.toList.drop (sZ W6.size 0 lo)).take (sZ W6.size W6.size hi - sZ W6.size 0 lo)).toArray.size<=sizeLine;rw[dh,fQ,gu,ig];omega
 have hj:sZ W6.size W6.size hi<=W6.size:=Ra _ _ (dg _) hi;obtain⟨os,ZS,Zt,Yk⟩:=id hs;have hTs:s.TypeIs (.ref sl) "slice":=⟨os,ZS,Zt⟩;unfold getItem
 try with_reducible refine eK ?_
 first|refine cT (c9 ?_)|skip
 refine cT (jn ht.typeIs (by decide) ?_);refine cT (fL (name:=Str.ofString "__getitem__") ht.typeIs fD
  (fR fD ht.typeIs kA ?_ (kN _ _)))
 show wpAny _ _ (Builtin.Tuple.tupleItemsOf (.ref t)>>=_) _ _ s;refine cT (tupleItemsOf_ ht ?_);refine cT (jC hTs ?_);rw[cZ (by decide)];refine cT (vU hs pl pu ?_);have hno:¬((((sZ W6.size 0 lo:Nat):Int)==0&&(1:Int)==1&&(sZ W6.size W6.size hi - sZ W6.size 0 lo)==W6.size)=true):=by intro q;rw[dQ,dQ]at q;have q1:((sZ W6.size 0 lo:Nat):Int)=0:=eq_of_beq q.1.1;have q2:sZ W6.size W6.size hi - sZ W6.size 0 lo=W6.size:=eq_of_beq q.2;exact hw ⟨by omega,by omega⟩
 show wpAny _ _ (if (((sZ W6.size 0 lo:Nat):Int)==0&&(1:Int)==1&&(sZ W6.size W6.size hi - sZ W6.size 0 lo)==W6.size)=true then _ else _) _ _ s;rw[cX hno,Lz]
 first
  | exact cT (m:=Builtin.Tuple.tupleExact _) (fS (c9 ⟨_,rfl,c9 h⟩) Yu)
  | exact cT (m:=Builtin.Tuple.tupleExact _) (fS (cT (c9 (c9 ⟨_,rfl,c9 h⟩))) Yu)
  | exact cT (cT (m:=Builtin.Tuple.tupleExact _) (fS (c9 (c9 ⟨_,rfl,c9 h⟩)) Yu))
  | exact cT (cT (m:=Builtin.Tuple.tupleExact _) (fS (c9 ⟨_,rfl,c9 h⟩) Yu))
end HT
namespace L2
abbrev TO:=St->Hp->(Option Int->Hp->Prop)->Prop
def PO(X:Cx)(e:Option Expr)(t:TO):Prop:=
 ∀(W5:QQY) (s:Sd) (Y:St) (H:Hp) (Q:Option Int->Hp->Prop),Inv X W5 Y H s->t Y H Q->
  wpAny (model X.prog X.w) X.A (evalPart e X.env) (λu s'=>∃o H',Inv X W5 Y H' s'/\IsPart u o/\Q o H') X.xe s
def Qu:TO:=λ_ H Q=>Q none H
def UH(t:TE):TO:=λY H Q=>t Y H λx H1=>∃i,x=.int i/\Q (some i) H1
variable {X:Cx}{e:Expr}{te:TE}{lo hi:Option Expr}{tl th:TO}{pos p2:Pos}
def O1:PO X none Qu:=by intro W5 s Y H Q I h;rw[evalPart_none];exact c9 ⟨none,H,I,.none,h⟩
def OM(h:PE X e te):PO X (some e) (UH te):=by intro W5 s Y H Q I hw;rw[evalPart_some];refine sf (h W5 s Y H _ I hw) λu s1 zz=>x5 zz λx H1 I1 r1 q1=>?_;obtain⟨i,rfl,q⟩:=q1;obtain⟨t,rfl⟩:=r1;exact⟨some i,H1,I1,.int i t,q⟩
def Um(X:Cx)(r:V->Option Int->Option Int->Hp->VK->Prop):Prop:=
 ∀(W5:QQY) (s:Sd) (Y:St) (H:Hp) (x:V) (v vl vu:Vl) (lo hi:Option Int) (sl:Addr) (Q:VK),Inv X W5 Y H s->qC x v->s.heap.IsSliceOf sl vl vu .none->IsPart vl lo->IsPart vu hi->r x lo hi H Q->
  ∃T id,typeLookup (.type T) "__getitem__"=pure (some (.builtin id))/\s.TypeIs v T/\wpAny (model X.prog X.w) X.A (getItem v (.ref sl)) (EP X W5 Y Q) X.xe s
def WU(r:V->Option Int->Option Int->Hp->VK->Prop)(te:TE)(tl th:TO):TE:=λY H Q=>te Y H λx H1=>tl Y H1 λl H2=>th Y H2 λu H3=>r x l u H3 Q
def Md(hr:Um X r)(he:PE X e te)(hl:PO X lo tl)(hu:PO X hi th):PE X (.Subscript e (.Slice lo hi none p2) pos) (WU r te tl th):=by intro W5 s Y H Q I h;refine Subscript_ (sf (he W5 s Y H _ I h) λv s1 zz=>x5 zz λx H1 I1 r1 q1=>?_);refine wpAny_Slice (sf (hl W5 s1 Y H1 _ I1 q1) λvl s2 zz=>x5 zz λl H2 I2 pl q2=>sf (hu W5 s2 Y H2 _ I2 q2) λvu s3 zz=>x5 zz λu H3 I3 pu q3=>?_);rw[evalPart_none];refine c9 ?_;have I4:Inv X W5 Y H3 {s3 with heap:=s3.heap.push {cls:=.type "slice",data:=.fields #[vl,vu,.none]}}:=I3.kept (t':=s3.toks) λb ob q=>cY _ q;obtain⟨T,id,hT,ht,hg⟩:=hr W5 {s3 with heap:=s3.heap.push {cls:=.type "slice",data:=.fields #[vl,vu,.none]}} Y H3 x v vl vu l u s3.heap.objs.size Q I4 r1 (mB ..) pl pu q3;show wpAny (model X.prog X.w) X.A (subscriptTail e (.Slice lo hi none p2) v (.ref s3.heap.objs.size)) (EP X W5 Y Q) X.xe {s3 with heap:=s3.heap.push {cls:=.type "slice",data:=.fields #[vl,vu,.none]}};exact tail_any (ops:=[.ref s3.heap.objs.size,v]) ht hT hg (by with_unfolding_all rfl)
def BD(xs:T0 V)(lo hi:Option Int):T0 V:=(xs.drop (HT.sZ xs.length 0 lo)).take (HT.sZ xs.length xs.length hi - HT.sZ xs.length 0 lo)
def Av(xs:T0 V)(lo hi:Option Int):(BD xs lo hi).length<=xs.length:=by unfold BD;rw[fQ,gu];omega
def VO(K:qh):V->Option Int->Option Int->Hp->VK->Prop:=λx lo hi H Q=>∃a xs,x=.ref a/\uU K H a xs/\
 ¬(HT.sZ xs.length 0 lo=0/\HT.sZ xs.length xs.length hi=xs.length)/\∀p,H p=none->Q (.ref p) (upd H p (.tup (BD xs lo hi)))
def Rq:Um X (VO X.K):=by
 intro W5 s Y H x v vl vu lo hi sl Q I rx hs pl pu h;obtain⟨a,xs,rfl,hx,hw,q⟩:=h;cases rx;obtain⟨its,r,ht,hz⟩:=I.tuple hx;have Xb:its.toArray.size=xs.length:=by rw[dh];exact r.length.symm
 refine⟨"tuple",_,fD.lookup,ht.typeIs,?_⟩;refine HT.zG ht hs pl pu (by rw[Xb];exact hw) ?_ (by rw[Xb];exact hz);rw[Xb];refine⟨.ref s.heap.objs.size,_,I.laid (t':=s.toks) (o:=.tup (BD xs lo hi)) (λb ob q=>cY _ q) (dg _) ?_,rfl,q _ (I.mM.fresh (dg _))⟩;exact⟨dW (Av xs lo hi) hz,_,(r.drop (HT.sZ xs.length 0 lo)).take (HT.sZ xs.length xs.length hi - HT.sZ xs.length 0 lo),Fd.new _ _⟩
def T1(K:qh):R2:=λx y H Q=>∃a b xs ys,x=.ref a/\y=.ref b/\uU K H a xs/\uU K H b ys/\xs≠[]/\xs.length+ys.length<=sizeLine/\
 (ys=[]->Q (.ref a) H)/\(ys≠[]->∀p,H p=none->Q (.ref p) (upd H p (.tup (xs++ys))))
def qx.nI(r:qx xs us):us=[]↔xs=[]:=by
 cases r with
 | nil=>simp
 | cons _ _=>simp
def OK:xk X (binaryOp .Add) (T1 X.K):=by intro W5 s Y H x y v u Q I rx ry h;obtain⟨a,b,xs,ys,rfl,rfl,ha,hb,hx,hz,q1,q2⟩:=h;cases rx;cases ry;obtain⟨its,r1,p1,_⟩:=I.tuple ha;obtain⟨its2,r2,p2,_⟩:=I.tuple hb;refine HT.O4 p1 p2 (λz=>hx (r1.nI.mp z)) (λz=>⟨.ref a,H,I,rfl,q1 (r2.nI.mp z)⟩) (λz=>?_) (by rw[<-r1.length,<-r2.length];exact hz);refine⟨.ref s.heap.objs.size,_,I.laid (t':=s.toks) (o:=.tup (xs++ys)) (λb ob q=>cY _ q) (dg _) ?_,rfl,q2 (λw=>z (r2.nI.mpr w)) _ (I.mM.fresh (dg _))⟩;exact⟨by rw[cW];exact hz,_,r1.append r2,Fd.new _ _⟩
def G7(n:Nat)(i:Int):Option Nat:=if 0<=i then(if i<n then some i.toNat else none)else if -(n:Int)<=i then some (i+n).toNat else none
def wj{α:Type}(xs:List α)(i:Int):Option α:=(G7 xs.length i).bind λj=>xs[j]?
def JH{j:Nat}(h:G7 n i=some j):seqIndex? i n=some j/\j<n/\-(n:Int)<=i/\i<n:=by
 unfold G7 at h;by_cases h0:0<=i
 .rw[cZ h0]at h;by_cases h1:i<n
  .rw[cZ h1]at h;have e:i.toNat=j:=df h;exact⟨by rw[ly h0 h1,e],by omega,by omega,h1⟩
  .rw[cX h1]at h;cases h
 .rw[cX h0]at h;by_cases h1:-(n:Int)<=i
  .rw[cZ h1]at h;have e:(i+n).toNat=j:=df h;exact⟨by rw[kO (by omega) h1,e],by omega,h1,by omega⟩
  .rw[cX h1]at h;cases h
def EC{α:Type}{xs:List α}{i:Int}{v:α}(h:wj xs i=some v):∃j,seqIndex? i xs.length=some j/\xs[j]?=some v/\j<xs.length/\-(xs.length:Int)<=i/\i<xs.length:=by
 unfold wj at h;cases e:G7 xs.length i with
 | none=>rw[e]at h;cases h
 | some j=>rw[e]at h;obtain⟨h1,h2,h3,h4⟩:=JH e;exact⟨j,h1,h,h2,h3,h4⟩
def uV{α:Type}{xs:List α}{j:Nat}{v:α}(h:xs[j]?=some v):wj xs (j:Int)=some v:=by
 have hj:j<xs.length:=(cU.mp h).1;have e:G7 xs.length (j:Int)=some j:=by unfold G7;rw[cZ (by omega),cZ (by omega)];simp
 unfold wj;rw[e];exact h
def Bc(b:Expr):Prop:=∀o i,subscripted b false o i=operate [o,i] (getItem o i)
def Tj(X:Cx)(r:R2):Prop:=
 ∀(value Xe:Expr) (W5:QQY) (s:Sd) (Y:St) (H:Hp) (x y:V) (v u:Vl) (Q:VK),Inv X W5 Y H s->qC x v->qC y u->r x y H Q->
  subscripted Xe false v u=operate [v,u] (getItem v u)->wpAny (model X.prog X.w) X.A (subscriptTail value Xe v u) (EP X W5 Y Q) X.xe s
def WA(X:Cx)(id:String)(r:V->T0 V->Hp->VK->Prop):Prop:=
 ∀(W5:QQY) (s:Sd) (Y:St) (H:Hp) (x:V) (xs:T0 V) (v:Vl) (us:T0 Vl) (Q:VK),Inv X W5 Y H s->qC x v->qx xs us->r x xs H Q->
  wpAny (model X.prog X.w) X.A (call (.builtin id) (v::us)) (EP X W5 Y Q) X.xe s
variable {o:Expr}{es:T0 Expr}{to:TE}{t:TA}{name:Str}{W8 Xc:Pos}{T id:String}{r:V→T0 V→Hp→VK→Prop}{a:Expr}{ta tb:TE}
section
variable {b:Expr}
def Mh{r:R2}(hr:Tj X r)(ha:PE X a ta)(hb:PE X b tb)(hs:Bc b):PE X (.Subscript a b pos) (Uh r ta tb):=by intro W5 s Y H Q I h;exact Subscript_ (Sx ha hb I h λv u s2 x y H2 I2 rx ry q=>hr a b W5 s2 Y H2 x y v u Q I2 rx ry q (hs _ _))
def Wh(K:qh):R2:=λx y H Q=>∃p xs i v,x=.ref p/\y=.int i/\yU K H p xs/\wj xs i=some v/\Q v H
def V7(K:qh):R2:=λx y H Q=>∃p xs i v,x=.ref p/\y=.int i/\uU K H p xs/\wj xs i=some v/\Q v H
def Vp:R2:=λx y H Q=>∃z i c,x=.str z/\y=.int i/\z.length<=sizeLine/\wj z.cps.toList i=some c/\Q (.str ⟨#[c]⟩) H
def Jg:Tj X (Wh X.K):=by
 intro value Xe W5 s Y H x y v u Q I rx ry h hs;obtain⟨p,xs,i,z,rfl,rfl,hq,he,q⟩:=h;cases rx;obtain⟨t,rfl⟩:=ry;obtain⟨its,r,pl,hz⟩:=I.list hq;obtain⟨j,h1,h2,h3,h4,h5⟩:=EC he;obtain⟨w,ew,Ze⟩:=r.get h2;have hl:=r.length;have hn:=yy;have Xa:EP X W5 Y Q w s:=⟨z,H,I,Ze,q⟩;by_cases h0:0<=i
 .have hj:i.toNat=j:=by rw[ly h0 h5]at h1;exact df h1
  exact item_listR pl.isList h0 (by omega) (by rw[hj];simpa using ew) Xa hs
 .have hj:(i+(its.toArray.size:Int)).toNat=j:=by rw[kO (by omega) h4]at h1;rw[dh,<-hl];exact df h1
  exact jX (x:=w) pl.isList.typeIs lb.lookup
   (wpAny_getItem_list_neg (Q:=λr s'=>r=w/\EP X W5 Y Q r s') pl.isList (by omega) (by rw[dh]<;>omega) (by omega) (by rw[hj];simpa using ew) ⟨rfl,Xa⟩) hs
def Sv:Tj X (V7 X.K):=by
 intro value Xe W5 s Y H x y v u Q I rx ry h hs;obtain⟨p,xs,i,z,rfl,rfl,hq,he,q⟩:=h;cases rx;obtain⟨t,rfl⟩:=ry;obtain⟨its,r,pl,hz⟩:=I.tuple hq;obtain⟨j,h1,h2,h3,h4,h5⟩:=EC he;obtain⟨w,ew,Ze⟩:=r.get h2;have hl:=r.length;have hn:=yy;have Xa:EP X W5 Y Q w s:=⟨z,H,I,Ze,q⟩;exact jX (x:=w) pl.typeIs slot_tuple_getitem.lookup
  (getItem_tuple (j:=j) (Q:=λr s'=>r=w/\EP X W5 Y Q r s') pl (by omega) (by omega) (by rw[dh,<-hl];exact h1) (by simpa using ew) ⟨rfl,Xa⟩) hs
def Rp:Tj X Vp:=by
 intro value Xe W5 s Y H x y v u Q I rx ry h hs;obtain⟨z,i,c,rfl,rfl,hz,he,q⟩:=h;obtain⟨t,rfl⟩:=rx;obtain⟨t',rfl⟩:=ry;obtain⟨j,h1,h2,h3,h4,h5⟩:=EC he;have hl:z.cps.toList.length=z.length:=by simp[Str.length]
 rw[hl]at h1 h4 h5;have hn:=yy;exact tail_any (typeIs_str s z t) slot_str_getitem.lookup (getItem_str (c:=c) (by
  have e1:decide (i< -(2 ^ 63:Int))=false:=eM (by omega);have e2:decide (i>=2 ^ 63)=false:=eM (by omega);rw[e1,e2,kt]) (by rw[h1];simpa using h2) ⟨.str ⟨#[c]⟩,H,I.tok _,⟨_,rfl⟩,q⟩) hs
def Hi(its:T0 Vl)(n j:Nat)(u:Vl):Obj.mapSeq (·.setIfInBounds j u) {cls:=.type "list",data:=.seq its.toArray n}={cls:=.type "list",data:=.seq (its.set j u).toArray n}:=by simp[Obj.mapSeq]
def Inv.lst{p:Addr}{xs:T0 V}(I:Inv X W5 Y H s)(h:H p=some (.lst xs)):
  ∃(its:T0 Vl) (n:Nat),qx xs its/\s.heap.get? p=some {cls:=.type "list",data:=.seq its.toArray n}/\xs.length<=sizeLine:=by
 obtain⟨z,its,n,r,e⟩:=I.mM p _ h;exact⟨its,n,r,e,z⟩
def Inv.oA{p:Addr}{xs ys:T0 V}{its its':T0 Vl}{n n':Nat}{f:Obj->Obj}(I:Inv X W5 Y H s)(h:H p=some (.lst xs)) (ho:s.heap.get? p=some {cls:=.type "list",data:=.seq its.toArray n}) (hf:f {cls:=.type "list",data:=.seq its.toArray n}={cls:=.type "list",data:=.seq its'.toArray n'}) (r:qx ys its') (hz:ys.length<=sizeLine) (t:Nat):
  Inv X W5 Y (upd H p (.lst ys)) {s with heap:=s.heap.update p f,toks:=t}:=by
 have e:(s.heap.update p f).get? p=some {cls:=.type "list",data:=.seq its'.toArray n'}:=by rw[fF f ho (by rw[hf]<;>rfl),hf]
 refine I.write (x:=p) (e:=p) (by rw[h];trivial) (.inl rfl) (λb u hb q=>(fX _ _ (dI hb)).trans q) ⟨_,e⟩ ?_;exact⟨hz,its',n',r,e⟩
def Ug:V->V->V->Hp->(Hp->Prop)->Prop:=λo i v H Q=>∃p xs k j,o=.ref p/\i=.int k/\H p=some (.lst xs)/\G7 xs.length k=some j/\Q (upd H p (.lst (xs.set j v)))
def MS:TL X Ug:=by
 intro W5 s Y H o i v ov iv u Q I ro ri rv h;obtain⟨p,xs,k,j,rfl,rfl,hp,hj,q⟩:=h;cases ro;obtain⟨t,rfl⟩:=ri;obtain⟨its,n,r,ho,hz⟩:=I.lst hp;obtain⟨h1,h2,h3,h4⟩:=JH hj;have hl:=r.length;have hn:=yy;have I':Inv X W5 Y (upd H p (.lst (xs.set j v))) {s with heap:=s.heap.update p (Obj.mapSeq (·.setIfInBounds j u))}:=
  I.oA hp ho (Hi its n j u) (r.set rv j) (by rw[ii];exact hz) s.toks
 by_cases h0:0<=k
 .have hk:k.toNat=j:=by rw[ly h0 h4]at h1;exact df h1
  exact W.ki_setAt ho h0 (by omega) (by rw[dh,<-hl];exact h4) (by rw[hk];exact⟨_,I',q⟩)
 .have hk:(k+(its.toArray.size:Int)).toNat=j:=by rw[kO (by omega) h3]at h1;rw[dh,<-hl];exact df h1
  exact W.ki_setBack ho (by omega) (by rw[dh,<-hl];exact h3) (by omega) (by rw[hk];exact⟨_,I',q⟩)
def Fk(lo hi:Option Int)(n:Nat):(sliceBounds lo hi none n).1=((HT.sZ n 0 lo:Nat):Int)/\(sliceBounds lo hi none n).2.1=((HT.sZ n n hi:Nat):Int)/\(sliceBounds lo hi none n).2.2=1:=by
 refine⟨?_,?_,rfl⟩
 .cases lo with
  | none=>simp[sliceBounds,HT.sZ]
  | some i=>
   simp only[sliceBounds,HT.sZ,lJ,show(1:Int)>0 by decide,jb];by_cases h:i<0
   .simp only[h,jb]<;>omega
   .simp only[h,kg]<;>omega
 .cases hi with
  | none=>simp[sliceBounds,HT.sZ]
  | some i=>
   simp only[sliceBounds,HT.sZ,lJ,show(1:Int)>0 by decide,jb];by_cases h:i<0
   .simp only[h,jb]<;>omega
   .simp only[h,kg]<;>omega
def CW(its:T0 Vl)(lo hi:Option Int):slicePick its.toArray lo hi none=((its.drop (HT.sZ its.length 0 lo)).take (HT.sZ its.length its.length hi - HT.sZ its.length 0 lo)).toArray:=by obtain⟨h1,h2,h3⟩:=Fk lo hi its.toArray.size;unfold slicePick;rw[h1,h2,h3];simp only[sliceRange_one,pick_run,dh]<;>rfl
def VR(K:qh):V->Option Int->Option Int->Hp->VK->Prop:=λx lo hi H Q=>∃a xs,x=.ref a/\yU K H a xs/\∀p,H p=none->Q (.ref p) (upd H p (.lst (BD xs lo hi)))
def Jj:Um X (VR X.K):=by intro W5 s Y H x v vl vu lo hi sl Q I rx hs pl pu h;obtain⟨a,xs,rfl,hx,q⟩:=h;cases rx;obtain⟨its,r,ht,hz⟩:=I.list hx;have Xb:=r.length;refine⟨"list",_,lb.lookup,ht.isList.typeIs,?_⟩;refine wpAny_getItem_list_slice ht.isList hs pl pu .none (by simp) ?_ (by rw[dh]<;>omega);rw[CW,<-Xb];refine⟨.ref s.heap.objs.size,_,I.laid (t':=s.toks) (o:=.lst (BD xs lo hi)) (λb ob q=>cY _ q) (dg _) ?_,rfl,q _ (I.mM.fresh (dg _))⟩;exact⟨dW (Av xs lo hi) hz,_,0,(r.drop (HT.sZ xs.length 0 lo)).take (HT.sZ xs.length xs.length hi - HT.sZ xs.length 0 lo),dE _ rfl⟩
def yf:V->Bool
 | .mG=>true
 | .bl _=>true
 | .int _=>true
 | .str _=>true
 | _=>false
def NX:V->V->Bool
 | .mG,.mG=>true
 | .bl a,.bl b=>a==b
 | .bl a,.int b=>(if a then 1 else 0)==b
 | .int a,.bl b=>a==(if b then 1 else 0)
 | .int a,.int b=>a==b
 | .str a,.str b=>a==b
 | _,_=>false
def So(ry:qC y u)(rx:qC x v)(fy:yf y=true)(fx:yf x=true):SeqAt.EqAt A s u v (NX y x):=by
 cases y with
 | mG=>
  cases ry;cases x with
  | mG=>cases rx;exact SeqAt.EqAt.same _
  | bl b=>cases rx;exact SeqAt.EqAt.none_bool b
  | int b=>obtain⟨t,rfl⟩:=rx;exact SeqAt.EqAt.none_int b t
  | str b=>obtain⟨t,rfl⟩:=rx;exact SeqAt.EqAt.none_str b t
  | _=>exact absurd (show false=true from fx) dw
 | bl a=>
  cases ry;cases x with
  | mG=>cases rx;exact SeqAt.EqAt.bool_none a
  | bl b=>cases rx;exact SeqAt.EqAt.bool_bool a b
  | int b=>obtain⟨t,rfl⟩:=rx;exact SeqAt.EqAt.bool_int a b t
  | str b=>obtain⟨t,rfl⟩:=rx;exact SeqAt.EqAt.bool_str a b t
  | _=>exact absurd (show false=true from fx) dw
 | int a=>
  obtain⟨t',rfl⟩:=ry;cases x with
  | mG=>cases rx;exact SeqAt.EqAt.int_none a t'
  | bl b=>cases rx;exact SeqAt.EqAt.int_bool a t' b
  | int b=>obtain⟨t,rfl⟩:=rx;exact SeqAt.EqAt.int_int a t' b t
  | str b=>obtain⟨t,rfl⟩:=rx;exact kF a t' b t
  | _=>exact absurd (show false=true from fx) dw
 | str a=>
  obtain⟨t',rfl⟩:=ry;cases x with
  | mG=>cases rx;exact SeqAt.EqAt.str_none a t'
  | bl b=>cases rx;exact SeqAt.EqAt.str_bool a t' b
  | int b=>obtain⟨t,rfl⟩:=rx;exact kG a t' b t
  | str b=>obtain⟨t,rfl⟩:=rx;exact SeqAt.EqAt.str_str a t' b t
  | _=>exact absurd (show false=true from fx) dw
 | _=>exact absurd (show false=true from fy) dw
def EY(x:V)(u:Vl):Bool:=match u with
 | .none=>NX .mG x
 | .bool b=>NX (.bl b) x
 | .int i _=>NX (.int i) x
 | .str z _=>NX (.str z) x
 | _=>false
def HB(r:qC y u)(f:yf y=true):EY x u=NX y x:=by
 cases y with
 | mG=>cases r;rfl
 | bl b=>cases r;rfl
 | int i=>obtain⟨t,rfl⟩:=r;rfl
 | str z=>obtain⟨t,rfl⟩:=r;rfl
 | _=>exact absurd (show false=true from f) dw
theorem zm:∀{xs:T0 V} {us:T0 Vl},qx xs us->xs.all yf=true->us.any (EY x)=xs.any λy=>NX y x
 | _,_,.nil,_=>rfl
 | y::xs,u::us,.cons r t,f=>by rw[eU,dQ]at f;rw[fY,fY,HB r f.1,zm t f.2]
theorem vT(rx:qC x v)(fx:yf x=true):∀{xs:T0 V} {us:T0 Vl},qx xs us->xs.all yf=true->∀u∈us,SeqAt.EqAt A s u v (EY x u)
 | _,_,.nil,_=>λu hu=>by cases hu
 | y::xs,u::us,.cons r t,f=>λu' hu=>by
  rw[eU,dQ]at f;rcases de.mp hu with rfl|hu
  .rw[HB r f.1];exact So r rx f.1 fx
  .exact vT rx fx t f.2 u' hu
def inV(x:V)(xs:T0 V):Bool:=xs.any λy=>NX y x
def Vo(K:qh)(YH:Bool):R2:=λx y H Q=>∃p xs,y=.ref p/\(yU K H p xs\/uU K H p xs)/\yf x=true/\xs.all yf=true/\Q (.bl (if YH then !inV x xs else inV x xs)) H
def Ky:xk X (compareOp .In) (Vo X.K false):=by
 intro W5 s Y H x y v u Q I rx ry h;obtain⟨p,xs,rfl,hq,fx,fs,q⟩:=h;cases ry;rcases hq with hq|hq
 .obtain⟨its,r,pl,hz⟩:=I.list hq;refine SeqAt.in_listAt (EY x) pl.isList (λw hw=>vT rx fx r fs w (by simpa using hw)) ⟨.bl _,H,I,rfl,?_⟩;rw[show its.toArray.any (EY x)=its.any (EY x)by simp,zm r fs];exact q
 .obtain⟨its,r,pl,hz⟩:=I.tuple hq;refine SeqAt.in_tupleAt (EY x) pl (λw hw=>vT rx fx r fs w (by simpa using hw)) ⟨.bl _,H,I,rfl,?_⟩;rw[show its.toArray.any (EY x)=its.any (EY x)by simp,zm r fs];exact q
def En:xk X (compareOp .NotIn) (Vo X.K true):=by
 intro W5 s Y H x y v u Q I rx ry h;obtain⟨p,xs,rfl,hq,fx,fs,q⟩:=h;cases ry;rcases hq with hq|hq
 .obtain⟨its,r,pl,hz⟩:=I.list hq;refine SeqAt.notIn_listAt (EY x) pl.isList (λw hw=>vT rx fx r fs w (by simpa using hw)) ⟨.bl _,H,I,rfl,?_⟩;rw[show its.toArray.any (EY x)=its.any (EY x)by simp,zm r fs];exact q
 .obtain⟨its,r,pl,hz⟩:=I.tuple hq;refine SeqAt.notIn_tupleAt (EY x) pl (λw hw=>vT rx fx r fs w (by simpa using hw)) ⟨.bl _,H,I,rfl,?_⟩;rw[show its.toArray.any (EY x)=its.any (EY x)by simp,zm r fs];exact q
def Ec:xk X (compareOp .NotIn) (λx y H Q=>∃i j,x=.str i/\y=.str j/\Q (.bl (!(!(Builtin.Str.occurrences j i 0 j.length 1).isEmpty))) H):=by intro W5 s Y H x y v u Q I rx ry h;obtain⟨i,j,rfl,rfl,q⟩:=h;obtain⟨t,rfl⟩:=rx;obtain⟨t',rfl⟩:=ry;exact notIn_str ⟨.bl _,H,I,rfl,q⟩
def wn:yl X (.builtin "len") (λxs H Q=>∃p ys,xs=[.ref p]/\(yU X.K H p ys\/uU X.K H p ys)/\Q (.int ys.length) H):=by
 intro W5 s Y H xs us Q I r h;obtain⟨p,ys,rfl,hq,q⟩:=h;obtain⟨u,rfl,rx⟩:=ye r;cases rx;have hn:=yy;rcases hq with hq|hq
 .obtain⟨its,r',pl,hz⟩:=I.list hq;have Xb:=r'.length;exact Calls.call_len_list pl.isList (by simp only[dh]<;>omega) ⟨.int ys.length,H,I.tok _,⟨s.toks+1,by rw[dh,Xb]⟩,q⟩
 .obtain⟨its,r',pl,hz⟩:=I.tuple hq;have Xb:=r'.length;exact len_tuple pl (by simp only[dh]<;>omega) ⟨.int ys.length,H,I.tok _,⟨s.toks+1,by rw[dh,Xb]⟩,q⟩
def Fm:yl X (.builtin "len") (λxs H Q=>∃z,xs=[.str z]/\z.length<=sizeLine/\Q (.int z.length) H):=by intro W5 s Y H xs us Q I r h;obtain⟨z,rfl,hz,q⟩:=h;obtain⟨u,rfl,t,rfl⟩:=ye r;have hn:=yy;exact len_str (by omega) ⟨.int z.length,H,I.tok _,⟨_,rfl⟩,q⟩
def Fw:yl X (.type "list") (λxs H Q=>∃p ys,xs=[.ref p]/\(yU X.K H p ys\/uU X.K H p ys)/\∀l,H l=none->Q (.ref l) (upd H l (.lst ys))):=by
 intro W5 s Y H xs us Q I r h;obtain⟨p,ys,rfl,hq,q⟩:=h;obtain⟨u,rfl,rx⟩:=ye r;cases rx;have Xa:∀(its:T0 Vl),qx ys its->ys.length<=sizeLine->∀(h':Heap) (c':Nat),(∀b o',s.heap.get? b=some o'->h'.get? b=some o')->
   h'.get? s.heap.objs.size=some {cls:=.type "list",dict:=none,data:=.seq its.toArray c',slots:=#[]}->EP X W5 Y Q (.ref s.heap.objs.size) {s with heap:=h'}:=λits r' hz h' c' kp e=>
  ⟨.ref s.heap.objs.size,_,I.laid (t':=s.toks) kp (dg _) (show sJ X.prog X.w _ h' _ (.lst ys)from⟨hz,its,c',r',e⟩),rfl,q _ (I.mM.fresh (dg _))⟩
 rcases hq with hq|hq
 .obtain⟨its,r',pl,hz⟩:=I.list hq;have Xb:=r'.length;obtain⟨o,ho,hc,n,hd⟩:=pl.isList;exact call_list_seq p (.inl rfl) ho hc hd (λh' c' kp e=>Xa its r' hz h' c' kp e) (by simp only[dh]<;>omega)
 .obtain⟨its,r',pl,hz⟩:=I.tuple hq;have Xb:=r'.length;obtain⟨o,ho,hc,n,hd⟩:=pl;exact call_list_seq p (.inr rfl) ho hc hd (λh' c' kp e=>Xa its r' hz h' c' kp e) (by simp only[dh]<;>omega)
def vN:yl X (.type "tuple") (λxs H Q=>∃p ys,xs=[.ref p]/\((yU X.K H p ys/\∀l,H l=none->Q (.ref l) (upd H l (.tup ys)))\/(uU X.K H p ys/\Q (.ref p) H))):=by
 intro W5 s Y H xs us Q I r h;obtain⟨p,ys,rfl,h⟩:=h;obtain⟨u,rfl,rx⟩:=ye r;cases rx;rcases h with⟨hq,q⟩|⟨hq,q⟩
 .obtain⟨its,r',pl,hz⟩:=I.list hq;have Xb:=r'.length;refine call_tuple_list pl.isList (λh' kp=>?_) (by simp only[dh]<;>omega);have I1:Inv X W5 Y H {s with heap:=h'}:=I.kept (t':=s.toks) kp;have I2:Inv X W5 Y (upd H h'.objs.size (.tup ys)) {s with heap:=h'.push {cls:=.type "tuple",data:=.seq its.toArray}}:=
   I1.laid (t':=s.toks) (λb o e=>cY _ e) (dg _) (show sJ X.prog X.w _ _ _ (.tup ys)from⟨hz,its,r',Fd.new _ _⟩)
  exact⟨.ref h'.objs.size,_,I2,rfl,q _ (I1.mM.fresh (dg _))⟩
 .obtain⟨its,r',pl,hz⟩:=I.tuple hq;exact call_tuple_same pl ⟨.ref p,H,I,rfl,q⟩
def Ws(K:qh)(T:String)(x:V)(H:Hp):Prop:=match x with
 | .str _=>T="str"
 | .int _=>T="int"
 | .ref p=>(T="list"/\∃xs,yU K H p xs)\/(T="tuple"/\∃o,K.lookup p=some o/\o.cls=.type "tuple"/\o.dict=none)\/
   (T="dict"/\((∃kvs,H p=some (.dK kvs))\/∃kvs,H p=some (.dT kvs)))\/(T="set"/\∃S n,H p=some (.set S n))
 | _=>False
def K2(I:Inv X W5 Y H s)(r:qC x v)(ty:Ws X.K T x H):
  s.TypeIs v T/\∀a,v=.ref a->∃ob,s.heap.get? a=some ob/\ob.dict=none:=by
 cases x with
 | str z=>obtain⟨t,rfl⟩:=r;cases(show T="str" from ty);exact⟨typeIs_str s z t,λ_ e=>nomatch e⟩
 | int i=>obtain⟨t,rfl⟩:=r;cases(show T="int" from ty);exact⟨lU s i t,λ_ e=>nomatch e⟩
 | ref p=>
  cases r;rcases ty with⟨rfl,xs,hq⟩|⟨rfl,o,hk,hc,hd⟩|⟨rfl,hk⟩|⟨rfl,S,n,hk⟩
  .obtain⟨its,_,pl,_⟩:=I.list hq;refine⟨pl.isList.typeIs,λa e=>?_⟩;cases e;obtain⟨o,n,e,c,hd,_⟩:=pl;exact⟨o,e,hd⟩
  .refine⟨⟨o,I.nj p o hk,hc⟩,λa e=>?_⟩;cases e;exact⟨o,I.nj _ o hk,hd⟩
  .have z:∃o,s.heap.get? p=some o/\o.ExactDict:=by
    rcases hk with⟨kvs,hk⟩|⟨kvs,hk⟩
    .obtain⟨_,_,_,_,o,_,_,e,ex,_⟩:=I.mM p _ hk;exact⟨o,e,ex⟩
    .obtain⟨_,_,_,_,o,_,_,e,ex,_⟩:=I.mM p _ hk;exact⟨o,e,ex⟩
   obtain⟨o,e,ex⟩:=z;refine⟨⟨o,e,ex.1⟩,λa e2=>?_⟩;cases e2;exact⟨o,e,ex.2.1⟩
  .obtain⟨o,_,_,_,e,ex,_⟩:=I.mM p _ hk;refine⟨⟨o,e,ex.1⟩,λa e2=>?_⟩;cases e2;exact⟨o,e,ex.2.1⟩
 | _=>exact False.elim ty
def WN(K:qh)(T:String)(r:V->T0 V->Hp->VK->Prop)(to:TE)(t:TA):TE:=λY H Q=>to Y H λx H1=>Ws K T x H1/\t Y H1 λxs H2=>r x xs H2 Q
def Tv(pa:PlainAttrs T)(slot:Slot T name id)(hty:typeOf (.builtin id)=pure (.type "method_descriptor"))(hm:WA X id r)(ho:PE X o to)(ha:PA X (e::es) t) (Xi:attributeBase o name X.env (eval o X.env)=eval o X.env:=by rfl)
  (Yl:((backTo Xc (starEach (e::es) X.env)).all (λx=>!x.1)&&(backToKw Xc (keywordEach [] X.env)).all (λx=>x.1.isSome)
   &&decide ((e::es).length+([]:T0 Keyword).length+(if ([]:T0 Keyword).isEmpty then 0 else 1)<30))=true:=by rfl)
  (Xs:(W8.endLine==Xc.line)=true:=by rfl) (hs:A7 X e es:=by rfl) (Xn:CP X Xc es:=by rfl):
  PE X (.Call (.Attribute o name W8) (e::es) [] Xc) (WN X.K T r to t):=by
 intro W5 s Y H Q I h;refine wpAny_Call_method_late Xi Yl Xs rfl (sf (ho W5 s Y H _ I h) λv s1 zz=>?_);obtain⟨x,H1,I1,r1,ty,q1⟩:=zz;obtain⟨h1,h2⟩:=K2 I1 r1 ty;refine⟨T,id,pa,slot,hty,h1,h2,?_⟩;have hA:=ha Xc W5 s1 Y H1 _ I1 q1;rw[hs]at hA ⊢;refine jY (by show(false||(backTo Xc (starEach es X.env)).any (·.1))=false;rw[Xn]<;>rfl) (Calls.evalArgs_plain ?_);exact sf hA λus s2 zz=>x5 zz λvs H2 I2 r2 q2=>hm W5 s2 Y H2 x vs v us Q I2 r1 r2 q2
end
def WL(X:Cx)(id:String)(r:V->T0 V->Hp->VK->Prop):Prop:=
 ∀(W5:QQY) (s:Sd) (Y:St) (H:Hp) (x:V) (xs:T0 V) (v:Vl) (us:T0 Vl) (Q:VK),Inv X W5 Y H s->qC x v->qx xs us->r x xs H Q->
  wpAny (model X.prog X.w) X.A (call (.builtin id) (v::us)) (EP X W5 Y Q) X.xe s
def qx.one:∀{x:V} {us:T0 Vl},qx [x] us->∃u,us=[u]/\qC x u
 | _,_,.cons r .nil=>⟨_,rfl,r⟩
theorem qx.rep(h:qx xs us):∀k:Nat,qx (List.replicate k xs).flatten (List.replicate k us).flatten
 | 0=>.nil
 | k+1=>by rw[eF,eF,fN,fN];exact qx.append h (qx.rep h k)
theorem DQ(its:T0 Vl):∀(k:Nat) (acc:T0 Vl),List.foldl (λx1 x2=>x1++x2) acc.toArray (List.replicate k its.toArray)=(acc++(List.replicate k its).flatten).toArray
 | 0,acc=>by simp
 | k+1,acc=>by
  have e:acc.toArray++its.toArray=(acc++its).toArray:=by simp
  have e2:(acc++its)++(List.replicate k its).flatten=acc++(List.replicate (k+1) its).flatten:=by rw[eF,fN,fk]
  rw[<-e2,<-DQ its k (acc++its),<-e,eF,fU]
variable {W5:T0 (Addr × Obj)}{Y:St}{H:Hp}{s:Sd}{l:Addr}{xs ys zs:T0 V}
section
variable {b:Addr}
def Inv.lset{its its':T0 Vl}{n:Nat}{f:Array Vl->Array Vl}{t':Nat}(I:Inv X W5 Y H s)(hH:H l=some (.lst xs)) (e:s.heap.get? l=some {cls:=.type "list",data:=.seq its.toArray n}) (hf:f its.toArray=its'.toArray) (hv:qx ys its') (hz:ys.length<=sizeLine):
  Inv X W5 Y (upd H l (.lst ys)) {s with heap:=s.heap.update l (Obj.mapSeq f),toks:=t'}:=by
 have q:=PySem.IsL.update e f;rw[hf]at q;refine I.write (x:=l) (e:=l) (by rw[hH];exact trivial) (.inl rfl) (λb' u hb hu=>(fX s.heap (Obj.mapSeq f) (dI hb)).trans hu) ⟨_,q⟩ ?_;exact⟨hz,its',_,hv,q⟩
def Inv.oO{t':Nat}(I:Inv X W5 Y H s)(hv:qx ys its)(hz:ys.length<=sizeLine):
  Inv X W5 Y (upd H s.heap.objs.size (.lst ys)) {s with heap:=s.heap.push {cls:=.type "list",data:=.seq its.toArray},toks:=t'}:=
 I.laid (λ_ _ q=>cY _ q) (dg _) ⟨hz,its,0,hv,dE _ rfl⟩
def Inv.fresh(I:Inv X W5 Y H s):H s.heap.objs.size=none:=I.mM.fresh (dg _)
def Inv.oR(I:Inv X W5 Y H s)(hH:H l=some (.lst xs)):xs.length<=sizeLine/\∃(its:T0 Vl) (n:Nat),qx xs its/\xs.length=its.length/\s.heap.get? l=some {cls:=.type "list",data:=.seq its.toArray n}:=by obtain⟨z,its,n,r,e⟩:=I.mM l _ hH;exact⟨z,its,n,r,r.length,e⟩
def Nu{n:Nat}(h:n<=sizeLine):Builtin.List.listTooLong n=false:=by unfold Builtin.List.listTooLong;exact eM (by omega)
end
def Qs:V->T0 V->Hp->VK->Prop:=λx vs H Q=>∃l xs y,x=.ref l/\vs=[y]/\H l=some (.lst xs)/\xs.length<sizeLine/\Q .mG (upd H l (.lst (xs++[y])))
def JO:WL X "list.append" Qs:=by intro W5 s Y H x vs v us Q I rx rv h;obtain⟨l,xs,y,rfl,rfl,hH,hz,q⟩:=h;cases rx;obtain⟨u,rfl,ru⟩:=rv.one;obtain⟨z,its,n,r,hl,e⟩:=I.oR hH;refine js F.slot_list_append ⟨_,e,rfl⟩ F.entry_list_append (F.args_list_append_2 _ _) (PySem.list_append l its.toArray n u (by rw[dh];omega)) ⟨e,?_⟩;refine⟨.mG,_,I.lset (its':=its++[u]) hH e (by simp) (r.append (.cons ru .nil)) ?_,rfl,q⟩;rw[cW,dN];omega
def Vr:R2:=λx y H Q=>∃l k xs,x=.ref l/\y=.int k/\H l=some (.lst xs)/\-(2 ^ 63)<=k/\k<2 ^ 63/\xs.length*k.toNat<=sizeLine/\
 ∀p,H p=none->Q (.ref p) (upd H p (.lst (List.replicate k.toNat xs).flatten))
def Qk{α:Type}(xs:List α)(k:Nat):(List.replicate k xs).flatten.length=k*xs.length:=by
 induction k with
 | zero=>simp
 | succ k ih=>rw[eF,fN,cW,ih,mj,Nat.add_comm]
def RZ:xk X (binaryOp .Mult) Vr:=by
 intro W5 s Y H x y v u Q I rx ry h;obtain⟨l,k,xs,rfl,rfl,hH,h1,h2,hz,q⟩:=h;cases rx;obtain⟨t,rfl⟩:=ry;obtain⟨z,its,n,r,hl,e⟩:=I.oR hH;have Xb:its.toArray.size*k.toNat<=sizeLine:=by rw[dh,<-hl];exact hz
 have hcap:¬its.toArray.size*k.toNat>(2 ^ 63 - 1) / 8:=by
  have:(sizeLine:Nat)<=(2 ^ 63 - 1) / 8:=by decide
  omega
 have XD:¬(!Builtin.List.listFitsIndex k)=true:=by rw[fitsIndex_both h1 h2];exact dw
 have hlong:¬Builtin.List.listTooLong (its.toArray.size*k.toNat)=true:=by rw[Nu Xb];exact dw
 have YN:List.foldl (λx1 x2=>x1++x2) #[] (List.replicate (if its.toArray.isEmpty=true then 0 else k.toNat) its.toArray)=(List.replicate k.toNat its).flatten.toArray:=by
  have f0:∀m:Nat,List.foldl (λx1 x2=>x1++x2) #[] (List.replicate m its.toArray)=(List.replicate m its).flatten.toArray:=λm=>by have:=DQ its m [];rw[dY]at this;exact this
  rw[f0];cases its with
  | nil=>simp
  | cons a r'=>rw[cX (by simp)]
 refine wpAny_binaryOp_repeat_ref (T:="list") (U:="int") (by decide) ⟨_,e,rfl⟩ (λs'=>lU s' k t) noFill_list_mul F.fills_int_mul lV repeat_list F.slot_int_index.lookup
  (js lV (lU s k t) F.entry_int_rmul (F.args_int_rmul_2 _ _) (int___rmul___int_list k t l its.toArray n)
   ⟨e,rfl,⟨_,e,rfl⟩,js F.slot_list_mul ⟨_,e,rfl⟩ F.entry_list_mul (F.args_list_mul_2 _ _) (AutoListH.list___mul___list_int_3 l its.toArray n k t XD hcap hlong) ⟨e,?_⟩⟩)
 rw[YN];exact⟨.ref _,_,I.oO (t':=s.toks) (r.rep k.toNat) (by rw[Qk,Nat.mul_comm];exact hz),rfl,q _ I.fresh⟩
variable {prog:Pg}{w:Wo}{A:Ar}{E:QQX}
end L2
namespace Att
open PySem PySem.W PySem.Calls PyProof.Rows
def A0:∀(ns:T0 Int) (vs:T0 Vl),WellAll P h vs (ns.map WData.int)->IntsAre vs ns:=by
 intro ns;induction ns with
 | nil=>intro vs w;rw[iO]at w;cases w;exact .nil
 | cons n ns ih=>
  intro vs w;rw[dR]at w;cases w with
  | cons a b=>cases a;exact .cons _ _ (ih _ b)
def JZ{l:OpenLaw}{n:Nat}(hn:l.most=some n){P:Params}{h:Heap}{args:T0 WData}{ZT:T0 Vl} (Zf:l.row.toRowW.claim.pre args=true) (hwl:WellAll P h ZT args):
  ∃a vs ns,ZT=[Value.ref a]/\args=[WData.list (ns.map WData.int)]/\h.get? a=some {cls:=.type "list",data:=.seq vs.toArray}/\IntsAre vs ns/\ns.length<=n:=by
 have hsh:WShape.hasAll [] args [.list .int]=true:=(pre_splitW Zf).1;have hc:l.pre.holds [] {args:=args}=true:=(pre_splitW Zf).2;obtain⟨d,r,rfl,h1,h2⟩:=hasAllW_cons hsh;obtain rfl:=hasAllW_nil h2;obtain⟨xs,rfl,h3⟩:=hasW_list h1;obtain⟨ns,rfl⟩:=items_int h3;have Xb:ns.length<=n:=by
  unfold OpenLaw.pre at hc;have h4:(WTm.not (.lt (.lit (.int (n:Int))) (.len (.arg 0)))).holds [] {args:=[.list (ns.map .int)]}=true:=by have h4:=(holds_andW hc).1;rw[hn]at h4;exact h4
  have h5:=condW_of h4 (w_not (w_lt w_lit (w_len_list (w_arg rfl))));rw[cS]at h5;refine jD λq=>?_;have q':(n:Int)<((ns.length:Nat):Int):=by omega
  first
   | (rw[dS q']at h5;exact absurd h5 (by decide))
   | (simp at h5;omega)
 cases hwl with
 | cons w1 w2=>
  cases w2;cases w1 with
  | list ho X9=>exact⟨_,_,ns,rfl,rfl,ho,A0 ns _ X9,Xb⟩
def J6(l:OpenLaw)(args:T0 WData):l.row.toRowW.claim.post args (.bool true) args=true:=
 postW_of (r:=l.row.toRowW) (X:=(true==true))
  (show WShape.has [] (.bool true) .bool=true by first|rfl|decide|simp[WShape.has,WShape.arms,WShape.armsAll])
  (show(WTm.eq .res (.lit (.bool true))).value [] {args:=args,res:=some (.bool true),after:=args}=some (.bool (true==true))from w_eq_bool (w_res rfl) w_lit) rfl
def attach_call{l:OpenLaw}{n:Nat}{YP:Wo->Heap->Prop}{d:DefRec} (hn:l.most=some n) (Zu:d.params.defaults=[]) (call:∀(w:Wo) (s₀ s₁:Sd) (mg mb:QQZ) (fa:Addr) (o:Obj) (pm cd XI:Vl) (a:Addr) (vs:T0 Vl) (ns:T0 Int),Ground q XU [] XP w s₀ mg mb s₁.heap->YP w s₁.heap->
   s₁.heap.get? fa=some o->o.data=.func (docDef d.name d.params d.body d.scope pm cd XI)->s₁.heap.CodeRec cd d.name->mg d.name=some (.ref fa)->
   s₁.heap.get? a=some {cls:=.type "list",data:=.seq vs.toArray}->IntsAre vs ns->ns.length<=n->s₁.gens=#[]->
   codeAny (model l.prog w) callerA (.call (.ref fa) ⟨[.ref a],[]⟩) (λr s'=>r=.ok (.ret (.bool true))/\OldK s₁.heap s'.heap/\s'.os=s₁.os/\AllBare s'.gens) s₁):
  WalkO q XU XP YP l.row.toRowW d [] (λf vs=>PySem.call f vs):=by
 intro w s₀ s₁ mg mb G Y fa o pm cd XI dV kV ho hd X8 hD hmg hg args ZT as Zf hlay hrd hwl hlo;obtain rfl:dV=.none:=Dflts.none hD Zu;obtain rfl:kV=.none:=Dflts.noKw hD;obtain⟨a,vs,ns,rfl,rfl,ZU,YO,Xb⟩:=JZ hn Zf hwl;refine enter_call (gh (call w s₀ s₁ mg mb fa o pm cd XI a vs ns G Y ho (fd_plain hd) X8 hmg ZU YO Xb hg) λr s' hq=>?_);obtain⟨rfl,h2,h3,h4⟩:=hq;exact⟨.inl ⟨.bool true,.bool true,[],rfl,λ_=>rfl,.bool true,J6 l _,λ_=>⟨List.Pairwise.nil,λ_ hm=>(nomatch hm)⟩⟩,h2,h3,h4⟩
variable {prog:Pg}{w:Wo}{A:Ar}{E:QQX}{s:Sd}{K:Frag}
end Att
namespace L2
theorem DH:∀{vs:T0 Vl} {ns:T0 Int},IntsAre vs ns->qx (ns.map V.int) vs
 | _,_,.nil=>.nil
 | _,_,.cons n t h=>.cons ⟨t,rfl⟩ (DH h)
def Ll(H:Hp):Prop:=∀b,H b=none\/∃o xs,H b=some (.frz o (.lst xs))
def Mv{P:Pg}{w:Wo}{K:qh}{mg mb:QQZ}{CX:KQ}{fa a:Addr}{fd:FuncData}{x:Str}{sp:Sp}{s₁:Sd}{vs:T0 Vl} (KX:K.In s₁.heap) (hns:s₁.heap.Ns mainGlobals mg) (hb:s₁.heap.Ns builtinsNs mb) (hbb:∀x:Str,x≠"__name__"->mb x=bootBuiltins x) (hlim:s₁.heap.NoLimit) (hg:s₁.gens=#[]) (ha:s₁.heap.get? a=some {cls:=.type "list",data:=.seq vs.toArray}) (hi:IntsAre vs ns) (hl:ns.length<=sizeLine) (hr:rO k callerA)
  (F:∀base:Heap,K.In base->base.Ns mainGlobals mg->wZ P w K mg base CX k fa fd [x] sp) (hbind:∀(s:Sd) (u:Vl),BindsTo s fd ⟨[u],[]⟩ [(x,u)])
  (YB:∀H:Hp,Ll H->yU K H a (ns.map V.int)->sp [.ref a] H (λv _=>v=.bl true) λ_ _ _=>False)
  (hCX:∀H e s',CX [] H s₁ (λ_ _ _=>False) e s'->False):
  codeAny (model P w) callerA (.call (.ref fa) ⟨[.ref a],[]⟩) (λr s'=>r=.ok (.ret (.bool true))/\OldK s₁.heap s'.heap/\s'.os=s₁.os/\AllBare s'.gens) s₁:=by
 have rv:=DH hi;have lenV:=hi.length;have core:∀H:Hp,Ll H->yU K H a (ns.map V.int)->yc P w H s₁.heap->(∀b,H b≠none->b=a)->(H a≠none->K.lookup a=none)->
   codeAny (model P w) callerA (.call (.ref fa) ⟨[.ref a],[]⟩) (λr s'=>r=.ok (.ret (.bool true))/\OldK s₁.heap s'.heap/\s'.os=s₁.os/\AllBare s'.gens) s₁:=by
  intro H hO hS mM hA hK;have Yv:∀{b:Addr} {o:Obj},s₁.heap.get? b=some o->H b=none->(E9 s₁.heap H).get? b=some o:=λe n=>Nm e n;have noA:∀{b:Addr} {o:Obj} {es:Array DictEntry} {ep:Nat},s₁.heap.get? b=some o->o.data=.dict es ep->H b=none:=λ{b o es ep} e d=>by
   cases q:H b with
   | none=>rfl
   | some u=>have e':b=a:=hA b (by rw[q];simp);subst e';rw[ha]at e;cases e;have d':Data.seq vs.toArray _=Data.dict es ep:=d;cases d'
  have nsK:∀{b:Addr} {m:QQZ},s₁.heap.Ns b m->(E9 s₁.heap H).Ns b m:=λ{b m} ⟨o,es,ep,e,d,r⟩=>⟨o,es,ep,Yv e (noA e d),d,r⟩;have hKb:K.In (E9 s₁.heap H):=λb o e=>Yv (KX b o e) (by
   cases q:H b with
   | none=>rfl
   | some u=>
    have e':b=a:=hA b (by rw[q];simp);subst e';rw[hK (by rw[q];simp)]at e;cases e)
  have hM:Mod K mg (E9 s₁.heap H):=⟨hKb,nsK hns,⟨mb,nsK hb,hbb⟩,let⟨mc,h1,h2⟩:=hlim;⟨mc,nsK h1,h2⟩⟩;have e0:Io P w K mg (E9 s₁.heap H) callerA [] s₁ H:=⟨rfl,hM,λb o e=>OJ e,mh (J2 _ _),trivial,λb hb=>absurd (show b∈([]:QXQ)from hb) (by simp),mM,.of_eq hg⟩;refine gh ((F _ hKb (nsK hns)).run callerA [] s₁ H ⟨[.ref a],[]⟩ [.ref a] [.ref a] _ _ hr e0 (hbind s₁ (.ref a)) (.cons rfl .nil) (YB H hO hS)) λr s' h=>?_;cases r with
  | error e=>exact(hCX H e s' h).elim
  | ok fl=>
   cases fl with
   | next=>exact False.elim h
   | brk=>exact False.elim h
   | cont=>exact False.elim h
   | ret u=>
    obtain⟨v,H',os,bare,un,ZV,r',q⟩:=h;have q':v=.bl true:=q;subst q';obtain rfl:u=Value.bool true:=r';refine⟨rfl,OldK.of_keep λb o e=>?_,os,bare⟩;cases q:H b with
    | none=>exact un.keep b o e q (by intro z;exact absurd (show b∈([]:QXQ)from z) (by simp)) (by simp)
    | some u=>
     rcases hO b with z|⟨ob,xs,z⟩
     .rw[q]at z;cases z
     .have z2:=un.m9 b ob _ z;obtain⟨e1,_⟩:=mM b _ z;obtain⟨e2,_⟩:=ZV b _ z2;rw[e]at e1;cases e1;exact e2
 cases hk:K.lookup a with
 | some o=>have e:=KX a o hk;rw[ha]at e;cases e;refine core (λ_=>none) (λ_=>.inl rfl) (.inr ⟨_,vs.toArray,_,hk,rfl,rfl,rfl,by rw[dh,lenV];exact hl,by simpa using rv⟩) (λb u z=>by have z':(none:Option HO)=some u:=z;cases z') (λb z=>absurd rfl z) λz=>absurd rfl z
 | none=>
  refine core (λb=>if b=a then some (.frz {cls:=.type "list",data:=.seq vs.toArray} (.lst (ns.map V.int)))else none) (λb=>?_) (.inl (.inr ⟨{cls:=.type "list",data:=.seq vs.toArray},cZ rfl⟩)) (λb u z=>?_) (λb z=>?_) λ_=>hk
  .by_cases hb:b=a
   .exact .inr ⟨_,_,cZ hb⟩
   .exact .inl (cX hb)
  .by_cases hb:b=a
   .have z':=(cZ hb).symm.trans z;cases z';subst hb;exact⟨ha,by rw[cS];exact hl,vs,_,rv,ha⟩
   .have z':=(cX hb).symm.trans z;cases z'
  .by_cases hb:b=a
   .exact hb
   .exact absurd (cX hb) z
def P8{l:W.OpenLaw}{n k:Nat}{q:Pg}{XU:QQQ}{XP:(QQZ)->Heap->Prop}{YP:Wo->Heap->Prop}{d:DefRec}{K:Params->qh}{CX:Wo->KQ}{sp:Wo->Sp}{x:Str} (hn:l.most=some n) (ZO:n<=sizeLine) (Zu:d.params.defaults=[]) (hr:rO k callerA) (hY:∀(w:Wo) (h:Heap),YP w h->(K w.params).In h) (F:∀(w:Wo) (mg:QQZ) (fa:Addr) (h:Heap),(K w.params).In h->h.Ns mainGlobals mg->mg d.name=some (.ref fa)->
   ∃fd:FuncData,(∀(s:Sd) (u:Vl),BindsTo s fd ⟨[u],[]⟩ [(x,u)])/\
    ∀base:Heap,(K w.params).In base->base.Ns mainGlobals mg->wZ l.prog w (K w.params) mg base (CX w) k fa fd [x] (sp w))
  (YB:∀(w:Wo) (H:Hp) (a:Addr) (ns:T0 Int),ns.length<=n->Ll H->yU (K w.params) H a (ns.map V.int)->sp w [.ref a] H (λv _=>v=.bl true) λ_ _ _=>False)
  (hCX:∀(w:Wo) (H:Hp) (s:Sd) (e:Vl) (s':Sd),CX w [] H s (λ_ _ _=>False) e s'->False):
  W.WalkO q XU XP YP l.row.toRowW d [] (λf vs=>PySem.call f vs):=by
 refine Att.attach_call hn Zu λw s₀ s₁ mg mb fa o pm cd XI a vs ns G Y ho hd X8 hmg ZU YO Xb hg=>?_;have KX:=hY w _ Y;obtain⟨fd,hb,hF⟩:=F w mg fa _ KX G.T.g hmg;exact Mv KX G.T.g G.T.b G.T.builtins G.T.nolimit hg ZU YO (dW Xb ZO) hr hF hb (λH hO hS=>YB w H a ns Xb hO hS) λH e s'=>hCX w H s₁ e s'
def OX(s:Stmt)(j:Nat):Stmt:=match s with
 | .ClassDef _ _ _ body _ _ _ _ _ _ _=>body.getD j (.Pass ⟨0,0,0,0⟩)
 | _=>.Pass ⟨0,0,0,0⟩
def uo(s:Stmt):Arguments:=match s with
 | .FunctionDef _ a _ _ _ _ _ _ _ _=>a
 | _=>{posonlyargs:=[],args:=[],vararg:=none,kwonlyargs:=[],kw_defaults:=[],kwarg:=none,defaults:=[]}
def rG(s:Stmt):T0 Stmt:=match s with
 | .FunctionDef _ _ b _ _ _ _ _ _ _=>b
 | _=>[]
def pZ(s:Stmt):Scope:=match s with
 | .FunctionDef _ _ _ _ _ _ sc _ _ _=>sc
 | _=>{kind:=.function,names:=[],isGenerator:=false,isCoroutine:=false}
abbrev NW:KQ:=λ_ _ _ _ _ _=>False
abbrev E0:XK:=λ_ _ _=>False
def GT:CC NW X E0:=λ_ _ _ _ _ _ _ h=>h.elim
structure P4(K:qh)(x qual:Str)(st:Stmt)(f:Addr)(fd:FuncData):Prop where
 ex:∃(oc:Vl) (od:Option Addr) (kV XI pm:Vl) (an:Option Addr) (Xd ct:Vl) (X3:Array (Option Vl)),
  fd=W.fnOf x qual (uo st) (rG st) (pZ st) .none kV XI pm an Xd ct/\K.lookup f=some ⟨oc,od,.func fd,X3⟩/\W.codeIn K Xd qual=true
 kp:W.keepIn K (.ref f)=true
variable {P:Pg}{K:qh}{mg:QQZ}{base:Heap}
section
variable {w:Wo}
def P4.ok{st:Stmt}{sp:Sp}(F:P4 K x qual st f fd)(S:sW N ps (pZ st))(len:∀vs H Q E,sp vs H Q E->vs.length=ps.length) (Xr:∀(Xd:Vl) (A:Ar) (outer:T0 Env) (s:Sd) (H:Hp) (vs:T0 V) (Q:VK) (E:XK),rO k (A.deeper (envOfC qual (pZ st) s.heap.objs.size f Xd))->sp vs H Q E->
   ∃t,Cn (vc NW P w K mg base N qual (pZ st) f Xd A outer s H E).om (rG st) t/\t {nx:=λ_ H'=>Q .mG H',rt:=Q} (yd N vs) H):wZ P w K mg base NW (k+1) f fd ps sp:=by
 obtain⟨oc,od,kV,XI,pm,an,Xd,ct,X3,rfl,lk,X8⟩:=F.ex;refine Ma lk X8 S len λA outer s H vs Q E hr YB=>?_;obtain⟨t,h,q⟩:=Xr Xd A outer s H vs Q E hr YB;exact⟨t,h.om,q⟩
def P4.binds{st:Stmt}{ps:QQQ}(F:P4 K x qual st f fd) (h:∀(kV XI pm:Vl) (an:Option Addr) (Xd ct:Vl) (us:T0 Vl),us.length=ps.length->bindArgs (W.fnOf x qual (uo st) (rG st) (pZ st) .none kV XI pm an Xd ct) ⟨us,[]⟩=pure (ps.zip us)):uG K fd ps []:=by
 obtain⟨oc,od,kV,XI,pm,an,Xd,ct,X3,rfl,lk,X8⟩:=F.ex;exact .all (h kV XI pm an Xd ct)
def MB{st:Stmt}{oc:Vl}{od an:Option Addr}{X3:Array (Option Vl)}{kV XI pm Xd ct:Vl}(l:K.lookup f=some ⟨oc,od,.func (W.fnOf x qual (uo st) (rG st) (pZ st) .none kV XI pm an Xd ct),X3⟩) (c:W.codeIn K Xd qual=true) (k:W.keepIn K (.ref f)=true):P4 K x qual st f (W.fnOf x qual (uo st) (rG st) (pZ st) .none kV XI pm an Xd ct):=⟨⟨oc,od,kV,XI,pm,an,Xd,ct,X3,rfl,l,c⟩,k⟩
end
variable {X:Cx}
def pv(i:Nat){x:Str}{pos:Pos}(hN:X.N[i]?=some x:=by rfl)(hv:Rj X.env.scope x:=by first|exact Or.inl rfl|exact Or.inr (Or.inl rfl)|exact Or.inr (Or.inr rfl))(hd:zu x:=by decide)
  (X8:(x==("__classdict__":Str))=false:=by decide):PE X (.Name x pos) (EW i):=MI hN hv hd X8
def J5{A B:Prop}(h:B):if false=true then A else B:=by rw[cX dw];exact h
def O9{A B:Prop}(h:A):if true=true then A else B:=by rw[cZ rfl];exact h
def qA{c A B:Prop}[Decidable c](h1:c->A)(h2:¬c->B):if c then A else B:=by
 by_cases h:c
 .rw[cZ h];exact h1 h
 .rw[cX h];exact h2 h
def Ol(H H':Hp):Prop:=∀b o,H b=some o->H' b=some o
def Ol.trans(a:Ol H H1)(b:Ol H1 H2):Ol H H2:=λc o h=>b c o (a c o h)
section
variable {κ:Type}[DecidableEq κ]
def wk(kvs:T0 (κ×V))(k:κ):Option V:=(kvs.find? λkv=>decide (kv.1=k)).map (·.2)
def yI(kvs:T0 (κ×V))(k:κ)(v:V):T0 (κ×V):=
 if (kvs.any λkv=>decide (kv.1=k))=true then kvs.map (λkv=>if kv.1=k then(kv.1,v)else kv)else kvs++[(k,v)]
def Bz{p:κ×V}{r:T0 (κ×V)}{k:κ}(e:p.1=k):wk (p::r) k=some p.2:=by simp[wk,fH,e]
def CK{p:κ×V}{r:T0 (κ×V)}{k:κ}(e:¬p.1=k):wk (p::r) k=wk r k:=by simp[wk,fH,e]
theorem GS(k:κ):∀kvs:T0 (κ×V),(kvs.any λkv=>decide (kv.1=k))=(wk kvs k).isSome
 | []=>rfl
 | p::r=>by
  rw[fY];by_cases e:p.1=k
  .simp only[Bz e,dS e,gY,Option.isSome_some]
  .rw[CK e,eM e,fM];exact GS k r
def Ao(kvs:T0 (κ×V))(k:κ)(v:V):(yI kvs k v).length<=kvs.length+1:=by
 unfold yI;split
 .rw[cS];omega
 .rw[cW,eh,dM];omega
def x9.nu(r:x9 o u):o.isSome=u.isSome:=by
 cases o with
 | none=>cases u with
  | none=>rfl
  | some _=>exact(show False from r).elim
 | some _=>cases u with
  | none=>exact(show False from r).elim
  | some _=>rfl
def KV.val(r:KV kvs vs)(k:κ):x9 (wk kvs k) (valueAt vs k):=by
 unfold KV at r;induction r with
 | nil=>exact True.intro
 | @cons p q ps qs h t ih=>
  obtain⟨h1,h2⟩:=h;by_cases e:p.1=k
  .have e':q.1=k:=h1.symm.trans e;have b:valueAt (q::qs) k=some q.2:=by simp[valueAt,fH,e']
   rw[Bz e,b];exact h2
  .have e':¬q.1=k:=λz=>e (h1.trans z);have b:valueAt (q::qs) k=valueAt qs k:=by simp[valueAt,fH,e']
   rw[CK e,b];exact ih
def KV.any(r:KV kvs vs)(k:κ):(kvs.any λkv=>decide (kv.1=k))=vs.any λkv=>decide (kv.1=k):=by
 unfold KV at r;induction r with
 | nil=>rfl
 | cons h t ih=>rw[fY,fY,ih,h.1]
def KV.og(r:KV kvs vs)(k:κ){y:V}{u:Vl}(ry:qC y u):
  KV (kvs.map λkv=>if kv.1=k then(kv.1,y)else kv) (vs.map λkv=>if kv.1=k then(kv.1,u)else kv):=by
 unfold KV at r ⊢;induction r with
 | nil=>exact .nil
 | @cons p q ps qs h t ih=>
  rw[dR,dR];refine .cons ?_ ih;obtain⟨h1,h2⟩:=h;by_cases e:p.1=k
  .rw[cZ e,cZ (h1.symm.trans e)];exact⟨h1,ry⟩
  .rw[cX e,cX (λz=>e (h1.trans z))];exact⟨h1,h2⟩
def KV.put(r:KV kvs vs)(k:κ){y:V}{u:Vl}(ry:qC y u):KV (yI kvs k y) (stored vs k u):=by
 unfold yI stored;rw[r.any k];by_cases e:(vs.any λkv=>decide (kv.1=k))=true
 .rw[cZ e,cZ e];exact r.og k ry
 .rw[cX e,cX e];exact my r ⟨rfl,ry⟩
def KV.length(r:KV kvs vs):kvs.length=vs.length:=jk r
end
def Gy(r:qC (kV k) u):(rg P w).is k u=true:=by
 cases k with
 | inl i=>obtain⟨t,e⟩:=(show ∃t,u=Value.int i t from r);subst e;exact F5 P w i t
 | inr x=>obtain⟨t,e⟩:=(show ∃t,u=Value.str x t from r);subst e;exact As P w x t
theorem Dy:∀{ks:List qS} {us:T0 Vl},qx (ks.map kV) us->ItemsAre (rg P w) ks us
 | [],_,r=>by rw[iO]at r;cases r;exact .nil
 | k::ks,_,r=>by
  rw[dR]at r;cases r with
  | cons h t=>exact .cons (Gy h) (Dy t)
abbrev KT(H:Hp):T0 (List qS×V)->T0 (List qS×Addr×Vl)->Prop:=Paired λp q=>p.1=q.1/\H q.2.1=some (.tup (p.1.map kV))/\qC p.2 q.2.2
def KT.val(r:KT H kvs xs)(k:List qS):x9 (wk kvs k) ((atKey xs k).map (·.2)):=by
 induction r with
 | nil=>exact True.intro
 | @cons p q ps qs h t ih=>
  obtain⟨h1,_,h2⟩:=h;by_cases e:p.1=k
  .have e':q.1=k:=h1.symm.trans e;have b:atKey (q::qs) k=some q.2:=by simp[atKey,fH,e']
   rw[Bz e,b];exact h2
  .have e':¬q.1=k:=λz=>e (h1.trans z);have b:atKey (q::qs) k=atKey qs k:=by simp[atKey,fH,e']
   rw[CK e,b];exact ih
def KT.og(r:KT H kvs xs)(k:List qS){y:V}{u:Vl}(ry:qC y u):
  KT H (kvs.map λkv=>if kv.1=k then(kv.1,y)else kv) (xs.map (putAt k u)):=by
 induction r with
 | nil=>exact .nil
 | @cons p q ps qs h t ih=>
  rw[dR,dR];refine .cons ?_ ih;obtain⟨h1,h2,h3⟩:=h;unfold putAt;by_cases e:p.1=k
  .rw[cZ e,cZ (h1.symm.trans e)];exact⟨h1,h2,ry⟩
  .rw[cX e,cX (λz=>e (h1.trans z))];exact⟨h1,h2,h3⟩
def KT.put(r:KT H kvs xs)(k:List qS){b:Addr}{y:V}{u:Vl}(hb:H b=some (.tup (k.map kV)))(ry:qC y u):
  KT H (yI kvs k y) (storedH xs k b u):=by
 have e:(kvs.any λkv=>decide (kv.1=k))=(atKey xs k).isSome:=by rw[GS,(r.val k).nu,jo]
 unfold yI storedH;rw[e];by_cases q:(atKey xs k).isSome=true
 .rw[cZ q,cZ q];exact r.og k ry
 .rw[cX q,cX q];exact my r ⟨rfl,hb,ry⟩
def KT.keeps{H H':Hp}(r:KT H kvs xs)(ht:∀b ys,H b=some (.tup ys)->H' b=some (.tup ys)):KT H' kvs xs:=
 Paired.ow r λ_ _ z=>⟨z.1,ht _ _ z.2.1,z.2.2⟩
variable {H:Hp}{h:Heap}{a:Addr}
section
variable {w:Wo}
def QN(ok:yc P w H h)(e:Rd H a u):sJ P w H h a u:=e.ok ok
def Ji{kvs:T0 (qS×V)}(ok:yc P w H h)(e:Rd H a (.dK kvs)):kvs.length<=sizeLine/\(a==sysModules)=false/\∃vs,KV kvs vs/\h.DictOf (rg P w) a vs:=
 show sJ P w H h a (.dK kvs)from QN ok e
def T9{kvs:T0 (qS×V)}(ok:yc P w H h)(e:H a=some (.dK kvs)):kvs.length<=sizeLine/\(a==sysModules)=false/\∃vs,KV kvs vs/\h.DictOf (rg P w) a vs:=Ji ok (.inl e)
def FK{ks:List qS}(ok:yc P w H h)(e:H a=some (.tup (ks.map kV))):(tupleKind (rg P w)).is h ks a:=by obtain⟨_,its,r,o,h1,h2,⟨n,h3⟩,_⟩:=(show sJ P w H h a (.tup (ks.map kV))from ok a _ e);exact⟨o,its.toArray,n,h1,h2,h3,by simpa using Dy r⟩
def Iz{kvs:T0 (List qS×V)}(ok:yc P w H h)(e:Rd H a (.dT kvs)):kvs.length<=sizeLine/\(a==sysModules)=false/\
  ∃xs,KT H kvs xs/\h.DictOfH (tupleKind (rg P w)) a xs:=by
 obtain⟨z,y,xs,r,o,es,ep,h1,h2,h3,h4,h5⟩:=(show sJ P w H h a (.dT kvs)from QN ok e);refine⟨z,y,xs,r,o,es,ep,h1,h2,h3,h4,λx hx=>?_,h5⟩;have all:∀{l:T0 (List qS×V)} {m:T0 (List qS×Addr×Vl)},KT H l m->∀x∈m,(tupleKind (rg P w)).is h x.1 x.2.1:=by
  intro l m q;induction q with
  | nil=>intro x hx;exact nomatch hx
  | @cons p q ps qs hq t ih=>
   intro x hx;rcases de.mp hx with e|hx
   .subst e;exact FK ok (by rw[<-hq.1];exact hq.2.1)
   .exact ih x hx
 exact all r x hx
def US{kvs:T0 (List qS×V)}(ok:yc P w H h)(e:H a=some (.dT kvs)):kvs.length<=sizeLine/\(a==sysModules)=false/\
  ∃xs,KT H kvs xs/\h.DictOfH (tupleKind (rg P w)) a xs:=Iz ok (.inl e)
end
def EM(H:Hp)(a:Addr)(y:V)(r:Option V):Prop:=
 (∃kvs k,Rd H a (.dK kvs)/\y=kV k/\r=wk kvs k)\/∃kvs k b,Rd H a (.dT kvs)/\y=.ref b/\H b=some (.tup (k.map kV))/\r=wk kvs k
def KW(H:Hp)(a:Addr)(y v:V)(H':Hp):Prop:=
 (∃kvs k,H a=some (.dK kvs)/\y=kV k/\kvs.length<sizeLine/\H'=upd H a (.dK (yI kvs k v)))\/
 ∃kvs k b,H a=some (.dT kvs)/\y=.ref b/\H b=some (.tup (k.map kV))/\kvs.length<sizeLine/\H'=upd H a (.dT (yI kvs k v))
def EM.k{H:Hp}{a:Addr}{kvs:T0 (qS×V)}{k:qS}(e:H a=some (.dK kvs)):EM H a (kV k) (wk kvs k):=.inl ⟨kvs,k,.inl e,rfl,rfl⟩
def KW.k{H:Hp}{a:Addr}{kvs:T0 (qS×V)}{k:qS}(e:H a=some (.dK kvs))(hl:kvs.length<sizeLine):KW H a (kV k) v (upd H a (.dK (yI kvs k v))):=.inl ⟨kvs,k,e,rfl,hl,rfl⟩
variable {W5:T0 (Addr × Obj)}{Y:St}{y v:V}{u r:Vl}
section
variable {s:Sd}{o:Option V}{A:Ar}{E:QQX}
def Inv.big(I:Inv X W5 Y H s):sysModules<s.heap.objs.size:=by have h:mainGlobals<s.heap.objs.size:=(I.mod.glob.keeps I.bk).lt;exact il (by decide) h
def Kw{Q:QQX}(hu:A.units+1<cLine)(I:Inv X W5 Y H s)(g:EM H a y (some v))(ry:qC y u)(h:∀w' s',Inv X W5 Y H s'->qC v w'->Q w' s'):
  wpAny (model X.prog X.w) A (getItem (.ref a) u) Q E s:=by
 rcases g with⟨kvs,k,e,ey,l⟩|⟨kvs,k,b,e,ey,eb,l⟩
 .subst ey;obtain⟨z,hd,vs,rel,dd⟩:=Ji I.mM e;obtain⟨w',hw,Ze⟩:=x9.some_of (v:=v) (o:=valueAt vs k) (by rw[l];exact rel.val k);exact wpAny_getItem_of (Gy ry) dd.mapOf hw (h w' _ (I.tok _) Ze)
 .subst ey;cases(show u=Value.ref b from ry);obtain⟨z,hd,xs,rel,dd⟩:=Iz I.mM e;obtain⟨w',hw,Ze⟩:=x9.some_of (v:=v) (o:=(atKey xs k).map (·.2)) (by rw[l];exact rel.val k);obtain⟨p,hp,Xf⟩:=iE.mp hw;refine wpAny_getItem_heap (jf hu) (FK I.mM eb) dd hp ?_;rw[Xf];exact h w' _ (I.tok _) Ze
def Vs{Q:QQX}(hu:A.units+1<cLine)(I:Inv X W5 Y H s)(g:EM H a y o)(ry:qC y u)(h:∀s',Inv X W5 Y H s'->Q (.bool o.isSome) s'):
  wpAny (model X.prog X.w) A (compareOp .In u (.ref a)) Q E s:=by
 rcases g with⟨kvs,k,e,ey,l⟩|⟨kvs,k,b,e,ey,eb,l⟩
 .subst ey;obtain⟨z,hd,vs,rel,dd⟩:=Ji I.mM e;refine wpAny_in_of (Gy ry) hd dd.mapOf ?_;rw[<-(rel.val k).nu,<-l];exact h _ (I.tok _)
 .subst ey;cases(show u=Value.ref b from ry);obtain⟨z,hd,xs,rel,dd⟩:=Iz I.mM e;refine wpAny_in_heap (jf hu) (FK I.mM eb) hd dd ?_;have q:=(rel.val k).nu;rw[jo]at q;rw[<-q,<-l];exact h _ (I.tok _)
def Jt{t':Nat}(I:Inv X W5 Y H s)(mu:TZ (H a))(hs:Heap.SameBut a s.heap h')(he:∃q,h'.get? a=some q)(new:sJ X.prog X.w (upd H a ob) h' a ob):
  Inv X W5 Y (upd H a ob) {s with heap:=h',toks:=t'}:=
 I.write (x:=a) (e:=a) mu (.inl rfl) (λb q hb z=>(hs.2 b hb).trans z) he new
def Mr{H':Hp}{h':Heap}{kvs:T0 (qS×V)}(z:kvs.length<=sizeLine)(hd:(a==sysModules)=false)(rel:KV kvs vs)(dd:h'.DictOf (rg P w) a vs):
  sJ P w H' h' a (.dK kvs):=⟨z,hd,vs,rel,dd⟩
def Kx{Q:Unit->Sd->Prop}(hu:A.units+1<cLine)(I:Inv X W5 Y H s)(g:KW H a y v H')(ry:qC y u)(rv:qC v r)(h:∀s',Inv X W5 Y H' s'->Q () s'):
  wpAny (model X.prog X.w) A (setItem (.ref a) u r) Q E s:=by
 rcases g with⟨kvs,k,e,ey,l,eH⟩|⟨kvs,k,b,e,ey,eb,l,eH⟩
 .subst ey eH;obtain⟨z,hd,vs,rel,dd⟩:=T9 I.mM e;have hz:vs.length<=sizeLine:=by rw[<-rel.length];exact z
  have hl:(yI kvs k v).length<=sizeLine:=by have:=Ao kvs k v;omega
  refine wpAny_setItem_pairs (hsz:=hz) (Gy ry) dd λh' dd' hs=>h _ ?_;have he:∃q,h'.get? a=some q:=let⟨q,_,_,hq,_⟩:=dd';⟨q,hq⟩;exact Jt I (by rw[e];exact True.intro) hs he (Mr hl hd (rel.put k rv) dd')
 .subst ey eH;cases(show u=Value.ref b from ry);obtain⟨z,hd,xs,rel,dd⟩:=US I.mM e;have hz:xs.length<=sizeLine:=by rw[<-jk rel];exact z
  have hl:(yI kvs k v).length<=sizeLine:=by have:=Ao kvs k v;omega
  refine wpAny_setItem_heap (hsz:=hz) (jf hu) (FK I.mM eb) dd λh' dd' hs=>h _ ?_;obtain⟨q,es,ep,hq,h2,h3,h4,_,h5⟩:=dd';refine Jt I (by rw[e];exact True.intro) hs ⟨q,hq⟩ ⟨hl,hd,_,(rel.put k eb rv).keeps λc ys ec=>?_,q,es,ep,hq,h2,h3,h4,h5⟩;rw[pQ (U7 ec e (λz=>nomatch z))];exact ec
end
variable {kvs:T0 (qS × V)}{k:qS}
section
variable {s:Sd}{A:Ar}{E:QQX}
end
def Hg{W5:QQY}(I:Inv X W5 Y H s)(g:EM H a y o):s.TypeIs (.ref a) "dict":=by
 rcases g with⟨kvs,k,e,_,_⟩|⟨kvs,k,b,e,_,_,_⟩
 .obtain⟨_,_,vs,_,dd⟩:=Ji I.mM e;exact dd.typeIs
 .obtain⟨_,_,xs,_,dd⟩:=Iz I.mM e;exact dd.typeIs
def Ux(td ty tv:TE):TS:=λD Y H=>tv Y H λv H1=>td Y H1 λx H2=>ty Y H2 λy H3=>∃a H4,x=.ref a/\KW H3 a y v H4/\D.nx Y H4
variable {i e value:Expr}{pos Xh Zd:Pos}{td ty tv:TE}
section
variable {o:Expr}
def Pj(hu:X.A.units+1<cLine)(ho:PE X o td)(hi:PE X i ty)(hv:PE X value tv)(hs:swapsWith value (some (.Subscript o i Xh)) pos.line X.env=pure false):
  PS X (.Assign [.Subscript o i Xh] value pos) (Ux td ty tv):=by
 intro W5 s Y H D I h;refine wpAny_Assign_Subscript (sf (hv W5 s Y H _ I h) λr s1 zz=>x5 zz λv H1 I1 rv q1=>sf (ho W5 s1 Y H1 _ I1 q1) λu s2 zz=>x5 zz λx H2 I2 rx q2=>sf (hi W5 s2 Y H2 _ I2 q2) λiv s3 zz=>?_) hs;obtain⟨y,H3,I3,ry,a,H4,ex,g,q3⟩:=zz;subst ex;obtain rfl:u=Value.ref a:=rx;exact Kx hu I3 g ry rv λs4 I4=>⟨Y,H4,I4,q3⟩
end
structure M1(X:Cx)(o:Expr)(m:Str)(W8:Pos)(e:Expr)(Xc:Pos):Prop where
 base:attributeBase o m X.env (eval o X.env)=eval o X.env
 oW:((backTo Xc (starEach [e] X.env)).all (λx=>!x.1)&&(backToKw Xc (keywordEach [] X.env)).all (λx=>x.1.isSome)
  &&decide (([e]:List Expr).length+([]:List Keyword).length+(if ([]:List Keyword).isEmpty then 0 else 1)<30))=true
 line:(W8.endLine==Xc.line)=true
 trees:backTo Xc (starEach [e] X.env)=[(false,eval e X.env)]
structure M2(X:Cx)(o:Expr)(m:Str)(W8:Pos)(e f:Expr)(Xc:Pos):Prop where
 base:attributeBase o m X.env (eval o X.env)=eval o X.env
 oW:((backTo Xc (starEach [e,f] X.env)).all (λx=>!x.1)&&(backToKw Xc (keywordEach [] X.env)).all (λx=>x.1.isSome)
  &&decide (([e,f]:List Expr).length+([]:List Keyword).length+(if ([]:List Keyword).isEmpty then 0 else 1)<30))=true
 line:(W8.endLine==Xc.line)=true
 trees:backTo Xc (starEach [e,f] X.env)=[(false,eval e X.env),(false,eval f X.env)]
variable {d:V}
section
variable {s:Sd}{o:Option V}{A:Ar}{E:QQX}
end
variable {f:Expr}{W8 Xc:Pos}{tx:TE}
section
variable {o:Expr}
end
section
variable {s:Sd}{A:Ar}{E:QQX}
end
section
variable {s:Sd}{A:Ar}{E:QQX}
end
section
variable {κ:Type}[DecidableEq κ]
end
def AJ(env:Env):T0 (Str×NameKind)->T0 (Str×Addr)->T0 (Str×Addr)
 | [],acc=>acc
 | (n,k)::r,acc=>AJ env r (if k==.free then(n,(env.cells.lookup n).getD 0)::acc else acc)
theorem G0{env:Env}{f:(Str×NameKind)->T0 (Str×Addr)->Sem (ForInStep (T0 (Str×Addr)))} (hf:∀x cs,(x.2=.free->∃c,env.cells.lookup x.1=some c)->f x cs=pure (.yield (if x.2==.free then(x.1,(env.cells.lookup x.1).getD 0)::cs else cs))):
  ∀(l:T0 (Str×NameKind)) (acc:T0 (Str×Addr)),(∀x∈l,x.2=.free->∃c,env.cells.lookup x.1=some c)->forIn l acc f=pure (AJ env l acc)
 | [],acc,_=>by rw[jZ];rfl
 | (n,k)::r,acc,h=>by rw[jQ,hf (n,k) acc (h _ dG),pure_bind];exact G0 hf r _ λx hx=>h x (dA _ hx)
def yk{scope:Scope}{env:Env}(h:∀x∈scope.names,x.2=.free->∃c,env.cells.lookup x.1=some c):closureFor scope env=pure (AJ env scope.names []):=by
 unfold closureFor;have e:=G0 (env:=env) (f:=λ(x:Str×NameKind) (cs:T0 (Str×Addr))=>(do
   if x.2==.free then
    let a<-cellOf env x.1
    pure (ForInStep.yield ((x.1,a)::cs))
   else pure (ForInStep.yield cs))) (λx cs hx=>by
  cases hk:x.2==NameKind.free with
  | false=>simp
  | true=>
   obtain⟨c,hc⟩:=hx (by simpa using hk);simp[cellOf,hc]) scope.names [] h
 first
  | exact(eO (·>>=pure) e).trans (by simp)
  | (simp only[bind_pure];exact e)
  | (rw[<-e];rfl)
theorem K'{env:Env}{x:Str}{c:Addr}:∀{l:T0 (Str×NameKind)} {acc:T0 (Str×Addr)},(∀x∈l,x.2=.free->∃c,env.cells.lookup x.1=some c)->(∀x c,acc.lookup x=some c->env.cells.lookup x=some c)->(AJ env l acc).lookup x=some c->env.cells.lookup x=some c
 | [],acc,_,ha,h=>ha x c h
 | (n,k)::r,acc,hl,ha,h=>by
  refine K' (l:=r) (acc:=if k==.free then(n,(env.cells.lookup n).getD 0)::acc else acc) (λy hy=>hl y (dA _ hy)) (λy d hd=>?_) h;cases hk:k==NameKind.free with
  | false=>rw[hk]at hd;exact ha y d (by simpa using hd)
  | true=>
   rw[hk,cZ rfl]at hd;obtain⟨e,he⟩:=hl (n,k) dG (by simpa using hk);rw[eE]at hd;cases hy:y==n with
   | true=>
    rw[hy]at hd;have yn:y=n:=by simpa using hy
    subst yn;have he:env.cells.lookup y=some e:=he;rw[he]at hd ⊢;exact hd
   | false=>rw[hy]at hd;exact ha y d hd
theorem Nk{x:Str}:∀{l:T0 (Str×NameKind)} {acc:T0 (Str×Addr)},(∃c,acc.lookup x=some c)->∃c,(AJ env l acc).lookup x=some c
 | [],_,h=>h
 | (n,k)::r,acc,h=>by
  refine Nk (l:=r) ?_;cases hk:k==NameKind.free with
  | false=>simpa using h
  | true=>
   rw[cZ rfl,eE];cases hy:x==n with
   | true=>exact⟨_,rfl⟩
   | false=>exact h
theorem Hz{x:Str}:∀{l:T0 (Str×NameKind)} {acc:T0 (Str×Addr)},l.lookup x=some .free->∃c,(AJ env l acc).lookup x=some c
 | [],_,h=>by simp at h
 | (n,k)::r,acc,h=>by
  rw[eE]at h;cases hy:x==n with
  | true=>rw[hy]at h;have hk:k=.free:=df h;subst hk;refine Nk (l:=r) ⟨(env.cells.lookup n).getD 0,?_⟩;show List.lookup x (if NameKind.free==NameKind.free then(n,(env.cells.lookup n).getD 0)::acc else acc)=some ((env.cells.lookup n).getD 0);rw[cZ (by rfl),eE,hy]
  | false=>rw[hy]at h;exact Hz (l:=r) h
theorem ud{env:Env}{x:Str}:∀{l:T0 (Str×NameKind)},(l.map λ(n,k)=>if (k==NameKind.free&&env.scope.kind==.function&&env.kindOf n==some .cell)then(n,NameKind.cell)else(n,k)).lookup x
   = (l.lookup x).map λk=>if (k==NameKind.free&&env.scope.kind==.function&&env.kindOf x==some .cell)then NameKind.cell else k
 | []=>rfl
 | (n,k)::r=>by
  rw[dR];show List.lookup x ((if (k==NameKind.free&&env.scope.kind==.function&&env.kindOf n==some .cell)=true then(n,NameKind.cell)else(n,k))::_)=_;cases hy:x==n with
  | true=>
   have yn:x=n:=by simpa using hy
   subst yn;by_cases hc:(k==NameKind.free&&env.scope.kind==.function&&env.kindOf x==some .cell)=true
   .rw[cZ hc,eE,eE,hy];simp only[jR];rw[cZ hc]
   .rw[cX hc,eE,eE,hy];simp only[jR];rw[cX hc]
  | false=>
   by_cases hc:(k==NameKind.free&&env.scope.kind==.function&&env.kindOf n==some .cell)=true
   .rw[cZ hc,eE,eE,hy];exact ud
   .rw[cX hc,eE,eE,hy];exact ud
def Os(ix:T0 (Option Nat))(Y:St):St:=ix.map λo=>o.bind λi=>(Y[i]?).join
abbrev Cx.comp(X:Cx)(scope:Scope)(N':QQQ)(C:Addr)(s0:Sd)(H0:Hp)(ex:QXQ):Cx:=
 {X with N:=N',s₀:=s0,H₀:=H0,env:=compEnvC scope (AJ X.env scope.names []) C X.env,outer:=X.stack,ex:=ex,fn:=λ_=>false,pn:=[],xe:=λ_ _=>False}
structure rW(X:Cx)(scope:Scope)(ix:List (Option Nat))(N':QQQ):Prop where
 kind:scope.kind=.function
 ou:∀y∈scope.names,y.2≠.cell
 nam:∀y∈scope.names,y.2=.local->scope.names.lookup y.1=some .local
 fre:∀y∈scope.names,y.2=.free->X.env.scope.names.lookup y.1=some .cell\/X.env.scope.names.lookup y.1=some .free
 len:ix.length=N'.length
 at_:∀(j i:Nat) (x:Str),ix[j]?=some (some i)->N'[j]?=some x->X.N[i]?=some x/\scope.names.lookup x=some .free
variable {scope:Scope}{ix:T0 (Option Nat)}{N':QQQ}{fp:QXQ}
section
variable {s:Sd}
def rW.cells(S:rW X scope ix N')(ok:X.Ok):∀x∈scope.names,x.2=.free->∃c,X.env.cells.lookup x.1=some c:=λx hx hk=>ok.has x.1 (S.fre x hx hk)
def rW.sub(S:rW X scope ix N')(ok:X.Ok){x:Str}{c:Addr}(h:(AJ X.env scope.names []).lookup x=some c):X.env.cells.lookup x=some c:=K' (S.cells ok) (λ_ _ z=>by simp at z) h
theorem vb{x:Str}{k:NameKind}:∀{l:T0 (Str×NameKind)},l.lookup x=some k->(x,k)∈l
 | [],h=>by simp at h
 | (n,j)::r,h=>by
  rw[eE]at h;cases hy:x==n with
  | true=>
   rw[hy]at h;have yn:x=n:=by simpa using hy
   subst yn;rw[df h];exact dG
  | false=>rw[hy]at h;exact dA _ (vb h)
def Inv.comp{C:Addr}{h1:Heap}{tk:Nat}(I:Inv X W5 Y H s)(S:rW X scope ix N')(hf:∀b∈fp,AC X W5 H b)(Xg:∀b∈fp,b<s.heap.objs.size)(hC:s.heap.objs.size<=C) (k:∀b o,s.heap.get? b=some o->h1.get? b=some o) (hn:h1.Ns C (λ_=>none)):Inv (X.comp scope N' C s H fp) (X.pn++W5) (Os ix Y) H {s with heap:=h1,toks:=tk}:=by
 have sub:∀{x:Str} {c:Addr},(AJ X.env scope.names []).lookup x=some c->X.env.cells.lookup x=some c:=λh=>S.sub I.ok h;refine⟨⟨I.ok.mod,S.kind,I.ok.glob,I.ok.blt,hC,λx y c e1 e2=>I.ok.inj x y c (sub e1) (sub e2),λx hx=>?_,λ_ _ z=>(dw z).elim,I.ok.hd,I.ok.frames,.inl rfl,λb hb=>⟨dC (dJ (Xg b hb) hC),λx c e=>(hf b hb).2.2.2.2.1 x c (sub e)⟩,I.bs,dW I.ok.nV I.sz,λb o e hb=>?_,λb hb hfs=>?_,I.stack,I.nB⟩,rfl,I.bare,Un.kept k,⟨_,hn,λi x v e1 e2 e3=>?_⟩,λx c e=>?_,I.mM.fresh hC,λx c e=>I.mT x c (sub e),λp hp=>?_,I.mM.kept k,?_⟩
 .have hx:(relabel scope X.env).names.lookup x=some .cell\/(relabel scope X.env).names.lookup x=some .free:=hx;have e:(relabel scope X.env).names.lookup x=(scope.names.lookup x).map λk=>if (k==NameKind.free&&X.env.scope.kind==.function&&X.env.kindOf x==some .cell)then NameKind.cell else k:=ud
  rw[e]at hx;cases q:scope.names.lookup x with
  | none=>rw[q]at hx;rcases hx with hx|hx<;>simp at hx
  | some kd=>
   cases kd with
   | free=>exact Hz q
   | cell=>exact absurd rfl (S.ou _ (vb q))
   | _=>rw[q]at hx;rcases hx with hx|hx<;>simp at hx
 .rcases(hf b hb).2.2.2.1 with z|z
  .exact I.ok.nL b o e z
  .exact absurd (dJ (dq e) (dW I.ok.nV z)) (e9 _)
 .rcases de.mp (I.nq b hfs)with z|z
  .exact(hf b hb).2.1 z
  .exact(hf b hb).2.2.1 z
 .have Zg:(ix[i]?).map (λo=>o.bind λi=>(Y[i]?).join)=some (some v):=by have z:(Os ix Y)[i]?=some (some v):=e2;unfold Os at z;rw[dz]at z;exact z
  cases q:ix[i]? with
  | none=>rw[q]at Zg;cases Zg
  | some o=>
   rw[q]at Zg;cases o with
   | none=>cases Zg
   | some j=>
    have Zh:(Y[j]?).join=some v:=df Zg;have e4:Y[j]?=some (some v):=by
     cases r:Y[j]? with
     | none=>rw[r]at Zh;cases Zh
     | some w=>rw[r]at Zh;exact eO some Zh
    obtain⟨n1,n2⟩:=S.at_ i j x q e1;obtain⟨m,hm,hl⟩:=I.loc;have hk:=S.fre _ (vb n2) rfl;have hv:Rj X.env.scope x:=by
     rcases hk with z|z
     .exact .inr (.inl z)
     .exact .inr (.inr z)
    obtain⟨u,ru,lk⟩:=hl j x v n1 e4 hv;refine⟨u,ru,?_⟩;have ZW:X.env.kindOf x=some .cell\/X.env.kindOf x=some .free:=hk;rcases lk with⟨z,_⟩|⟨_,c,hc,hcell⟩
    .rcases ZW with y|y<;>(rw[y]at z;cases z)
    .obtain⟨c',hc'⟩:=Hz (env:=X.env) (acc:=[]) n2;have:=sub hc';rw[hc]at this;cases this;refine .inr ⟨?_,c,hc',hcell.keeps k⟩;show(relabel scope X.env).names.lookup x=some .cell\/(relabel scope X.env).names.lookup x=some .free;have e:(relabel scope X.env).names.lookup x=(scope.names.lookup x).map λk=>if (k==NameKind.free&&X.env.scope.kind==.function&&X.env.kindOf x==some .cell)then NameKind.cell else k:=ud
     rw[e,n2];simp only[jR];split
     .exact .inl rfl
     .exact .inr rfl
 .obtain⟨v,q⟩:=I.cell x c (sub e);exact⟨v,q.keeps k⟩
 .obtain⟨e,n,ne,nf,d⟩:=I.pin p (by simpa using hp);refine⟨k _ _ e,n,dC (dJ (dq e) hC),λz=>?_,d⟩;rcases de.mp (I.nq p.1 z)with y|y
  .exact ne y
  .exact nf y
 .show(Os ix Y).length=N'.length;unfold Os;rw[cS];exact S.len
end
section
variable {prog:Pg}{w:Wo}{A:Ar}{R:Result→Sd→Prop}{s:Sd}
def xx{XZ Xy iter:Expr}{XE:T0 Expr}{scope:Scope}{pos:Pos}{it acc:Vl}{env:Env}(I:Nat->Sd->Prop){EX:QQX}(hEX:∀e s',EX e s'->notedBy (model prog w) A env (λx s'=>R (.error x) s') e s') (turn:∀n s,I n s->wpAny (model prog w) A (pyNext it) (λr s₁=>match r with
   | none=>R (.ok .next) s₁
   | some v=>wpAny (model prog w) A (letOwnedTupleGo Xy it v) (λ_ s₁=>wpAny (model prog w) A (assign Xy env v) (λ_ s₂=>
     wpAny (model prog w) A (forIn XE true λc r=>if r=true then do let ok<-isTrue c env (eval c env);pure (ForInStep.yield ok)else pure (ForInStep.yield r)) (λok s₃=>
      if ok=true then wpAny (model prog w) A (eval XZ env) (λx s₄=>
       wpAny (model prog w) A (call (.builtin "list.append") [acc,x]) (λ_ s₅=>∃m,m<n/\I m s₅) (λ_ _=>False) s₄) EX s₃
      else ∃m,m<n/\I m s₃) (λ_ _=>False) s₂) (λ_ _=>False) s₁) (λ_ _=>False) s₁) (λ_ _=>False) s)
  (n:Nat) (h:I n s):
  codeAny (model prog w) A (.compLoop (.ListComp XZ [⟨Xy,iter,XE,0⟩] scope pos) 0 it acc env) R s:=by
 refine codeAny_loop rfl I (λn s hI=>?_) n h;show wpAny _ A ((compTurn (.ListComp XZ [⟨Xy,iter,XE,0⟩] scope pos) 0 it acc env).onRaise (λx=>do noteFrame x env;theTreesLotGoes x)) _ _ s;refine wpAny_noted ?_;rw[compTurn_list];refine cT (ic (cT (dZ (turn n s hI) (λr s₁ h₁=>?_) λ_ _ h'=>h'.elim)));cases r with
 | none=>exact c9 h₁
 | some v=>
  refine cT (dZ h₁ (λ_ s₁' h₁'=>?_) λ_ _ h'=>h'.elim);refine cT (dZ h₁' (λ_ s₂ h₂=>cT (dZ h₂ (λok s₃ h₃=>?_) λ_ _ h'=>h'.elim)) λ_ _ h'=>h'.elim);cases ok with
  | false=>exact c9 ⟨rfl,h₃⟩
  | true=>exact cT (cT (dZ h₃ (λx s₄ h₄=>cT (dZ h₄ (λ_ s₅ h₅=>c9 (c9 ⟨rfl,h₅⟩)) λ_ _ h'=>h'.elim)) hEX))
end
def PF(X:Cx)(XE:T0 Expr)(t:TT):Prop:=
 ∀(W5:QQY) (s:Sd) (Y:St) (H:Hp) (Q:Bool->Hp->Prop),Inv X W5 Y H s->t Y H Q->
  wpAny (model X.prog X.w) X.A (forIn XE true λc r=>if r=true then do let ok<-isTrue c X.env (eval c X.env);pure (ForInStep.yield ok)else pure (ForInStep.yield r)) (TP X W5 Y Q) X.xe s
def T6:TT:=λ_ H Q=>Q true H
def S9:PF X [] T6:=λ_ _ _ H _ I h=>wpAny_tests_nil ⟨H,I,h⟩
def SB(h:PT X c t):PF X [c] t:=λW5 s Y H Q I q=>wpAny_tests_one (h W5 s Y H Q I q)
def QY(ix:T0 (Option Nat))(g:TG)(tt:TT)(te:TE)(Y:St)(J:It)(Q:VK)(H:Hp):Prop:=
 ∃W:Nat->Nat->T0 V->St->Hp->Prop,(∃m,W 0 m [] (Os ix Y) H)/\∀i m ys σ' H,W i m ys σ' H->
  (J.stop i H/\ys.length<=sizeLine/\∀D,H D=none->Q (.ref D) (upd H D (.lst ys)))\/
  (J.go i H/\ys.length<sizeLine/\∀x H',J.oH i H x H'->g x σ' H' λσ2 H2=>tt σ2 H2 λb H3=>if b=true then te σ2 H3 λy H4=>∃m',m'<m/\W (i+1) m' (ys++[y]) σ2 H4 else ∃m',m'<m/\W (i+1) m' ys σ2 H3)
def Lm(ix:T0 (Option Nat))(wi:TI)(g:TG)(tt:TT)(te:TE):TE:=λY H Q=>wi Y H λJ H1=>QY ix g tt te Y J Q H1
variable {tg iter XZ:Expr}{XE:T0 Expr}{g:TG}{tt:TT}{te:TE}{J:It}{it:Addr}{tn:Nat→Heap→Prop}{Q:VK}
section
variable {s:Sd}
def Ce{XP:Addr->Sd->Hp->QXQ->QQY->St->Vl->Sd->Prop}{RR:Vl->Addr->Result->Sd->Prop}{E:QQX}(hc:X.calm=true)(S:rW X scope ix N')(I:Inv X W5 Y H s)(T:F' X.prog X.w X.K tg J fp it tn)(st:tn 0 s.heap)(hf:∀b∈fp,AC X W5 H b) (hg:∀C s0 H0 ex,PG (X.comp scope N' C s0 H0 ex) tg g) (ht:∀C s0 H0 ex,PF (X.comp scope N' C s0 H0 ex) XE tt) (he:∀C s0 H0 ex W5 s Y H Q,Inv (X.comp scope N' C s0 H0 ex) W5 Y H s->te Y H Q->wpAny (model X.prog X.w) X.A (eval XZ (X.comp scope N' C s0 H0 ex).env) (EP (X.comp scope N' C s0 H0 ex) W5 Y Q) (XP C s0 H0 ex W5 Y) s) (hx:∀C D e s',s.heap.objs.size<=C->(∃X7 σ',(∀b∈fp,∃o,(b,o)∈X7)/\XP C s H fp X7 σ' e s')->notedBy (model X.prog X.w) X.A (compEnvC scope (AJ X.env scope.names []) C X.env) (λx s'=>RR D C (.error x) s') e s') (hw:QY ix g tt te Y J Q H) (Xa:∀D C s' H' m,s.heap.objs.size<=C->H' C=none->s'.heap.Ns C m->Inv X W5 Y H' s'->Q (.ref D) H'->RR (.ref D) C (.ok .next) s'):
  wpAny (model X.prog X.w) X.A (newList []) (λacc s₃=>wpAny (model X.prog X.w) X.A (newFunctionEnv scope X.env.globals (AJ X.env scope.names []) [] X.env.qual none .none (some X.env)) (λXM s₄=>
   codeAny (model X.prog X.w) X.A (.compStart (.ListComp XZ [⟨tg,iter,XE,0⟩] scope pos) 0 (.ref it) acc {XM with scope:=relabel scope X.env}) (RR acc XM.locals) s₄) E s₃) E s:=by
 obtain⟨W,⟨m0,w0⟩,turn⟩:=hw;have Xg:∀b∈fp,b<s.heap.objs.size:=λb hb=>by obtain⟨o,e,_⟩:=T.obj _ _ st b hb;exact dq e
 refine fS (wpAny_newFunctionEnv S.ou (by intro y hy;simp at hy) (λh₁ YQ Zi=>?_) S.kind);dsimp only at YQ Zi ⊢;generalize hH2:s.heap.push {cls:=.type "list",dict:=none,data:=.seq ([]:T0 Vl).toArray}=H2 at YQ Zi ⊢;have hC:H2.objs.size=s.heap.objs.size+1:=by rw[<-hH2,ft]
 have hDC:s.heap.objs.size≠H2.objs.size:=by rw[hC];exact dC (fv _)
 have Zj:s.heap.objs.size<=H2.objs.size:=by rw[hC];exact gS _
 have Zv:∀b,b<s.heap.objs.size->b≠H2.objs.size/\b≠s.heap.objs.size:=λb hb=>⟨by rw[hC];exact dC (fT hb),dC hb⟩;have old:∀b o,s.heap.get? b=some o->h₁.get? b=some o:=λb o e=>Zi.extBut b o (Zv b (dq e)).1 (cY _ (hH2 ▸ cY _ e));have hacc:h₁.get? s.heap.objs.size=some {cls:=.type "list",data:=.seq ([]:T0 Vl).toArray 0}:=Zi.extBut _ _ hDC (cY _ (hH2 ▸ dE _ rfl));have YQ:h₁.Ns H2.objs.size (λ_=>none):=YQ;have Yj:∀{H':Hp} {pl:QQY},(∀b∈fp,H' b=none)->(∀p∈pl,p.1∉fp)->∀b∈fp,AC (X.comp scope N' H2.objs.size s H fp) (X.pn++W5++pl) H' b:=λ{H' pl} hn Xl b hb=>by
  refine⟨hn b hb,dC (dJ (Xg b hb) Zj),λz=>?_,.inl hb,λx c e=>(hf b hb).2.2.2.2.1 x c (S.sub I.ok e),λp hp=>?_⟩
  .rcases de.mp (I.nq b z)with y|y
   .exact(hf b hb).2.1 y
   .exact(hf b hb).2.2.1 y
  .rcases dU.mp (show p∈X.pn++W5++pl by simpa using hp)with z|z
   .exact(hf b hb).2.2.2.2.2 p z
   .intro q;exact Xl p z (q ▸ hb)
 have loop:∀s₃:Sd,s₃={s with heap:=h₁,toks:=s.toks+([]:T0 (Str×Vl)).length}->
   codeAny (model X.prog X.w) X.A (.compLoop (.ListComp XZ [⟨tg,iter,XE,0⟩] scope pos) 0 (.ref it) (.ref s.heap.objs.size) (compEnvC scope (AJ X.env scope.names []) H2.objs.size X.env))
    (RR (.ref s.heap.objs.size) H2.objs.size) s₃:=by
  rintro s₃ rfl
  refine xx (hEX:=λe s' z=>hx _ _ e s' Zj z) (λn s'=>∃(i:Nat) (ys:T0 V) (us:T0 Vl) (k:Nat) (σ':St) (H':Hp),Inv (X.comp scope N' H2.objs.size s H fp) (X.pn++W5) σ' H' s'/\tn i s'.heap/\(∀b∈fp,H' b=none)/\H' s.heap.objs.size=none/\
   s'.heap.get? s.heap.objs.size=some {cls:=.type "list",data:=.seq us.toArray k}/\qx ys us/\ys.length<=sizeLine/\W i n ys σ' H') ?_ m0
   ⟨0,[],[],0,Os ix Y,H,I.comp S hf Xg Zj old YQ,T.keep _ _ _ st λb _ o e=>old b o e,λb hb=>(hf b hb).1,I.mM.fresh (dg _),hacc,.nil,eD _,w0⟩
  rintro n s' ⟨i,ys,us,k,σ',H',I',XX,fr',hD',XJ,rv',hz',w'⟩
  have cellD:∀x c,(X.comp scope N' H2.objs.size s H fp).env.cells.lookup x=some c->c≠s.heap.objs.size:=λx c e=>by obtain⟨v,q⟩:=I.cell x c (S.sub I.ok e);exact dC q.lt
  have pinD:∀p∈X.pn++W5,p.1≠s.heap.objs.size:=λp hp=>dC (dq (I.pin p hp).1);have dfs:s.heap.objs.size∉(X.comp scope N' H2.objs.size s H fp).fs:=λz=>by
   rcases de.mp (I.nq _ z)with y|y
   .exact absurd I.lt (by rw[<-y];exact e9 _)
   .exact I.oK (dg _) y
  have dfp:s.heap.objs.size∉fp:=λz=>absurd (Xg _ z) (e9 _);have IpD:Inv (X.comp scope N' H2.objs.size s H fp) (X.pn++W5++[(s.heap.objs.size,{cls:=.type "list",data:=.seq us.toArray k})]) σ' H' s':=I'.nH λp hp=>by
   rcases dU.mp hp with z|z
   .exact I'.pin p (d9 _ z)
   .have e:p=(s.heap.objs.size,{cls:=.type "list",data:=.seq us.toArray k}):=by simpa using z
    subst e;exact⟨XJ,hD',hDC,dfs,λv z=>by cases z⟩
  have pfp:∀p∈[((s.heap.objs.size,{cls:=.type "list",data:=.seq us.toArray k}):Addr×Obj)],p.1∉fp:=λp hp=>by
   have e:p=(s.heap.objs.size,{cls:=.type "list",data:=.seq us.toArray k}):=by simpa using hp
   subst e;exact dfp
  rcases turn i n ys σ' H' w' with⟨stop,hz,q⟩|⟨go,hz,step⟩
  .refine dZ (T.done (X.comp scope N' H2.objs.size s H fp) rfl rfl rfl hc i _ s' σ' H' (λ_ _=>False) IpD (Yj fr' pfp) XX stop) (λr s1 ⟨hr,I1⟩=>?_) λ_ _ z=>z;subst hr;show RR _ _ _ _;have ZX:s1.heap.get? s.heap.objs.size=some {cls:=.type "list",data:=.seq us.toArray k}:=(I1.pin (s.heap.objs.size,{cls:=.type "list",data:=.seq us.toArray k}) (by simp)).1;obtain⟨m,hnC,_⟩:=id I1.loc;refine Xa _ _ s1 (upd H' s.heap.objs.size (.lst ys)) m Zj (by rw[pQ (dI hDC)];exact I1.free) hnC ?_ (q _ hD');have nD:∀b o,s.heap.get? b=some o->b≠s.heap.objs.size:=λb o e=>(Zv b (dq e)).2;have hD0:H s.heap.objs.size=none:=I.mM.fresh (dg _);refine I.oP (s':=s1) (ch:=fp) I1.os ⟨λb o e n1 n2 n3=>?_,λb o e n1 n2 n3=>?_,λb o e n1 n2=>?_,λb o e n1=>?_,λb xs e=>?_,λb o u e=>?_,λb ps e=>?_⟩ (λb u e=>?_) I1.bare λb hb=>⟨(hf b hb).2.2.2.1,(hf b hb).2.1,(hf b hb).2.2.2.2.1,(hf b hb).2.2.2.2.2⟩
   .exact I1.base.keep b o e n1 n2 n3
   .exact I1.base.slot b o e n1 n2 n3
   .rw[pQ (nD b o e)];exact I1.base.free b o e n1 n2
   .exact I1.base.there b o e n1
   .rw[pQ (qM e hD0)];exact I1.base.nk b xs e
   .rw[pQ (qM e hD0)];exact I1.base.m9 b o u e
   .obtain⟨more,z⟩:=I1.base.nz b ps e;exact⟨more,by rw[pQ (qM e hD0)];exact z⟩
   .by_cases hb:b=s.heap.objs.size
    .subst hb;rw[qa]at e;cases e;exact⟨hz,us,k,rv',ZX⟩
    .rw[pQ hb]at e;exact(I1.mM b u e).ni (λc v _ z=>z) (λc z=>by rw[pQ (qM z hD')];exact z) (λc xs z=>by rw[pQ (qM z hD')];exact z)
  .refine dZ (T.item (X.comp scope N' H2.objs.size s H fp) rfl rfl rfl hc i _ s' σ' H' (λ_ _=>False) IpD (Yj fr' pfp) XX go) (λr s1 ⟨v,hr,h4⟩=>?_) λ_ _ z=>z;subst hr;show wpAny _ _ (letOwnedTupleGo tg (.ref it) v) _ _ s1;refine dZ h4 (λ_ s2 zz=>?_) λ_ _ z=>z;obtain⟨x,H5,I5,r5,y5,YL,fr5⟩:=zz;have I5':=I5.pinned (Yj fr5 pfp) (T.obj _ _ YL);refine dZ (hg H2.objs.size s H fp _ s2 σ' H5 x v _ I5' r5 (step x H5 y5)) (λ_ s3 ⟨σ6,H6,I6,q6⟩=>?_) λ_ _ z=>z;refine dZ (ht H2.objs.size s H fp _ s3 σ6 H6 _ I6 q6) (λok s4 ⟨H7,I7,q7⟩=>?_) λ_ _ z=>z;have Zw:∀{σ7:St} {H7:Hp} {s7:Sd},Inv (X.comp scope N' H2.objs.size s H fp) (X.pn++W5++[(s.heap.objs.size,{cls:=.type "list",data:=.seq us.toArray k})]++BO fp s2.heap) σ7 H7 s7->
     tn (i+1) s7.heap/\(∀b∈fp,H7 b=none)/\H7 s.heap.objs.size=none/\s7.heap.get? s.heap.objs.size=some {cls:=.type "list",data:=.seq us.toArray k}:=λ{σ7 H7 s7} K7=>by
    have pd:=K7.pin (s.heap.objs.size,{cls:=.type "list",data:=.seq us.toArray k}) (by simp);refine⟨T.keep _ _ _ YL λb hb o e=>(K7.pin (b,o) (d9 _ (d9 _ (va hb e)))).1,λb hb=>?_,pd.2.1,pd.1⟩;obtain⟨o,e,d⟩:=T.obj _ _ YL b hb;exact(K7.pin (b,o) (d9 _ (d9 _ (va hb e)))).2.1
   cases ok with
   | false=>rw[cX dw]at q7 ⊢;obtain⟨m',hm,w7⟩:=q7;obtain⟨t7,f7,d7,o7⟩:=Zw I7;exact⟨m',hm,i+1,ys,us,k,σ6,H7,I7.mU.mU,t7,f7,d7,o7,rv',hz',w7⟩
   | true=>
    rw[cZ rfl]at q7 ⊢;refine dZ (he H2.objs.size s H fp _ s4 σ6 H7 _ I7 q7) (λyv s5 ⟨y,H8,I8,r8,m',hm,w8⟩=>?_) λ_ _ z=>⟨_,_,λb hb=>(by
     obtain⟨o,e,_⟩:=T.obj _ _ YL b hb;exact⟨o,d9 _ (va hb e)⟩),z⟩
    obtain⟨t8,f8,d8,o8⟩:=Zw I8;have hsz:us.toArray.size<=sizeLine:=by rw[dh,<-rv'.length];exact hz'
    refine append_at (hsz:=hsz) o8 λh' sb od=>?_;refine⟨m',hm,i+1,ys++[y],us++[yv],k+1,σ6,H8,?_,T.keep _ _ _ t8 λb hb o e=>(sb.2 b λq=>dfp (q ▸ hb)).trans e,f8,d8,?_,rv'.append (.cons r8 .nil),?_,w8⟩
    .exact I8.mU.mU.turned (it:=s.heap.objs.size) (t':=s5.toks) (λb o hb e=>(sb.2 b hb).trans e) d8 hDC (.inr (dg _)) cellD (by simpa using pinD)
    .rw[od,List.push_toArray]
    .rw[cW,dN];exact hz
 exact codeAny_compStart_list (loop _ rfl) (T.self _ 0 _ _ _ (T.keep _ _ _ st λb _ o e=>old b o e) (loop _ rfl))
def Inv.letGo{C:Addr}(I:Inv X W5 Y H s)(I':Inv X W5 σ' H' s')(hC:s.heap.objs.size<=C)(hn:H' C=none)(hs:Heap.SameBut C s'.heap h'):Inv X W5 σ' H' {s' with heap:=h'}:=
 I'.turned (t':=s'.toks) (it:=C) (λb o hb e=>(hs.2 b hb).trans e) hn (λz=>absurd (dJ I.lt hC) (by rw[z];exact e9 _)) (.inr (dW I.sz hC))
  (λx c e z=>by
   obtain⟨v,r⟩:=I.cell x c e;exact absurd (dJ r.lt hC) (by rw[z];exact e9 _))
  (λp hp z=>absurd (dJ (dq (I.pin p hp).1) hC) (by rw[z];exact e9 _))
def PR(hc:X.calm=true)(S:rW X scope ix N')(hi:PI X tg iter wi)(hg:∀C s0 H0 ex,PG (X.comp scope N' C s0 H0 ex) tg g)(ht:∀C s0 H0 ex,PF (X.comp scope N' C s0 H0 ex) XE tt)(he:∀C s0 H0 ex,PE (X.comp scope N' C s0 H0 ex) XZ te) (hs:∀x,foldedSetIterable iter X.env x=pure x:=by intro _;rfl):PE X (.ListComp XZ [⟨tg,iter,XE,0⟩] scope pos) (Lm ix wi g tt te):=by
 intro W5 s Y H Q I h;rw[eval_ListComp];refine jE (use:=none) rfl hs (yk (S.cells I.ok)) S.kind S.nam (dZ (hi W5 s Y H _ I h) (λxv s₁ h₁=>dZ h₁ (λitv s₂ h₂=>?_) λ_ _ e=>e) λ_ _ e=>e);obtain⟨it,fp,tn,J,H2,e,I2,T,Xo,f2,hw⟩:=h₂;subst e;refine Ce (RR:=λacc C=>compPost (model X.prog X.w) X.A X.xe none (EP X W5 Y Q) acc C) hc S I2 T Xo f2 hg ht (XP:=λ_ _ _ _ _ _ _ _=>False) he (λ_ _ _ _ _ z=>by obtain⟨_,_,_,z⟩:=z;exact z.elim) hw λD C s' H' m hCs hCn hn I3 q=>?_;exact⟨m,hn,λh' Zx=>⟨.ref D,_,I2.letGo I3 hCs hCn Zx,rfl,q⟩⟩
def HS{i:Nat}{x:Str}{px YR:Pos}(hN:X.N.Nodup)(ZY:X.N[i]?=some x)(hx:LR X.env.scope x)(hc:X.calm=true)(S:rW X scope ix N')(hi:PI X tg iter wi)(hg:∀C s0 H0 ex,PG (X.comp scope N' C s0 H0 ex) tg g)(ht:∀C s0 H0 ex,PF (X.comp scope N' C s0 H0 ex) XE tt) (he:∀C s0 H0 ex,PE (X.comp scope N' C s0 H0 ex) XZ te) (YC:swapsWith (.ListComp XZ [⟨tg,iter,XE,0⟩] scope pos) (some (.Name x px)) YR.line X.env=pure true) (hf:Ln X x:=by first|exact .inl rfl|exact .inr rfl|assumption) (hs:∀x,foldedSetIterable iter X.env x=pure x:=by intro _;rfl):
  PS X (.Assign [.Name x px] (.ListComp XZ [⟨tg,iter,XE,0⟩] scope pos) YR) (Pm (Lm ix wi g tt te) (Je i)):=by
 intro W5 s Y H D I h;rw[exec_Assign_Name_used _ _ _ _ YC];refine cT (ic (cT ?_));show wpAny _ X.A (do let _<-comprehension (.ListComp XZ [⟨tg,iter,XE,0⟩] scope pos) scope X.env _ (newList []) false (eval iter X.env) (some (assign (.Name x px) X.env))) _ _ s;refine cT (dZ (jE (use:=some (assign (.Name x px) X.env)) (Q:=λ_ s'=>SP X W5 D .next s') rfl hs (yk (S.cells I.ok)) S.kind S.nam
  (dZ (hi W5 s Y H _ I h) (λxv s₁ h₁=>dZ h₁ (λitv s₂ h₂=>?_) λ_ _ e=>e) λ_ _ e=>e)) (λ_ s' hq=>c9 (c9 hq)) λ_ _ e=>e)
 obtain⟨it,fp,tn,J,H2,e,I2,T,Xo,f2,hw⟩:=h₂;subst e;refine Ce (RR:=λacc C=>compPost (model X.prog X.w) X.A X.xe (some (assign (.Name x px) X.env)) (λ_ s'=>SP X W5 D .next s') acc C) hc S I2 T Xo f2 hg ht (XP:=λ_ _ _ _ _ _ _ _=>False) he (λ_ _ _ _ _ z=>by obtain⟨_,_,_,z⟩:=z;exact z.elim) hw λDa C s' H' m hCs hCn hn I3 q=>?_;show wpAny _ X.A (assign (.Name x px) X.env (.ref Da)) _ _ _;refine kY (Dx I3 hN ZY hx (v:=.ref Da) rfl (λs4 I4 ⟨a,sb,ha⟩=>?_) hf);have ca:C≠a:=λz=>by
  rcases ha with y|y
  .exact absurd (dJ I2.lt hCs) (by rw[z,y];exact e9 _)
  .obtain⟨v,r⟩:=I2.cell x a y;exact absurd (dJ r.lt hCs) (by rw[z];exact e9 _)
 exact⟨m,hn.sameBut sb ca,λh' Zx=>⟨_,H',I2.letGo I4 hCs hCn Zx,q⟩⟩
end
def AO:typeLookup (.type "list") "__getattr__"=pure none:=by rw[typeLookup_type,j3];kernel_rfl
def FQ:typeLookup (.type "list") "keys"=pure none:=by rw[typeLookup_type,j3];kernel_rfl
section
variable {prog:Pg}{w:Wo}{A:Ar}{E:QQX}
def L9(a:Addr)(u:Tok)(its:Array Vl)(n:Nat)(sl:Array (Option Vl)):
  Meets (Builtin.«object.__getattribute__» ⟨[.ref a,.str "keys" u],[]⟩) λA R s=>s.heap.get? a=some ⟨.type "list",none,.seq its n,sl⟩/\A.handled=none/\∀h' tk e,Heap.NewAttrErr s.heap h' e (.ref a) "keys"->R (.error (.ref e)) {s with heap:=h',toks:=tk}:=
 Meets.of_wp λprog w A R s hs=>by
  obtain⟨hp,g,d,tk,os⟩:=s;obtain⟨h1,h2,h3⟩:=hs;have hT:(⟨hp,g,d,tk,os⟩:Sd).TypeIs (.ref a) "list":=⟨_,h1,rfl⟩;have f1:=FQ;unfold Builtin.«object.__getattribute__»
  repeat (any_goals(first|assumption|wp_step))
  exact wpAny_raiseAttrError h2 h3 (attrMsg_fits (by decide+kernel) (by decide))
def Fs{s:Sd}{a:Addr}{its:Array Vl}{n:Nat}{sl:Array (Option Vl)}{Q:Option Vl->Sd->Prop}(ha:s.heap.get? a=some ⟨.type "list",none,.seq its n,sl⟩)(hA:A.handled=none) (h:∀h' tk,(∀b o,s.heap.get? b=some o->h'.get? b=some o)->Q none {s with heap:=h',toks:=tk}):wpAny (model prog w) A (getAttr? (.ref a) "keys") Q E s:=by
 obtain⟨hp,g,d,tk,os⟩:=s;have hT:(⟨hp,g,d,tk,os⟩:Sd).TypeIs (.ref a) "list":=⟨_,ha,rfl⟩;have f1:=sub_AttributeError;have f3:=im.lookup;have f4:=im.bind (.ref a);have f5:=AO;unfold getAttr? getAttrBy? getAttrBy
 repeat (any_goals(first|assumption|((with_reducible show wpAny _ _ (call (Value.builtin "list.__getattribute__") _ _) _ _ _);refine js im hT F.entry_list_ga (F.args_list_getattribute_2 _ _) (L9 a _ its n sl) ⟨ha,hA,λh' tk' e hx=>?_⟩)|wp_step))
 obtain⟨t',u',he⟩:=hx.there;show wpAny _ _ (getattributeRaised _ _ _ _ _ _ _) _ _ _;unfold getattributeRaised
 repeat (any_goals(first|assumption|wp_step))
 all_goals first|exact h _ _ hx.keeps|skip
end
def Ap:entryFor table "dict.update.loop"=some Builtin.«dict.update.loop»:=entryFor_of_tree (by kernel_rfl)
def vp:plainId "dict.update.loop"=true:=by decide+kernel
section
variable {prog:Pg}{w:Wo}{A:Ar}{E:QQX}{R:Result→Sd→Prop}{κ:Type}[DecidableEq κ]{knd:PySem.KeyKind prog w κ}
 {I:Addr} {fp wr:QXQ} {G:Array GenState->Array GenState->Prop} {P:Nat->Vl->Prop} {St:Nat->Sd->Prop}
def Ox{s:Sd}{t:Addr}{x y:Vl}{Q:T0 Vl->Sd->Prop}(h:s.heap.IsTuple t #[x,y])(q:Q [x,y] s):wpAny (model prog w) A (Builtin.Dict.pairItems (.ref t)) Q E s:=by
 obtain⟨⟨oc,od,oda,X3⟩,h1,h2,n,h3⟩:=h;simp only at h2 h3;subst h2 h3;have hT:s.TypeIs (.ref t) "tuple":=⟨_,h1,rfl⟩;obtain⟨hp,g,d,tk,os⟩:=s;unfold Builtin.Dict.pairItems
 repeat (any_goals(first|assumption|wp_step))
def JP{all:T0 (κ×Vl)}(W:WalksS prog w A.in1 I fp wr G all.length P St)(d:Addr)(Zu:d∉fp)(kv:Nat->Vl)(tp:Nat->Addr)(hP:∀i v,P i v->v=.ref (tp i))(hw:∀j,j<all.length->tp j∉wr/\tp j≠d) (hk:∀j p,all[j]?=some p->knd.is p.1 (kv j)=true) (hz:all.length<=sizeLine):
  ∀(k i:Nat) (z:Int) (s:Sd),all.length - i=k->i<=all.length->St i s->(∀j p,all[j]?=some p->s.heap.IsTuple (tp j) #[kv j,p.2])->s.heap.DictOf knd d (merged [] (all.take i))->
   (∀s',Moved (d::wr) G s s'->s'.heap.DictOf knd d (merged [] all)->R (.ok (.ret .none)) s')->codeAny (model prog w) A (.builtin "dict.update.loop" ⟨[.ref d,.ref I,.int z 0,.none],[]⟩) R s:=by
 have hdw:d∉wr:=λh=>Zu (W.sub _ h);have YS:∀b∈wr,b∈d::wr:=λb hb=>dA _ hb;intro k;induction k with
 | zero=>
  intro i z s hk0 hi Xu hT hD hR;have Y3:i=all.length:=by omega
  subst Y3;refine gO Ap ?_;rw[hU vp _];show wpAny _ A.in1 (pyNext (.ref I)>>=_) _ _ s;refine cT (W.done s _ _ Xu λs' hm=>?_);show wpAny _ A.in1 (Builtin.Dict.addKeywords d []>>=_) _ _ s';refine cT (c9 (c9 (hR s' (hm.mono YS) ?_)));rw[fE]at hD;obtain⟨o,es,ep,ho,rest⟩:=hD;exact⟨o,es,ep,hm.heap d _ hdw ho,rest⟩
 | succ k ih=>
  intro i z s hk0 hi Xu hT hD hR;have Xg:i<all.length:=by omega
  have Ym:all[i]?=some all[i]:=cV Xg;refine gO Ap ?_;rw[hU vp _];show wpAny _ A.in1 (pyNext (.ref I)>>=_) _ _ s;refine cT (W.item i s _ _ Xg Xu λv s' hPv ZZ hm=>?_);obtain rfl:=hP i v hPv;have hT':∀j p,all[j]?=some p->s'.heap.IsTuple (tp j) #[kv j,p.2]:=λj p e=>by obtain⟨o,h1,h2⟩:=hT j p e;exact⟨o,hm.heap _ _ (hw j (cU.mp e).1).1 h1,h2⟩
  have hD':s'.heap.DictOf knd d (merged [] (all.take i)):=by obtain⟨o,es,ep,ho,rest⟩:=hD;exact⟨o,es,ep,hm.heap d _ hdw ho,rest⟩
  show wpAny _ A.in1 (holding [Value.ref (tp i)] _>>=_) _ _ s';refine cT (eK (cT (wpAny_tryCatch (Ox (hT' i _ Ym) ?_))));show wpAny _ A.in1 (holding [kv i,all[i].2] (dictSet d (kv i) all[i].2)) _ _ s';refine eK ?_;unfold dictSet;refine eK (cT (knd.pyHash (hk i _ Ym) ?_));have hl:(merged [] (all.take i)).length<=sizeLine:=by have:=merged_length_le [] (all.take i);rw[fQ]at this;simp only[dM]at this;omega
  refine wpAny_dictSetHashed_pairs (hsz:=hl) (hk i _ Ym) hD' λh' dd hs=>?_;rw[<-merged_take_succ [] all i _ Ym]at dd;refine c9 ⟨ku vp _,ih (i+1) _ _ (by omega) Xg (W.frame _ s' _ _ ZZ (gS _) λb hb o e=>?_) (λj p e=>?_) dd λZR Z0 hD''=>?_⟩
  .rw[hs.2 b (λz:b=d=>Zu (z ▸ hb))];exact e
  .obtain⟨o,h1,h2⟩:=hT' j p e;refine⟨o,?_,h2⟩;show h'.get? (tp j)=some o;rw[hs.2 _ (hw j (cU.mp e).1).2];exact h1
  .refine hR ZR (mz W.gtrans ((hm.mono YS).then_heap (gS _) λb o hb e=>?_) Z0) hD'';rw[hs.2 b (λz:b=d=>hb (by rw[z];exact dG))];exact e
end
section
variable {prog:Pg}{w:Wo}{A:Ar}{E:QQX}{κ:Type}[DecidableEq κ]{knd:PySem.KeyKind prog w κ}{s:Sd}
def AH{l:Addr}{its:Array Vl}{n:Nat}{sl:Array (Option Vl)}{all:T0 (κ×Vl)}{Q:QQX}(kv:Nat->Vl)(tp:Nat->Addr)(hh:A.handled=none)(hl:s.heap.get? l=some ⟨.type "list",none,.seq its n,sl⟩) (hits:∀(j:Nat) (v:Vl),its[j]?=some v->v=.ref (tp j)) (Xb:its.size=all.length) (hT:∀j p,all[j]?=some p->s.heap.IsTuple (tp j) #[kv j,p.2]) (hk:∀j p,all[j]?=some p->knd.is p.1 (kv j)=true) (hz:all.length<=sizeLine) (h:∀h' tk,h'.DictOf knd s.heap.objs.size (merged [] all)->(∀b o,s.heap.get? b=some o->h'.get? b=some o)->Q (.ref s.heap.objs.size) {s with heap:=h',toks:=tk}):
  wpAny (model prog w) A (call (.type "dict") [.ref l]) Q E s:=by
 refine callType_codes (Q₁:=λobj s₁=>obj=Value.ref s.heap.objs.size/\s₁={s with heap:=s.heap.push {cls:=.type "dict",data:=.dict #[]}}) PySem.F.kt_called_dict (PySem.F.kt_typeCall_dict_1 _) F.entry_dict_init (kt_code_dict_new _ ⟨rfl,rfl⟩) ?_
 rintro obj s₁ ⟨rfl,rfl⟩
 have YN:(s.heap.push {cls:=.type "dict",data:=.dict #[]}).DictOf knd s.heap.objs.size []:=Heap.DictOf.new s.heap;have hl':(s.heap.push {cls:=.type "dict",data:=.dict #[]}).get? l=some ⟨.type "list",none,.seq its n,sl⟩:=cY _ hl;have hTl:Shared.TypeIs {s with heap:=s.heap.push {cls:=.type "dict",data:=.dict #[]}} (.ref l) "list":=⟨_,hl',rfl⟩;have lsz:l<s.heap.objs.size:=dq hl;refine⟨YN.typeIs,F.args_dict_init_2 _ _,?_⟩;unfold Builtin.«dict.__init__»;refine cT ?_;unfold Builtin.Dict.selfAndRest;refine cT (wpAny_notOrdered_dict YN.typeIs ?_);show wpAny _ _ (pure (s.heap.objs.size,[Value.ref l])) _ _ _;refine c9 ?_;show wpAny _ _ (Builtin.Dict.updateFrom "dict.__init__" s.heap.objs.size (.ref l) [] .none) _ _ _;unfold Builtin.Dict.updateFrom;refine cT (jC hTl ?_);rw[cZ (by decide)];refine cT (Fs hl' (by simpa using hh) λh' tk keep=>?_);have Z1:h'.IsList l its:=⟨_,keep _ _ hl',rfl,n,rfl⟩;show wpAny _ _ (rule _>>=_) _ _ _;refine cT (kh (cT (gT Z1 ?_)));have nd:h'.objs.size>s.heap.objs.size:=by have z:h'.get? s.heap.objs.size=some _:=keep _ _ (dE _ rfl);exact dq z
 have hDn:h'.DictOf knd s.heap.objs.size []:=by obtain⟨o,es,ep,ho,rest⟩:=YN;exact⟨o,es,ep,keep _ _ ho,rest⟩
 have hTs:∀j p,all[j]?=some p->h'.IsTuple (tp j) #[kv j,p.2]:=λj p e=>by obtain⟨o,h1,h2⟩:=hT j p e;exact⟨o,keep _ _ (cY _ h1),h2⟩
 have Xt:l≠h'.objs.size:=dC (il lsz nd);have W:=(kl (prog:=prog) (w:=w) (A:=A.in1.in1) (by simpa using hh) h'.objs.size l Xt its).toS;rw[Xb]at W;refine c9 ⟨ku vp _,JP (A:=A.in1) W s.heap.objs.size ?_ kv tp (λi v e=>hits i v e) (λj hj=>?_) hk hz all.length 0 0 _ (by omega) (eD _) ⟨⟨_,dE _ rfl,rfl,rfl⟩,Z1.push _⟩ (λj p e=>(hTs j p e).push _) ?_ λs' hm hD=>?_⟩
 .simp only[de,dD,eX,fK];exact⟨dC nd,gI lsz⟩
 .have hj':all[j]?=some all[j]:=cV hj;obtain⟨o,h1,_⟩:=hT j _ hj';have tsz:=dq h1;simp only[de,dD,eX];exact⟨dC (il tsz nd),dC tsz⟩
 .obtain⟨o,es,ep,ho,rest⟩:=hDn;exact⟨o,es,ep,cY _ ho,rest⟩
 .obtain⟨h2,g2,d2,t2,o2⟩:=s';have eg:g2=s.gens:=hm.gens;have ed:d2=s.drawn:=hm.drawn;have eo:o2=s.os:=hm.os;subst eg ed eo;refine⟨rfl,h h2 t2 hD λb o e=>?_⟩;have hb:=dq e;refine hm.heap b o ?_ (cY _ (keep _ _ (cY _ e)));simp only[de,dD,eX,fK];exact⟨dC hb,dC (il hb nd)⟩
end
def sT{κ:Type}[DecidableEq κ](l:List κ):List κ:=l.foldl (λacc k=>if k∈acc then acc else acc++[k]) []
def xU{κ:Type}[DecidableEq κ](l:List κ)(k:κ):sT (l++[k])=if k∈sT l then sT l else sT l++[k]:=by unfold sT;rw[lh];rfl
def Jk{κ:Type}[DecidableEq κ]:∀l:List κ,(sT l).length<=l.length:=by
 have go:∀(l acc:List κ),(l.foldl (λacc k=>if k∈acc then acc else acc++[k]) acc).length<=acc.length+l.length:=by
  intro l;induction l with
  | nil=>intro acc;simp
  | cons k r ih=>
   intro acc;rw[fU];refine dW (ih _) ?_;split
   .simp only[eh];omega
   .simp only[eh,cW,dM];omega
 intro l;have:=go l []
 simpa [sT]using this
def Nl{κ:Type}[DecidableEq κ](x:κ):∀l:List κ,x∈sT l↔x∈l:=by
 have go:∀(l acc:List κ),x∈l.foldl (λacc k=>if k∈acc then acc else acc++[k]) acc↔x∈acc\/x∈l:=by
  intro l;induction l with
  | nil=>intro acc;simp
  | cons k r ih=>
   intro acc;rw[fU,ih];by_cases h:k∈acc
   .rw[cZ h,de];constructor
    .rintro (z|z)
     .exact .inl z
     .exact .inr (.inr z)
    .rintro (z|z|z)
     .exact .inl z
     .subst z;exact .inl h
     .exact .inr z
   .rw[cX h,dU,dv,de,or_assoc]
 intro l;have:=go l []
 simpa [sT]using this
def Ik{κ:Type}[DecidableEq κ]:∀l:List κ,l.Nodup->sT l=l:=by
 have go:∀(l acc:List κ),(acc++l).Nodup->l.foldl (λacc k=>if k∈acc then acc else acc++[k]) acc=acc++l:=by
  intro l;induction l with
  | nil=>intro acc _;simp
  | cons k r ih=>
   intro acc h;have hk:k∉acc:=λz=>by rw[gj]at h;exact h.2.2 k z k dG rfl
   rw[fU,cX hk,ih]
   .rw[fk];rfl
   .rw[fk];exact h
 intro l h;have:=go l [] (by simpa using h)
 simpa [sT]using this
section
variable {prog:Pg}{w:Wo}{A:Ar}{E:QQX}{R:Result→Sd→Prop}{κ:Type}[DecidableEq κ][BEq κ][LawfulBEq κ]{knd:PySem.KeyKind prog w κ}
 {I:Addr} {fp wr:QXQ} {G:Array GenState->Array GenState->Prop} {P:Nat->Vl->Prop} {St:Nat->Sd->Prop}
def Gi{all:List κ}(W:WalksS prog w A.in1 I fp wr G all.length P St)(S:Addr)(hSf:S∉fp)(hval:∀i v k,P i v->all[i]?=some k->knd.is k v=true/\v.scannable=true)(hb:all.length+1<scanBound):
  ∀(n i:Nat) (s:Sd),all.length - i=n->i<=all.length->St i s->s.heap.SetOf knd S (λx=>decide (x∈sT (all.take i))) (sT (all.take i)).length->
   (∀s',Moved (S::wr) G s s'->s'.heap.SetOf knd S (λx=>decide (x∈sT all)) (sT all).length->R (.ok (.ret .none)) s')->codeAny (model prog w) A (.builtin "set.update.loop" ⟨[.ref S,.ref I],[]⟩) R s:=by
 have hSw:S∉wr:=λh=>hSf (W.sub _ h);have up:∀b∈wr,b∈S::wr:=λb hb=>dA _ hb;have kept:∀{s s':Sd} {T:κ->Bool} {m:Nat},Moved wr G s s'->s.heap.SetOf knd S T m->s'.heap.SetOf knd S T m:=λhm ⟨o,es,ep,t,ho,rest⟩=>⟨o,es,ep,t,hm.heap S _ hSw ho,rest⟩;intro n;induction n with
 | zero=>
  intro i s h0 hi Xu hS hR;obtain rfl:i=all.length:=by omega
  refine gO io ?_;rw[hU gx _];rw[fE]at hS;exact cT (W.done s _ _ Xu λs' hm=>c9 (hR s' (hm.mono up) (kept hm hS)))
 | succ n ih=>
  intro i s h0 hi Xu hS hR;have Xg:i<all.length:=by omega
  have Ym:all[i]?=some all[i]:=cV Xg;refine gO io ?_;rw[hU gx _];refine cT (W.item i s _ _ Xg Xu λv s' hP ZZ hm=>?_);obtain⟨k1,k2⟩:=hval i v _ hP Ym;have YT:=kept hm hS;show wpAny _ A.in1 (holding [v] (setAdd S v)>>=_) _ _ s';refine cT (eK ?_);unfold setAdd;refine eK (cT (knd.pyHash k1 ?_));have room:(sT (all.take i)).length+1<scanBound:=by have h1:=Jk (all.take i);rw[fQ]at h1;omega
  refine wpAny_setAddHashed_of (knd:=knd) (s:={s' with toks:=s'.toks+1}) k1 k2 YT room λh' hsb hS2=>?_;have et:all.take (i+1)=all.take i++[all[i]]:=by rw[gU,Ym];rfl
  have hSi:h'.SetOf knd S (λx=>decide (x∈sT (all.take (i+1)))) (sT (all.take (i+1))).length:=by
   refine ip hS2 (λx=>?_) ?_
   .rw[et];by_cases W7:all[i]∈sT (all.take i)
    .rw[xU,cZ W7];by_cases hx:x=all[i]
     .subst hx;simp[W7]
     .simp[hx]
    .rw[xU,cX W7];by_cases hx:x=all[i]
     .subst hx;simp
     .simp[hx]
   .rw[et,xU];by_cases W7:all[i]∈sT (all.take i)
    .rw[cZ W7];simp[W7]
    .rw[cX W7];simp[W7]
  refine c9 ⟨ku gx _,ih (i+1) _ (by omega) Xg (W.frame _ s' _ _ ZZ (gS _) λb hb o e=>?_) hSi λZR Z0 hS''=>?_⟩
  .rw[hsb.2 b (λz:b=S=>hSf (z ▸ hb))];exact e
  .refine hR ZR (mz W.gtrans ((hm.mono up).then_heap (gS _) λb o hb e=>?_) Z0) hS'';rw[hsb.2 b (λz:b=S=>hb (by rw[z];exact dG))];exact e
end
def Fg:isSubtype (.type "list") (.type "set")=pure false:=by rw[jc];kernel_rfl
def AN:isSubtype (.type "list") (.type "frozenset")=pure false:=by rw[jc];kernel_rfl
section
variable {prog:Pg}{w:Wo}{A:Ar}{E:QQX}{κ:Type}[DecidableEq κ][BEq κ][LawfulBEq κ]{knd:PySem.KeyKind prog w κ}{s:Sd}
set_option maxHeartbeats 4000000 in
def CY{l:Addr}{W6:Array Vl}{all:List κ}{Q:QQX}(hh:A.handled=none)(hl:s.heap.IsList l W6)(hn:W6.size=all.length)(hi:∀(i:Nat) (v:Vl) (k:κ),W6[i]?=some v->all[i]?=some k->knd.is k v=true/\v.scannable=true)(hb:all.length+1<scanBound) (h:∀(h':Heap) (tk:Nat),h'.SetOf knd s.heap.objs.size (λx=>decide (x∈sT all)) (sT all).length->(∀b o,s.heap.get? b=some o->h'.get? b=some o)->Q (.ref s.heap.objs.size) {s with heap:=h',toks:=tk}):
  wpAny (model prog w) A (call (.type "set") [.ref l]) Q E s:=by
 obtain⟨c,tl,Z2⟩:=fz.mro;have hmade:=fz.made;have YS:=fz.sub;refine hJ (jS ?_);show wpAny _ _ (callAny (.type "set") _) _ _ _;refine c9 ⟨iq _ (by decide+kernel),gO lj ?_⟩;rw[kP (j4 "set" [.ref l] []) rfl];have h1:=fz.notType;have h2:=fz.canCreate;have hct:=lK (.ref l)
 repeat (any_goals(first|assumption|wp_step))
 have fresh:∀Xv:Bool,(s.heap.push {cls:=.type "set",dict:=none,data:=.set #[] 0 (.fresh 0 0 Xv)}).get? s.heap.objs.size=some {cls:=.type "set",dict:=none,data:=.set #[] 0 (.fresh 0 0 Xv)}:=λXv=>dE _ rfl;refine gh (code_set_new_1 (.ref l) (E:=E) (Q₁:=λobj s₁=>∃Xv:Bool,obj=Value.ref s.heap.objs.size/\s₁={s with heap:=s.heap.push {cls:=.type "set",dict:=none,data:=.set #[] 0 (.fresh 0 0 Xv)}}) λXv=>⟨Xv,rfl,rfl⟩) λr s₁ hr=>?_;cases r with
 | error e=>exact hr
 | ok fl=>
  cases fl with
  | ret obj=>
   obtain⟨Xv,rfl,rfl⟩:=hr;have hS:=fresh Xv;have hT:Shared.TypeIs {s with heap:=s.heap.push {cls:=.type "set",dict:=none,data:=.set #[] 0 (.fresh 0 0 Xv)}} (.ref s.heap.objs.size) "set":=⟨_,hS,rfl⟩;have hli:=fz.init.lookup;have hbi:=fz.init.bind (.ref s.heap.objs.size)
   repeat (any_goals(first|assumption|wp_step))
   refine gh (hW (R:=wants (λr s₂=>r=.none/\∃h' tk,s₂={s with heap:=h',toks:=tk}/\h'.SetOf knd s.heap.objs.size (λx=>decide (x∈sT all)) (sT all).length/\(∀b o,s.heap.get? b=some o->h'.get? b=some o)) E) fz.init.plain lL (lM hT ?_)) λr₂ s₂ Z3=>?_
   .obtain⟨ol,hol,Zy,nl,hdl⟩:=hl;obtain⟨ocls,YU,odata,Yn⟩:=ol;simp only at Zy hdl;subst Zy;subst hdl;have Z4:(s.heap.push {cls:=.type "set",dict:=none,data:=.set #[] 0 (.fresh 0 0 Xv)}).get? l=some {cls:=.type "list",dict:=YU,data:=.seq W6 nl,slots:=Yn}:=cY _ hol;have hsls:=Fg;have hslf:=AN;have hnd:(Value.type "list"==Value.type "dict")=false:=by decide
    have hl1:(s.heap.push {cls:=.type "set",dict:=none,data:=.set #[] 0 (.fresh 0 0 Xv)}).IsList l W6:=⟨_,Z4,rfl,nl,rfl⟩;unfold Builtin.«set.__init__» noKeywords Builtin.Frozenset.updateFrom;generalize hPI:pyIter=PI
    wp_walk
    subst hPI;refine gT hl1 ?_;refine cT (wpAny_runValue ?_);have lS:l<s.heap.objs.size:=dq hol;have hh3:A.in1.in1.in1.handled=none:=by simp[hh]
    have lI:l≠(s.heap.push {cls:=.type "set",dict:=none,data:=.set #[] 0 (.fresh 0 0 Xv)}).objs.size:=by rw[ft];exact dC (fT lS)
    have W:=(kl (prog:=prog) (w:=w) hh3 _ l lI W6).toS;rw[hn]at W;refine Gi W s.heap.objs.size ?hf (λi v k e1 e2=>hi i v k e1 e2) hb all.length 0 _ (by omega) (eD _) ⟨⟨_,dE _ rfl,rfl,rfl⟩,(hl1.push _)⟩ ?h0 ?hR;case hf=>rw[ft];simp only[de,dD,eX,fK];exact⟨dC (fv _),gI lS⟩
    case h0=>exact ip ((jg (knd:=knd) Xv).setOf (cY _ hS) (by unfold scanBound;omega)) (λ_=>rfl) rfl
    case hR=>intro s' hm YT;obtain⟨h',g',d',tk',ZQ⟩:=s';have eg:g'=s.gens:=hm.gens;have ed:d'=s.drawn:=hm.drawn;have eo:ZQ=s.os:=hm.os;subst eg;subst ed;subst eo;refine c9 ?_;show wpAny _ _ (ret Value.none) _ _ _;refine c9 ⟨rfl,h',tk',rfl,YT,λb o e=>?_⟩;have hb:=dq e;refine hm.heap b o ?_ (cY _ (cY _ e));rw[ft];simp only[de,dD,eX,fK];exact⟨dC hb,dC (fT hb)⟩
   .cases r₂ with
    | error e=>exact Z3
    | ok fl₂=>
     cases fl₂ with
     | ret r=>
      obtain⟨rfl,h',tk,rfl,YT,ZW⟩:=Z3
      repeat (any_goals(first|assumption|wp_step))
      exact h _ _ YT ZW
     | _=>exact Z3.elim
  | _=>exact hr.elim
end
def Dm:isSubtype (.type "tuple") (.type "set")=pure false:=by rw[jc];kernel_rfl
def zU:isSubtype (.type "tuple") (.type "frozenset")=pure false:=by rw[jc];kernel_rfl
section
variable {prog:Pg}{w:Wo}{A:Ar}{E:QQX}{κ:Type}[DecidableEq κ][BEq κ][LawfulBEq κ]{knd:PySem.KeyKind prog w κ}{s:Sd}
set_option maxHeartbeats 4000000 in
def B7{l:Addr}{W6:Array Vl}{all:List κ}{Q:QQX}(hh:A.handled=none)(hl:s.heap.IsTuple l W6)(hn:W6.size=all.length)(hi:∀(i:Nat) (v:Vl) (k:κ),W6[i]?=some v->all[i]?=some k->knd.is k v=true/\v.scannable=true)(hb:all.length+1<scanBound) (h:∀(h':Heap) (tk:Nat),h'.SetOf knd s.heap.objs.size (λx=>decide (x∈sT all)) (sT all).length->(∀b o,s.heap.get? b=some o->h'.get? b=some o)->Q (.ref s.heap.objs.size) {s with heap:=h',toks:=tk}):
  wpAny (model prog w) A (call (.type "set") [.ref l]) Q E s:=by
 obtain⟨c,tl,Z2⟩:=fz.mro;have hmade:=fz.made;have YS:=fz.sub;refine hJ (jS ?_);show wpAny _ _ (callAny (.type "set") _) _ _ _;refine c9 ⟨iq _ (by decide+kernel),gO lj ?_⟩;rw[kP (j4 "set" [.ref l] []) rfl];have h1:=fz.notType;have h2:=fz.canCreate;have hct:=lK (.ref l)
 repeat (any_goals(first|assumption|wp_step))
 have fresh:∀Xv:Bool,(s.heap.push {cls:=.type "set",dict:=none,data:=.set #[] 0 (.fresh 0 0 Xv)}).get? s.heap.objs.size=some {cls:=.type "set",dict:=none,data:=.set #[] 0 (.fresh 0 0 Xv)}:=λXv=>dE _ rfl;refine gh (code_set_new_1 (.ref l) (E:=E) (Q₁:=λobj s₁=>∃Xv:Bool,obj=Value.ref s.heap.objs.size/\s₁={s with heap:=s.heap.push {cls:=.type "set",dict:=none,data:=.set #[] 0 (.fresh 0 0 Xv)}}) λXv=>⟨Xv,rfl,rfl⟩) λr s₁ hr=>?_;cases r with
 | error e=>exact hr
 | ok fl=>
  cases fl with
  | ret obj=>
   obtain⟨Xv,rfl,rfl⟩:=hr;have hS:=fresh Xv;have hT:Shared.TypeIs {s with heap:=s.heap.push {cls:=.type "set",dict:=none,data:=.set #[] 0 (.fresh 0 0 Xv)}} (.ref s.heap.objs.size) "set":=⟨_,hS,rfl⟩;have hli:=fz.init.lookup;have hbi:=fz.init.bind (.ref s.heap.objs.size)
   repeat (any_goals(first|assumption|wp_step))
   refine gh (hW (R:=wants (λr s₂=>r=.none/\∃h' tk,s₂={s with heap:=h',toks:=tk}/\h'.SetOf knd s.heap.objs.size (λx=>decide (x∈sT all)) (sT all).length/\(∀b o,s.heap.get? b=some o->h'.get? b=some o)) E) fz.init.plain lL (lM hT ?_)) λr₂ s₂ Z3=>?_
   .obtain⟨ol,hol,Zy,nl,hdl⟩:=hl;obtain⟨ocls,YU,odata,Yn⟩:=ol;simp only at Zy hdl;subst Zy;subst hdl;have Z4:(s.heap.push {cls:=.type "set",dict:=none,data:=.set #[] 0 (.fresh 0 0 Xv)}).get? l=some {cls:=.type "tuple",dict:=YU,data:=.seq W6 nl,slots:=Yn}:=cY _ hol;have hsls:=Dm;have hslf:=zU;have hnd:(Value.type "tuple"==Value.type "dict")=false:=by decide
    have hl1:(s.heap.push {cls:=.type "set",dict:=none,data:=.set #[] 0 (.fresh 0 0 Xv)}).IsTuple l W6:=⟨_,Z4,rfl,nl,rfl⟩;unfold Builtin.«set.__init__» noKeywords Builtin.Frozenset.updateFrom;generalize hPI:pyIter=PI
    wp_walk
    subst hPI;refine ir hl1 ?_;refine cT (wpAny_runValue ?_);have lS:l<s.heap.objs.size:=dq hol;have hh3:A.in1.in1.in1.handled=none:=by simp[hh]
    have lI:l≠(s.heap.push {cls:=.type "set",dict:=none,data:=.set #[] 0 (.fresh 0 0 Xv)}).objs.size:=by rw[ft];exact dC (fT lS)
    have W:=(Walks.tuple (prog:=prog) (w:=w) hh3 _ l lI W6).toS;rw[hn]at W;refine Gi W s.heap.objs.size ?hf (λi v k e1 e2=>hi i v k e1 e2) hb all.length 0 _ (by omega) (eD _) ⟨⟨_,dE _ rfl,rfl,rfl⟩,(hl1.push _)⟩ ?h0 ?hR;case hf=>rw[ft];simp only[de,dD,eX,fK];exact⟨dC (fv _),gI lS⟩
    case h0=>exact ip ((jg (knd:=knd) Xv).setOf (cY _ hS) (by unfold scanBound;omega)) (λ_=>rfl) rfl
    case hR=>intro s' hm YT;obtain⟨h',g',d',tk',ZQ⟩:=s';have eg:g'=s.gens:=hm.gens;have ed:d'=s.drawn:=hm.drawn;have eo:ZQ=s.os:=hm.os;subst eg;subst ed;subst eo;refine c9 ?_;show wpAny _ _ (ret Value.none) _ _ _;refine c9 ⟨rfl,h',tk',rfl,YT,λb o e=>?_⟩;have hb:=dq e;refine hm.heap b o ?_ (cY _ (cY _ e));rw[ft];simp only[de,dD,eX,fK];exact⟨dC hb,dC (fT hb)⟩
   .cases r₂ with
    | error e=>exact Z3
    | ok fl₂=>
     cases fl₂ with
     | ret r=>
      obtain⟨rfl,h',tk,rfl,YT,ZW⟩:=Z3
      repeat (any_goals(first|assumption|wp_step))
      exact h _ _ YT ZW
     | _=>exact Z3.elim
  | _=>exact hr.elim
end
end L2
namespace HT
open PySem PyProof.Rows
variable {prog:Pg}{w:Wo}{A:Ar}{E:QQX}{s:Sd}
def zi{t sl:Addr}{vl vu:Vl}{lo hi:Option Int}{Q:QQX}(ht:IsTup s.heap t W6)(hs:s.heap.IsSliceOf sl vl vu .none)(pl:IsPart vl lo)(pu:IsPart vu hi) (hw:sZ W6.size 0 lo=0/\sZ W6.size W6.size hi=W6.size) (h:Q (.ref t) s):wpAny (model prog w) A (getItem (.ref t) (.ref sl)) Q E s:=by
 obtain⟨os,ZS,Zt,Yk⟩:=id hs;have hTs:s.TypeIs (.ref sl) "slice":=⟨os,ZS,Zt⟩;unfold getItem
 try with_reducible refine eK ?_
 first|refine cT (c9 ?_)|skip
 refine cT (jn ht.typeIs (by decide) ?_);refine cT (fL (name:=Str.ofString "__getitem__") ht.typeIs fD (fR fD ht.typeIs kA ?_ (kN _ _)));show wpAny _ _ (Builtin.Tuple.tupleItemsOf (.ref t)>>=_) _ _ s;refine cT (tupleItemsOf_ ht ?_);refine cT (jC hTs ?_);rw[cZ (by decide)];refine cT (vU hs pl pu ?_);have yes:(((sZ W6.size 0 lo:Nat):Int)==0&&(1:Int)==1&&(sZ W6.size W6.size hi - sZ W6.size 0 lo)==W6.size)=true:=by rw[hw.1,hw.2];simp
 show wpAny _ _ (if (((sZ W6.size 0 lo:Nat):Int)==0&&(1:Int)==1&&(sZ W6.size W6.size hi - sZ W6.size 0 lo)==W6.size)=true then _ else _) _ _ s;rw[cZ yes];have hT:=ht.typeIs;obtain⟨hp,g,d,tk,o⟩:=s
 repeat (any_goals(first|assumption|wp_step))
 exact⟨_,rfl,c9 h⟩
end HT
namespace L2
variable {X:Cx}{p p2 pos YV:Pos}{e:Expr}{te:TE}
section
def Wc(K:qh):V->Option Int->Option Int->Hp->VK->Prop:=λx lo hi H Q=>∃a xs,x=.ref a/\uU K H a xs/\(HT.sZ xs.length 0 lo=0/\HT.sZ xs.length xs.length hi=xs.length)/\Q (.ref a) H
def SZ:Um X (Wc X.K):=by
 intro W5 s Y H x v vl vu lo hi sl Q I rx hs pl pu h;obtain⟨a,xs,rfl,hx,hw,q⟩:=h;cases rx;obtain⟨its,r,ht,hz⟩:=I.tuple hx;have Xb:its.toArray.size=xs.length:=by rw[dh];exact r.length.symm
 exact⟨"tuple",_,fD.lookup,ht.typeIs,HT.zi ht hs pl pu (by rw[Xb];exact hw) ⟨.ref a,H,I,rfl,q⟩⟩
local instance (priority:=5000) keyBEq:BEq qS:=instBEqOfDecidableEq
local instance (priority:=5000) keyLaw:LawfulBEq qS:=inferInstanceAs (LawfulBEq (Sum Int Str))
def PV(K:qh)(te:TE):TE:=λY H Q=>te Y H λx H1=>∃a,∃ss:QQQ,x=.ref a/\(yU K H1 a (ss.map V.str)\/uU K H1 a (ss.map V.str))/\ss.length+1<scanBound/\Q (.int (sT ss).length) H1
def GQ{ss:QQQ}(r:qx (ss.map V.str) us):us.length=ss.length/\∀(i:Nat) (v:Vl) (k:qS),us[i]?=some v->(ss.map λx=>(Sum.inr x:qS))[i]?=some k->(rg P w).is k v=true/\v.scannable=true:=by
 refine⟨by rw[<-r.length,cS],λi v k e1 e2=>?_⟩;rw[dz]at e2;cases q:ss[i]? with
 | none=>rw[q]at e2;cases e2
 | some x=>rw[q]at e2;cases e2;obtain⟨u,e3,t,rfl⟩:=r.get (i:=i) (x:=V.str x) (by rw[dz,q];rfl);rw[e3]at e1;cases e1;exact⟨As P w x t,rfl⟩
def LZ{ss:QQQ}:(sT (ss.map λx=>(Sum.inr x:qS))).length=(sT ss).length:=by
 have go:∀(l acc:QQQ),(l.map λx=>(Sum.inr x:qS)).foldl (λacc k=>if k∈acc then acc else acc++[k]) (acc.map Sum.inr)=(l.foldl (λacc k=>if k∈acc then acc else acc++[k]) acc).map Sum.inr:=by
  intro l;induction l with
  | nil=>intro acc;rfl
  | cons k r ih=>
   intro acc;rw[dR,fU,fU];have hm:(Sum.inr k:qS)∈acc.map Sum.inr↔k∈acc:=by
    rw[dB];constructor
    .rintro ⟨y,h1,h2⟩;cases h2;exact h1
    .exact λh=>⟨k,h,rfl⟩
   by_cases h:k∈acc
   .rw[cZ h,cZ (hm.mpr h)];exact ih acc
   .rw[cX h,cX λz=>h (hm.mp z)];have:=ih (acc++[k]);rw[dP]at this;exact this
 have:=go ss [];unfold sT;rw[iO]at this;rw[this,cS]
def Kl(hc:X.calm=true)(he:PE X e te)(hg1:Gl X "len")(W7:X.mg "len"=none)(hg2:Gl X "set")(Xm:X.mg "set"=none)(b1:bootBuiltins "len"=some (.builtin "len"))(b2:bootBuiltins "set"=some (.type "set")) (hs:starEach [e] X.env=[(false,eval e X.env)]:=by rfl):PE X (.Call (.Name "len" p) [.Call (.Name "set" p2) [e] [] YV] [] pos) (PV X.K te):=by
 intro W5 s Y H Q I h;refine fP (wB I hg1 W7 b1 ?_);refine gN ?_ rfl rfl;show wpAny _ _ (spliced ((false,eval (.Call (.Name "set" p2) [e] [] YV) X.env)::backTo pos (starEach [] X.env))) _ _ s;refine ik ?_;refine fP (wB I hg2 Xm b2 ?_);refine fJ ?_ hs rfl;rw[hs];show wpAny _ _ (spliced ((false,eval e X.env)::backTo YV (starEach [] X.env))) _ _ s;refine ik (sf (he W5 s Y H _ I h) λu s1 ⟨x,H1,I1,r1,a,ss,ex,hq,hb,q⟩=>iC ?_);subst ex;obtain rfl:u=Value.ref a:=r1;have X0:(ss.map λx=>(Sum.inr x:qS)).length+1<scanBound:=by rw[cS];exact hb
 have Xa:∀(h':Heap) (tk:Nat),h'.SetOf (rg X.prog X.w) s1.heap.objs.size (λx=>decide (x∈sT (ss.map λx=>(Sum.inr x:qS)))) (sT (ss.map λx=>(Sum.inr x:qS))).length->(∀b o,s1.heap.get? b=some o->h'.get? b=some o)->
   wpAny (model X.prog X.w) X.A (spliced (backTo pos (starEach [] X.env))) (λvs s₁=>wpAny (model X.prog X.w) X.A (call (.builtin "len") (.ref s1.heap.objs.size::vs)) (EP X W5 Y Q) X.xe s₁) X.xe {s1 with heap:=h',toks:=tk}:=λh' tk hS keep=>by
  refine iC ?_;obtain⟨o,es,ep,t,ho,hex,hd,_,_,hz,hf,hn⟩:=hS;have Xg:(es.size:Int)<2 ^ 63:=by have:scanBound=4096:=rfl;omega
  refine call_len_set ho hex hd hf Xg ?_;refine⟨.int es.size,H1,I1.kept keep,⟨_,rfl⟩,?_⟩;rw[hn,LZ];exact q
 rcases hq with hq|hq
 .obtain⟨its,r,pl,hz⟩:=I1.list hq;obtain⟨k1,k2⟩:=GQ (P:=X.prog) (w:=X.w) r;exact L2.CY (knd:=rg X.prog X.w) (all:=ss.map λx=>(Sum.inr x:qS)) (I1.ok.hd hc) pl.isList (by rw[dh,k1,cS]) (λi v k e1 e2=>k2 i v k (by simpa using e1) e2) X0 Xa
 .obtain⟨its,r,pl,hz⟩:=I1.tuple hq;obtain⟨k1,k2⟩:=GQ (P:=X.prog) (w:=X.w) r;exact L2.B7 (knd:=rg X.prog X.w) (all:=ss.map λx=>(Sum.inr x:qS)) (I1.ok.hd hc) pl (by rw[dh,k1,cS]) (λi v k e1 e2=>k2 i v k (by simpa using e1) e2) X0 Xa
end
variable {W5:T0 (Addr × Obj)}{Y:St}{H:Hp}{s:Sd}
theorem Dz(I:Inv X W5 Y H s):∀(ts:QXQ) (kvs:T0 (qS×V)),ts.length=kvs.length->(∀(j:Nat) (t:Addr) (p:qS×V),ts[j]?=some t->kvs[j]?=some p->uU X.K H t [kV p.1,p.2])->
  ∃(us:T0 Vl) (all:T0 (qS×Vl)),us.length=kvs.length/\KV kvs all/\∀(j:Nat) (t:Addr) (p:qS×Vl),ts[j]?=some t->all[j]?=some p->∃u,us[j]?=some u/\s.heap.IsTuple t #[u,p.2]/\(rg X.prog X.w).is p.1 u=true
 | [],[],_,_=>⟨[],[],rfl,.nil,λj t p e=>by simp at e⟩
 | [],_::_,h,_=>by simp at h
 | _::_,[],h,_=>by simp at h
 | t::ts,(k,v)::kvs,h,hq=>by
  obtain⟨us,all,h1,h2,h3⟩:=Dz I ts kvs (by simpa using h) (λj t p e1 e2=>hq (j+1) t p (by simpa using e1) (by simpa using e2));obtain⟨its,r,pl,_⟩:=I.tuple (hq 0 t (k,v) (by simp) (by simp));cases r with
  | cons r1 r2=>
   cases r2 with
   | cons r3 r4=>
    cases r4;rename_i u w;refine⟨u::us,(k,w)::all,by simpa using h1,.cons ⟨rfl,r3⟩ h2,λj t' p e1 e2=>?_⟩;cases j with
    | zero=>
     have e1':t=t':=by simpa using e1
     have Zg:(k,w)=p:=by simpa using e2
     subst e1' Zg;exact⟨u,by simp,pl,Gy r1⟩
    | succ j=>simpa using h3 j t' p (by simpa using e1) (by simpa using e2)
theorem ML:∀{kvs:T0 (qS×V)} {all:T0 (qS×Vl)},KV kvs all->all.map (·.1)=kvs.map (·.1)
 | _,_,.nil=>rfl
 | _,_,.cons r rs=>by rw[dR,dR,ML rs,r.1]
def Hh(hc:X.calm=true):yl X (.type "dict") (λxs H Q=>∃l,∃ts:QXQ,∃kvs:T0 (qS×V),xs=[V.ref l]/\yU X.K H l (ts.map V.ref)/\ts.length=kvs.length/\
  (∀(j:Nat) (t:Addr) (p:qS×V),ts[j]?=some t->kvs[j]?=some p->uU X.K H t [kV p.1,p.2])/\(kvs.map (·.1)).Nodup/\∀d,H d=none->Q (.ref d) (upd H d (.dK kvs))):=by
 intro W5 s Y H xs us Q I r h;obtain⟨l,ts,kvs,rfl,hl,Xb,hq,hnd,q⟩:=h;obtain⟨u,rfl,ru⟩:=ye r;cases ru;obtain⟨its,rv,⟨⟨c1,d1,t1,sl1⟩,n,g1,e1,e2,e3⟩,hz⟩:=I.list hl;simp only at e1 e2 e3;subst e1 e2 e3;obtain⟨ks,all,h1,h2,h3⟩:=Dz I ts kvs Xb hq;have la:all.length=kvs.length:=(jk h2).symm;have li:its.length=kvs.length:=by rw[<-rv.length,cS,Xb]
 have zl:all.length<=sizeLine:=by rw[la,<-Xb];simpa using hz
 have at_:∀(j:Nat) (p:qS×Vl),all[j]?=some p->∃t,ts[j]?=some t:=λj p e=>by have:=(cU.mp e).1;exact⟨ts[j],cV (by omega)⟩
 refine AH (knd:=rg X.prog X.w) (all:=all) (λj=>(ks[j]?).getD .none) (λj=>(ts[j]?).getD 0) (I.ok.hd hc) g1 (λj v e=>?_) (by rw[dh,li,la]) (λj p e=>?_) (λj p e=>?_) zl λh' tk hD keep=>?_
 .have e':its[j]?=some v:=by simpa using e
  have hj:=(cU.mp e').1;have hj2:j<ts.length:=by omega
  obtain⟨w,e4,e5⟩:=rv.get (i:=j) (x:=V.ref ts[j]) (by rw[dz,cV hj2];rfl);rw[e']at e4;cases e4;show v=Value.ref ((ts[j]?).getD 0);rw[cV hj2];exact e5
 .obtain⟨t,et⟩:=at_ j p e;obtain⟨u,e4,e5,_⟩:=h3 j t p et e;show s.heap.IsTuple ((ts[j]?).getD 0) #[(ks[j]?).getD .none,p.2];rw[et,e4];exact e5
 .obtain⟨t,et⟩:=at_ j p e;obtain⟨u,e4,_,e6⟩:=h3 j t p et e;show(rg X.prog X.w).is p.1 ((ks[j]?).getD .none)=true;rw[e4];exact e6
 .rw[merged_nil_of_nodup all (by rw[ML h2];exact hnd)]at hD;have fr:=I.mM.fresh (dg s.heap.objs.size);exact⟨.ref s.heap.objs.size,_,I.laid (t':=tk) (o:=.dK kvs) keep (dg _) (Mr (by rw[<-la];exact zl) (gp.mpr (dI (dC I.big))) h2 hD),rfl,q _ fr⟩
def V9:R2:=λx y H Q=>∃a v,x=.ref a/\EM H a y (some v)/\Q v H
def QB(hu:X.A.units+1<cLine):Tj X V9:=by
 intro value Xe W5 s Y H x y o i Q I rx ry h hs;obtain⟨a,v,rfl,g,q⟩:=h;obtain rfl:o=Value.ref a:=rx;have hT:=Hg I g;have h2:wpAny (model X.prog X.w) X.A (getItem (.ref a) i) (EP X W5 Y Q) X.xe s:=Kw hu I g ry λw' s3 I3 Ze=>⟨v,H,I3,Ze,q⟩;unfold subscriptTail;refine cT ?_;rw[j5 hT.not_modules];refine cT (jT hT jt.lookup ?_);have Xa:wpAny (model X.prog X.w) X.A (subscripted Xe false (.ref a) i) (λr s₃=>wpAny (model X.prog X.w) X.A (letTemporaryGo value (.ref a) r>>=λ_=>pure r) (EP X W5 Y Q) X.xe s₃) X.xe s:=by rw[hs];exact wpAny_operating (dZ h2 (λr s₃ h₃=>cT (km (c9 h₃))) λ_ _ x=>x)
 first
  | exact c9 (cT Xa)
  | exact cT (c9 (cT Xa))
  | exact cT Xa
def Sf(hu:X.A.units+1<cLine):xk X (compareOp .In) (λx y H Q=>∃a o,y=.ref a/\EM H a x o/\Q (.bl o.isSome) H):=by intro W5 s Y H x y v u Q I rx ry h;obtain⟨a,o,rfl,g,q⟩:=h;obtain rfl:u=Value.ref a:=ry;exact Vs hu I g rx λs3 I3=>⟨.bl o.isSome,H,I3,rfl,q⟩
variable {prog:Pg}{w:Wo}{A:Ar}{E:QQX}{a:Addr}{U:Type}{k:Str}{tk:Tok}
section
variable {R:U→Vl→Prop}{D:T0 (Str × U)}
def yN(T:KTD.TabOf R s.heap a D):s.TypeIs (.ref a) "dict":=let⟨_,o,_,_,ho,hc,_⟩:=T;⟨o,ho,hc.1⟩
def JA{Q:Option Vl->Sd->Prop}(T:KTD.TabOf R s.heap a D)(h1:∀d v,KTD.datumAt k D=some d->R d v->Q (some v) {s with toks:=s.toks+1})(h2:KTD.datumAt k D=none->Q none {s with toks:=s.toks+1}):
  wpAny (model prog w) A (dictGet a (.str k tk)) Q E s:=by
 obtain⟨_,o,es,ep,ho,hc,hd,hr⟩:=T;have hq:Q (findBy (λk v=>v.isStr k) es k) {s with toks:=s.toks+1}:=by
  have hf:findBy (λk v=>v.isStr k) es k=(es.toList.find? λe=>e.key.isStr k).map (·.val):=by obtain⟨l⟩:=es;simp[findBy]
  rw[hf];cases Zz:KTD.datumAt k D with
  | none=>rw[hr.find_none Zz];exact h2 Zz
  | some d=>obtain⟨v,hv,hfl⟩:=hr.find_some Zz;rw[hv];exact h1 d v Zz hfl
 have X9:(es.all λe=>isExactStrKey e.key)=true:=by
  obtain⟨l⟩:=es
  simpa using hr.exact
 unfold dictGet
 try with_reducible refine eK ?_
 refine cT (lB (cT (KTD.kt_dictFind_strs (s:={s with toks:=s.toks+1}) ho hd X9 ?_)));rw[findBy_of_findIdx?]at hq;cases hi:es.findIdx? λe=>e.key.isStr k with
 | none=>rw[hi]at hq;exact c9 hq
 | some i=>rw[hi]at hq;exact cT (wpAny_dictEntries (s:={s with toks:=s.toks+1}) ho hd (c9 hq))
def S'{Q:QQX}(T:KTD.TabOf R s.heap a D)(h:Q (.bool (KTD.datumAt k D).isSome) {s with toks:=s.toks+1}):wpAny (model prog w) A (compareOp .In (.str k tk) (.ref a)) Q E s:=by
 have hT:=yN T;show wpAny _ _ (do return .bool (<-contains (.ref a) (.str k tk))) Q E s;refine cT ?_;unfold contains
 try with_reducible refine eK ?_
 refine cT (jT hT jh.lookup ?_);show wpAny _ _ (if (some (Value.builtin "dict.__contains__")==some Value.none)=true then _ else _) _ E s;rw[cX (by rw[beq_builtin_none];exact dw)];refine cT (wpAny_callSpecialUnlessNone?_slot (name:=Str.ofString "__contains__") hT jh (fR jh hT entry_dict_contains ?_ (args_dict_contains _ _)));show wpAny _ _ (dictGet a (.str k tk)>>=_) _ _ s;refine cT (JA T (λd v ha _=>?_) λhn=>?_)
 .rw[ha]at h;show wpAny _ _ (ret (.bool true)) _ _ _;exact c9 ⟨_,rfl,fj (c9 h)⟩
 .rw[hn]at h;show wpAny _ _ (Builtin.Dict.pendingKey? a (.str k tk)>>=_) _ _ _;exact cT (wpAny_pendingKey_other T.1 (c9 ⟨_,rfl,fj (c9 h)⟩))
def NL{Q:QQX}{d:U}(T:KTD.TabOf R s.heap a D)(hd:KTD.datumAt k D=some d)(h:∀v,R d v->Q v {s with toks:=s.toks+1}):wpAny (model prog w) A (getItem (.ref a) (.str k tk)) Q E s:=by
 have hT:=yN T;unfold getItem
 try with_reducible refine eK ?_
 refine cT (jn hT (by decide) ?_);refine cT (fL (name:=Str.ofString "__getitem__") hT lq (fR lq hT entry_dict_getitem ?_ (args_dict_getitem _ _)));show wpAny _ _ (dictGet a (.str k tk)>>=_) _ _ s;refine cT (JA T (λd' v ha hv=>c9 ⟨v,rfl,c9 (h v ?_)⟩) λhn=>?_)
 .rw[hd]at ha;cases ha;exact hv
 .rw[hd]at hn;cases hn
end
def NM(K:qh)(mg:QQZ)(x:Str)(F:T0 (Str×QQQ)):Prop:=∃a o es ep,mg x=some (.ref a)/\(a==sysModules)=false/\K.lookup a=some o/\o.ExactDict/\o.data=.dict es ep/\
 KTD.Rows (λ(ss:QQQ) v=>∃t,v=Value.ref t/\uU K (λ_=>none) t (ss.map V.str)) es.toList F
variable {x:Str}{F:T0 (Str × QQQ)}
def Jf{K:qh}(h:uU K (λ_=>none) t xs):uU K H t xs:=by
 rcases h with(h|⟨o,h⟩)|h
 .cases h
 .cases h
 .exact .inr h
def F1{K:qh}(T:NM K mg x F):∃a,mg x=some (.ref a)/\∀h:Heap,K.In h->KTD.TabOf (λ(ss:QQQ) v=>∃t,v=Value.ref t/\uU K (λ_=>none) t (ss.map V.str)) h a F:=by obtain⟨a,o,es,ep,h1,h2,h3,h4,h5,h6⟩:=T;exact⟨a,h1,λh hk=>⟨h2,o,es,ep,hk a o h3,h4,h5,h6⟩⟩
def Wk(x:Str):It:=⟨λi _=>i<x.cps.size,λi H v H'=>H'=H/\∃c,x.cps[i]?=some c/\v=.str ⟨#[c]⟩,λi _=>i=x.cps.size⟩
def Hb{K:qh}{ty:String}{x:Str}{t:Tok}(it:Addr)(W:∀A':Ar,A'.handled=none->Walks P w A' it [it] [it] x.cps.size (SignAt x) (λi h=>h.IsStrIter it ty x t i)) (hself:∀(A:Ar) (i:Nat) (s:Sd) (Q:QQX) (E:QQX),s.heap.IsStrIter it ty x t i->Q (.ref it) s->wpAny (model P w) A (pyIter (.ref it)) Q E s) (hn:["enumerate","zip","dict_itemiterator","dict_reverseitemiterator","odict_iterator","itertools.zip_longest","itertools.pairwise"].contains ty=false):F' P w K tg (Wk x) [it] it (λi h=>h.IsStrIter it ty x t i) where
 mem:=by simp
 obj:=λi h st b hb=>by
  obtain rfl:b=it:=by simpa using hb
  obtain⟨o,e,c,d⟩:=st;exact⟨o,e,λv z=>by rw[d]at z;cases z⟩
 keep:=λi h h' st k=>by obtain⟨o,e,r⟩:=st;exact⟨o,k it (by simp) o e,r⟩
 item:=by intro X hP hw hK hc i W5 s Y H E I hf st hg;subst hP hw hK;obtain⟨f0,f1,f2,f3,f4,f5⟩:=hf it (by simp);refine(W X.A (I.ok.hd hc)).item i s _ _ hg st λv h' tk hv XX kp=>?_;obtain⟨c,u,e1,e2⟩:=hv;have I1:Inv X W5 Y H {s with heap:=h',toks:=tk}:=I.turned (t':=tk) (λb o hb e=>kp b o (by simpa using hb) e) f0 f1 f3 f4 f5;obtain⟨o,e,cl,d⟩:=id XX;exact⟨v,rfl,Jm (s:={s with heap:=h',toks:=tk}) e cl d hn ⟨.str ⟨#[c]⟩,H,I1,⟨u,e2⟩,⟨rfl,c,e1,rfl⟩,XX,λb hb=>(hf b hb).1⟩⟩
 done:=by intro X hP hw hK hc i W5 s Y H E I hf st hg;subst hP hw hK;obtain⟨f0,f1,f2,f3,f4,f5⟩:=hf it (by simp);obtain rfl:i=x.cps.size:=hg;exact(W X.A (I.ok.hd hc)).done s _ _ st λh' tk kp=>⟨rfl,I.turned (t':=tk) (λb o hb e=>kp b o (by simpa using hb) e) f0 f1 f3 f4 f5⟩
 self:=hself
variable {tg:Expr}
def Oi(hc:X.calm=true)(hl:PE X l tl):PI X tg l (λY H R=>tl Y H λx H1=>(∃a,x=.ref a/\(((∃xs,yU X.K H1 a xs)/\R (Vf X.K a) H1)\/((∃xs,uU X.K H1 a xs)/\R (VI X.K a) H1)))\/∃z,x=.str z/\R (Wk z) H1):=by
 intro W5 s Y H R I h;refine sf (hl W5 s Y H _ I h) λv s1 zz=>x5 zz λx H1 I1 r1 q1=>?_;rcases q1 with⟨a,e,q1⟩|⟨z,e,q⟩
 .subst e;cases r1;rcases q1 with⟨⟨xs,hq⟩,q⟩|⟨⟨xs,hq⟩,q⟩
  .obtain⟨its,rv,p,hz⟩:=I1.list hq;refine gT p.isList ?_;refine⟨s1.heap.objs.size,[s1.heap.objs.size],_,_,H1,rfl,I1.kept (t':=s1.toks) λb o e=>cY _ e,KM a _,⟨_,dE _ rfl,rfl,rfl⟩,λb hb=>?_,q⟩;obtain rfl:b=s1.heap.objs.size:=by simpa using hb
   exact I1.nN (dg _) (I1.mM.fresh (dg _))
  .obtain⟨its,rv,p,hz⟩:=I1.tuple hq;refine ir (show s1.heap.IsTuple a its.toArray from p) ?_;refine⟨s1.heap.objs.size,[s1.heap.objs.size],_,_,H1,rfl,I1.kept (t':=s1.toks) λb o e=>cY _ e,Hy a _,⟨_,dE _ rfl,rfl,rfl⟩,λb hb=>?_,q⟩;obtain rfl:b=s1.heap.objs.size:=by simpa using hb
   exact I1.nN (dg _) (I1.mM.fresh (dg _))
 .subst e;obtain⟨t,rfl⟩:=r1;have fp:∀b∈[s1.heap.objs.size],AC X W5 H1 b:=λb hb=>by
   obtain rfl:b=s1.heap.objs.size:=by simpa using hb
   exact I1.nN (dg _) (I1.mM.fresh (dg _))
  cases ha:z.cps.all (·<128)
  .refine wpAny_pyIter_wide ha ?_;exact⟨s1.heap.objs.size,[s1.heap.objs.size],_,_,H1,rfl,I1.kept (t':=s1.toks) λb o e=>cY _ e,Hb _ (λA' hA=>Walks.strWide hA _ z t) (λA i s Q E st h=>wpAny_pyIter_striter_wide st h) (by decide),⟨_,dE _ rfl,rfl,rfl⟩,fp,q⟩
  .refine wpAny_pyIter_ascii ha ?_;exact⟨s1.heap.objs.size,[s1.heap.objs.size],_,_,H1,rfl,I1.kept (t':=s1.toks) λb o e=>cY _ e,Hb _ (λA' hA=>Walks.strAscii hA _ z t) (λA i s Q E st h=>wpAny_pyIter_striter_ascii st h) (by decide),⟨_,dE _ rfl,rfl,rfl⟩,fp,q⟩
end L2
namespace L2
inductive A8{α0:Sort u}{α1:Sort v}(p:α0->α1->Prop):Prop
 | mk (a0:α0) (a1:α1) (h:p a0 a1):A8 p
inductive C8{α0:Sort u}{α1:Sort v}{α2:Sort w}(p:α0->α1->α2->Prop):Prop
 | mk (a0:α0) (a1:α1) (a2:α2) (h:p a0 a1 a2):C8 p
def x7{α:Sort u}{β:Sort v}{γ:Sort w}{p q r s:α->β->γ->Prop}{C:Prop}(h:C8 λa b c=>p a b c/\q a b c/\r a b c/\s a b c)(f:∀a b c,p a b c->q a b c->r a b c->s a b c->C):C:=by obtain⟨a,b,c,h1,h2,h3,h4⟩:=h;exact f a b c h1 h2 h3 h4
def KR{α:Sort u}{β:Sort v}{γ:Sort w}{p q r s s1 s2 s3:α->β->γ->Prop}{C:Prop}(h:C8 λa b c=>p a b c/\q a b c/\r a b c/\s a b c/\s1 a b c/\s2 a b c/\s3 a b c)(f:∀a b c,p a b c->q a b c->r a b c->s a b c->s1 a b c->s2 a b c->s3 a b c->C):C:=by obtain⟨a,b,c,h1,h2,h3,h4,h5,h6,h7⟩:=h;exact f a b c h1 h2 h3 h4 h5 h6 h7
inductive Bg{α0:Sort u}{α1:Sort v}{α2:Sort w}{α3:Sort u1}(p:α0->α1->α2->α3->Prop):Prop
 | mk (a0:α0) (a1:α1) (a2:α2) (a3:α3) (h:p a0 a1 a2 a3):Bg p
inductive F0{α0:Sort u}{α1:Sort v}{α2:Sort w}{α3:Sort u1}{α4:Sort u2}(p:α0->α1->α2->α3->α4->Prop):Prop
 | mk (a0:α0) (a1:α1) (a2:α2) (a3:α3) (a4:α4) (h:p a0 a1 a2 a3 a4):F0 p
inductive IF{α0:Sort u}{α1:Sort v}{α2:Sort w}{α3:Sort u1}{α4:Sort u2}{α5:Sort u3}(p:α0->α1->α2->α3->α4->α5->Prop):Prop
 | mk (a0:α0) (a1:α1) (a2:α2) (a3:α3) (a4:α4) (a5:α5) (h:p a0 a1 a2 a3 a4 a5):IF p
inductive To{α0:Sort u}{α1:Sort v}{α2:Sort w}{α3:Sort u1}{α4:Sort u2}{α5:Sort u3}{α6:Sort u4}(p:α0->α1->α2->α3->α4->α5->α6->Prop):Prop
 | mk (a0:α0) (a1:α1) (a2:α2) (a3:α3) (a4:α4) (a5:α5) (a6:α6) (h:p a0 a1 a2 a3 a4 a5 a6):To p
inductive Tg{α0:Sort u}{α1:Sort v}{α2:Sort w}{α3:Sort u1}{α4:Sort u2}{α5:Sort u3}{α6:Sort u4}{α7:Sort u5}(p:α0->α1->α2->α3->α4->α5->α6->α7->Prop):Prop
 | mk (a0:α0) (a1:α1) (a2:α2) (a3:α3) (a4:α4) (a5:α5) (a6:α6) (a7:α7) (h:p a0 a1 a2 a3 a4 a5 a6 a7):Tg p
inductive Uc{α0:Sort u}{α1:Sort v}{α2:Sort w}{α3:Sort u1}{α4:Sort u2}{α5:Sort u3}{α6:Sort u4}{α7:Sort u5}{α8:Sort u6}(p:α0->α1->α2->α3->α4->α5->α6->α7->α8->Prop):Prop
 | mk (a0:α0) (a1:α1) (a2:α2) (a3:α3) (a4:α4) (a5:α5) (a6:α6) (a7:α7) (a8:α8) (h:p a0 a1 a2 a3 a4 a5 a6 a7 a8):Uc p
inductive Nc{α0:Sort u}{α1:Sort v}{α2:Sort w}{α3:Sort u1}{α4:Sort u2}{α5:Sort u3}{α6:Sort u4}{α7:Sort u5}{α8:Sort u6}{α9:Sort u7}(p:α0->α1->α2->α3->α4->α5->α6->α7->α8->α9->Prop):Prop
 | mk (a0:α0) (a1:α1) (a2:α2) (a3:α3) (a4:α4) (a5:α5) (a6:α6) (a7:α7) (a8:α8) (a9:α9) (h:p a0 a1 a2 a3 a4 a5 a6 a7 a8 a9):Nc p
inductive Vv{α0:Sort u}{α1:Sort v}{α2:Sort w}{α3:Sort u1}{α4:Sort u2}{α5:Sort u3}{α6:Sort u4}{α7:Sort u5}{α8:Sort u6}{α9:Sort u7}{α10:Sort u8}(p:α0->α1->α2->α3->α4->α5->α6->α7->α8->α9->α10->Prop):Prop
 | mk (a0:α0) (a1:α1) (a2:α2) (a3:α3) (a4:α4) (a5:α5) (a6:α6) (a7:α7) (a8:α8) (a9:α9) (oX:α10) (h:p a0 a1 a2 a3 a4 a5 a6 a7 a8 a9 oX):Vv p
inductive Wb{α0:Sort u}{α1:Sort v}{α2:Sort w}{α3:Sort u1}{α4:Sort u2}{α5:Sort u3}{α6:Sort u4}{α7:Sort u5}{α8:Sort u6}{α9:Sort u7}{α10:Sort u8}{α11:Sort u9}(p:α0->α1->α2->α3->α4->α5->α6->α7->α8->α9->α10->α11->Prop):Prop
 | mk (a0:α0) (a1:α1) (a2:α2) (a3:α3) (a4:α4) (a5:α5) (a6:α6) (a7:α7) (a8:α8) (a9:α9) (oX:α10) (a11:α11) (h:p a0 a1 a2 a3 a4 a5 a6 a7 a8 a9 oX a11):Wb p
end L2
namespace L2
open PySem
def Ts(a C:Addr)(h:Heap):Prop:=A8 λoe vs=>h.get? a=some oe/\oe.cls=.ref C/\oe.data=.fields vs/\oe.dict=none
end L2
namespace L3
open L2
inductive D where
 | mG|bl (b:Bool)|int (i:Int)|str (x:Str)|tup (ds:List D)|ref (a:Addr)|ty (n:String)
 | rl (ds:List D)
def Qh(K:qh)(H:Hp)(a:Addr)(xs:T0 V):Prop:=(∃o,H a=some (.frz o (.lst xs)))\/
 ∃(o:Obj) (its:Array Vl) (n:Nat),K.lookup a=some o/\o.cls=.type "list"/\o.dict=none/\o.data=.seq its n/\its.size<=sizeLine/\qx xs its.toList
def Qh.sq{K:qh}(h:Qh K H a xs):yU K H a xs:=by
 rcases h with⟨o,h⟩|h
 .exact .inl (.inr ⟨o,h⟩)
 .exact .inr h
mutual
def rE(K:qh)(H:Hp):D->V->Prop
 | .mG,v=>v=.mG
 | .bl b,v=>v=.bl b
 | .int i,v=>v=.int i
 | .str x,v=>v=.str x
 | .ref a,v=>v=.ref a
 | .ty n,v=>v=.ty n
 | .tup ds,v=>∃a xs,v=.ref a/\uU K H a xs/\qe K H ds xs
 | .rl ds,v=>∃a xs,v=.ref a/\Qh K H a xs/\qe K H ds xs
def qe(K:qh)(H:Hp):T0 D->T0 V->Prop
 | [],xs=>xs=[]
 | d::ds,xs=>∃x r,xs=x::r/\rE K H d x/\qe K H ds r
end
structure qI(K:qh)(H H':Hp):Prop where
 t:∀a xs,uU K H a xs->uU K H' a xs
 f:∀a o xs,H a=some (.frz o (.lst xs))->H' a=some (.frz o (.lst xs))
def qI.refl{K:qh}:qI K H H:=⟨λ_ _ h=>h,λ_ _ _ h=>h⟩
def qI.trans{K:qh}(a:qI K H H1)(b:qI K H1 H2):qI K H H2:=⟨λc xs h=>b.t c xs (a.t c xs h),λc o xs h=>b.f c o xs (a.f c o xs h)⟩
def qI.upd{K:qh}(h:∀xs,¬Rd H p (.tup xs))(h':∀u xs,H p≠some (.frz u (.lst xs))):qI K H (upd H p o):=⟨λa xs q=>by
 rcases q with q|q
 .have ne:a≠p:=λz=>h xs (z ▸ q);rcases q with q|⟨u,q⟩
  .exact .inl (.inl (by rw[pQ ne];exact q))
  .exact .inl (.inr ⟨u,by rw[pQ ne];exact q⟩)
 .exact .inr q,λa u xs q=>by
 have ne:a≠p:=λz=>h' u xs (z ▸ q);rw[pQ ne];exact q⟩
def qI.new{K:qh}{H:Hp}{p:Addr}(h:H p=none):qI K H (L2.upd H p o):=.upd (λxs q=>by
 rcases q with q|⟨u,q⟩<;>(rw[h]at q;cases q)) λu xs q=>by rw[h]at q;cases q
def Qh.mono{K:qh}(e:qI K H H')(h:Qh K H a xs):Qh K H' a xs:=by
 rcases h with⟨o,h⟩|h
 .exact .inl ⟨o,e.f a o xs h⟩
 .exact .inr h
mutual
theorem rE.mono{K:qh}(e:qI K H H'):∀{d:D} {v:V},rE K H d v->rE K H' d v
 | .mG,_,h=>h
 | .bl _,_,h=>h
 | .int _,_,h=>h
 | .str _,_,h=>h
 | .ref _,_,h=>h
 | .ty _,_,h=>h
 | .tup ds,v,h=>by unfold rE at h ⊢;obtain⟨a,xs,e1,e2,e3⟩:=h;exact⟨a,xs,e1,e.t _ _ e2,qe.mono e e3⟩
 | .rl ds,v,h=>by unfold rE at h ⊢;obtain⟨a,xs,e1,e2,e3⟩:=h;exact⟨a,xs,e1,e2.mono e,qe.mono e e3⟩
theorem qe.mono{K:qh}(e:qI K H H'):∀{ds:T0 D} {xs:T0 V},qe K H ds xs->qe K H' ds xs
 | [],_,h=>h
 | d::ds,xs,h=>by unfold qe at h ⊢;obtain⟨x,r,e1,e2,e3⟩:=h;exact⟨x,r,e1,rE.mono e e2,qe.mono e e3⟩
end
variable {K:qh}{H H':Hp}
def qe.nil:qe K H [] []:=by unfold qe;rfl
def qe.cons(a:rE K H d x)(b:qe K H ds xs):qe K H (d::ds) (x::xs):=by unfold qe;exact⟨x,xs,rfl,a,b⟩
def qe.inv{d:D}{ds:T0 D}(h:qe K H (d::ds) xs):∃x r,xs=x::r/\rE K H d x/\qe K H ds r:=by unfold qe at h;exact h
def qe.nil_inv(h:qe K H [] xs):xs=[]:=by unfold qe at h;exact h
theorem qe.length:∀{ds:T0 D} {xs:T0 V},qe K H ds xs->ds.length=xs.length
 | [],_,h=>by rw[h.nil_inv];rfl
 | d::ds,_,h=>by obtain⟨x,r,rfl,_,e⟩:=h.inv;simp[qe.length e]
theorem qe.get:∀{ds:T0 D} {xs:T0 V} {i:Nat} {d:D},qe K H ds xs->ds[i]?=some d->∃x,xs[i]?=some x/\rE K H d x
 | [],_,_,_,_,e=>by simp at e
 | d::ds,_,0,_,h,e=>by obtain⟨x,r,rfl,a,_⟩:=h.inv;simp at e;subst e;exact⟨x,by simp,a⟩
 | d::ds,_,i+1,_,h,e=>by obtain⟨x,r,rfl,_,b⟩:=h.inv;obtain⟨y,e1,e2⟩:=qe.get b (by simpa using e);exact⟨y,by simpa using e1,e2⟩
theorem qe.append:∀{ds es:T0 D} {xs ys:T0 V},qe K H ds xs->qe K H es ys->qe K H (ds++es) (xs++ys)
 | [],_,_,_,h,g=>by rw[h.nil_inv];exact g
 | d::ds,_,_,_,h,g=>by obtain⟨x,r,rfl,a,b⟩:=h.inv;exact .cons a (qe.append b g)
theorem qe.take:∀{ds:T0 D} {xs:T0 V} (n:Nat),qe K H ds xs->qe K H (ds.take n) (xs.take n)
 | _,_,0,_=>by simp only[List.take_zero];exact .nil
 | [],_,n+1,h=>by rw[h.nil_inv];exact .nil
 | d::ds,_,n+1,h=>by obtain⟨x,r,rfl,a,b⟩:=h.inv;exact .cons a (qe.take n b)
theorem qe.drop:∀{ds:T0 D} {xs:T0 V} (n:Nat),qe K H ds xs->qe K H (ds.drop n) (xs.drop n)
 | _,_,0,h=>h
 | [],_,n+1,h=>by rw[h.nil_inv];exact .nil
 | d::ds,_,n+1,h=>by obtain⟨x,r,rfl,a,b⟩:=h.inv;exact qe.drop n b
def qe.snoc(h:qe K H ds xs)(a:rE K H d x):qe K H (ds++[d]) (xs++[x]):=h.append (.cons a .nil)
theorem qe.ints:∀{ns:T0 Int},qe K H (ns.map D.int) (ns.map V.int)
 | []=>.nil
 | n::r=>.cons (by unfold rE;rfl) qe.ints
def rE.tup(q:uU K H a xs)(h:qe K H ds xs):rE K H (.tup ds) (.ref a):=by unfold rE;exact⟨a,xs,rfl,q,h⟩
def rE.mL{ds:T0 D}(h:rE K H (.tup ds) v):∃a xs,v=.ref a/\uU K H a xs/\qe K H ds xs:=by unfold rE at h;exact h
def rE.mW{ds:T0 D}(h:rE K H (.rl ds) v):∃a xs,v=.ref a/\Qh K H a xs/\qe K H ds xs:=by unfold rE at h;exact h
def rE.int{i:Int}:rE K H (.int i) (.int i):=by unfold rE;rfl
def rE.bl{i:Bool}:rE K H (.bl i) (.bl i):=by unfold rE;rfl
def rE.str{i:Str}:rE K H (.str i) (.str i):=by unfold rE;rfl
def rE.ref{i:Addr}:rE K H (.ref i) (.ref i):=by unfold rE;rfl
def rE.mG:rE K H .mG .mG:=by unfold rE;rfl
def rE.int_inv{i:Int}(h:rE K H (.int i) v):v=.int i:=by unfold rE at h;exact h
def rE.mI{i:Bool}(h:rE K H (.bl i) v):v=.bl i:=by unfold rE at h;exact h
def rE.str_inv{i:Str}(h:rE K H (.str i) v):v=.str i:=by unfold rE at h;exact h
def rE.mE{i:Addr}(h:rE K H (.ref i) v):v=.ref i:=by unfold rE at h;exact h
def rE.nU{i:String}(h:rE K H (.ty i) v):v=.ty i:=by unfold rE at h;exact h
def rE.mH{v:V}(h:rE K H .mG v):v=.mG:=by unfold rE at h;exact h
inductive uK where
 | lst (ds:List D)
 | ins (C:Addr) (fs:List (Str×D))
 | dk (kvs:List (qS×D))
 | exc (C:Addr)
abbrev Mp:=Addr->Option uK
def pB(M:Mp)(a:Addr)(c:uK):Mp:=λb=>if b=a then some c else M b
def pL:pB M a c a=some c:=by unfold pB;rw[cZ rfl]
def tW{a b:Addr}(h:b≠a):pB M a c b=M b:=by unfold pB;rw[cX h]
def rB:pB (pB M a c) a d=pB M a d:=by funext b;unfold pB;split<;>rfl
def Tp{M:Mp}{a b:Addr}{c:uK}(h:M a=some c)(h':M b=none):a≠b:=by intro e;subst e;rw[h]at h';cases h'
def BJ(K:qh)(H:Hp)(fs:T0 (Str×D))(vs:T0 (Str×V)):Prop:=vs.map (·.1)=fs.map (·.1)/\qe K H (fs.map (·.2)) (vs.map (·.2))
def xb(K:qh)(H:Hp)(a:Addr):uK->Prop
 | .lst ds=>∃xs,H a=some (.lst xs)/\qe K H ds xs
 | .ins C fs=>∃dx vs,H a=some (.ins C dx vs)/\Cls K C/\(∀f,f∈fs.map (·.1)->tZ K C f)/\BJ K H fs vs
 | .dk kvs=>∃vs,H a=some (.dK vs)/\vs.map (·.1)=kvs.map (·.1)/\qe K H (kvs.map (·.2)) (vs.map (·.2))
 | .exc C=>H a=some (.ext (Ts a C))
def HM(K:qh)(H:Hp)(M:Mp):Prop:=∀a c,M a=some c->xb K H a c
variable {M:Mp}
def BJ.mono(e:qI K H H')(h:BJ K H fs vs):BJ K H' fs vs:=⟨h.1,h.2.mono e⟩
def xb.keep(e:qI K H H')(k:H' a=H a)(h:xb K H a c):xb K H' a c:=by
 cases c with
 | lst ds=>obtain⟨xs,e1,e2⟩:=h;exact⟨xs,by rw[k];exact e1,e2.mono e⟩
 | ins C fs=>obtain⟨dx,vs,e1,c,n,e2⟩:=h;exact⟨dx,vs,by rw[k];exact e1,c,n,e2.mono e⟩
 | dk kvs=>obtain⟨vs,e1,e2,e3⟩:=h;exact⟨vs,by rw[k];exact e1,e2,e3.mono e⟩
 | exc C=>exact k.trans h
def xb.there(h:xb K H a c):∃o,H a=some o/\(∀xs,¬Rd H a (.tup xs))/\∀u xs,H a≠some (.frz u (.lst xs)):=by
 have go:∀o,H a=some o->(∀xs,o≠.tup xs)->(∀u v,o≠.frz u v)->∃o,H a=some o/\(∀xs,¬Rd H a (.tup xs))/\∀u xs,H a≠some (.frz u (.lst xs)):=λo e n1 n2=>⟨o,e,λxs q=>by
  rcases q with q|⟨u,q⟩
  .rw[e]at q;exact n1 xs (df q)
  .rw[e]at q;exact n2 u _ (df q),λu xs q=>by rw[e]at q;exact n2 u _ (df q)⟩
 cases c with
 | lst ds=>obtain⟨xs,e1,e2⟩:=h;exact go _ e1 (λ_ z=>by cases z) λ_ _ z=>by cases z
 | ins C fs=>obtain⟨dx,vs,e1,e2⟩:=h;exact go _ e1 (λ_ z=>by cases z) λ_ _ z=>by cases z
 | dk kvs=>obtain⟨vs,e1,e2,e3⟩:=h;exact go _ e1 (λ_ z=>by cases z) λ_ _ z=>by cases z
 | exc C=>exact go _ h (λ_ z=>by cases z) λ_ _ z=>by cases z
def HM.fresh(h:HM K H M){p:Addr}(n:H p=none):M p=none:=by
 cases e:M p with
 | none=>rfl
 | some c=>obtain⟨o,q,_⟩:=(h p c e).there;rw[n]at q;cases q
def HM.keep(h:HM K H M)(e:qI K H H')(k:∀a c,M a=some c->H' a=H a):HM K H' M:=λa c q=>(h a c q).keep e (k a c q)
def HM.add(h:HM K H M){p:Addr}{o:HO}(n:H p=none):HM K (upd H p o) M:=h.keep (.new n) λa c q=>by obtain⟨u,e,_⟩:=(h a c q).there;rw[pQ (qM e n)]
def HM.new(h:HM K H M){p:Addr}{o:HO}{c:uK}(n:H p=none)(ok:xb K (upd H p o) p c):HM K (upd H p o) (pB M p c):=λa d q=>by
 by_cases e:a=p
 .subst e;rw[pL]at q;cases q;exact ok
 .rw[tW e]at q;exact h.add n a d q
def HM.put(h:HM K H M){p:Addr}{o:HO}{c c0:uK}(e0:M p=some c0)(ok:qI K H (upd H p o)->xb K (upd H p o) p c):HM K (upd H p o) (pB M p c)/\qI K H (upd H p o):=by
 obtain⟨u,eu,nt,nf⟩:=(h p c0 e0).there;have x:qI K H (upd H p o):=.upd nt nf;refine⟨λa d q=>?_,x⟩;by_cases e:a=p
 .subst e;rw[pL]at q;cases q;exact ok x
 .rw[tW e]at q;exact(h a d q).keep x (pQ e)
abbrev St:=L2.St
abbrev uY:=T0 (Option D)
abbrev DK:=D->Mp->Prop
abbrev T3:=uY->Mp->DK->Prop
abbrev Ay:=uY->Mp->(Bool->Mp->Prop)->Prop
abbrev w9:=uY->Mp->(T0 D->Mp->Prop)->Prop
structure GD where
 nx:uY->Mp->Prop
 rt:DK
 bk:uY->Mp->Prop:=λ_ _=>False
 ct:uY->Mp->Prop:=λ_ _=>False
abbrev xG:=GD->uY->Mp->Prop
def yP(K:qh)(H:Hp)(Y:St)(U:uY):Prop:=∀(i:Nat) (d:D),U[i]?=some (some d)->∃v,Y[i]?=some (some v)/\rE K H d v
def yP.mono{K:qh}(e:qI K H H')(h:yP K H Y U):yP K H' Y U:=λi d q=>by obtain⟨v,e1,e2⟩:=h i d q;exact⟨v,e1,e2.mono e⟩
def yP.set{K:qh}{i:Nat}(h:yP K H Y U)(hv:rE K H d v)(hi:i<Y.length):yP K H (Y.set i (some v)) (U.set i (some d)):=λj e q=>by
 by_cases hj:j=i
 .subst hj;rw[eJ hi];by_cases hl:j<U.length
  .rw[eJ hl]at q;cases q;exact⟨v,rfl,hv⟩
  .rw[gA (by simpa using hl)]at q;cases q
 .rw[eN (dI hj)]at q ⊢;exact h j e q
def lo(K:qh)(t:T3):TE:=λY H Q'=>C8 λU M Q=>yP K H Y U/\HM K H M/\t U M Q/\∀v H' d M',rE K H' d v->HM K H' M'->qI K H H'->Q d M'->Q' v H'
def Ti(K:qh)(t:Ay):TT:=λY H Q'=>C8 λU M Q=>yP K H Y U/\HM K H M/\t U M Q/\∀b H' M',HM K H' M'->qI K H H'->Q b M'->Q' b H'
def Wy(K:qh)(t:w9):TA:=λY H Q'=>C8 λU M Q=>yP K H Y U/\HM K H M/\t U M Q/\∀vs H' ds M',qe K H' ds vs->HM K H' M'->qI K H H'->Q ds M'->Q' vs H'
def Wa(K:qh)(t:xG):TS:=λD' Y H=>C8 λU M D=>yP K H Y U/\HM K H M/\t D U M/\(∀σ' H' δ' M',yP K H' σ' δ'->HM K H' M'->qI K H H'->σ'.length=Y.length->D.nx δ' M'->D'.nx σ' H')/\
 (∀v H' d M',rE K H' d v->HM K H' M'->qI K H H'->D.rt d M'->D'.rt v H')/\(∀σ' H' δ' M',yP K H' σ' δ'->HM K H' M'->qI K H H'->σ'.length=Y.length->D.bk δ' M'->D'.bk σ' H')/\
 (∀σ' H' δ' M',yP K H' σ' δ'->HM K H' M'->qI K H H'->σ'.length=Y.length->D.ct δ' M'->D'.ct σ' H')
def E3(X:Cx)(e:Expr)(t:T3):Prop:=PE X e (lo X.K t)
def B3(X:Cx)(e:Expr)(t:Ay):Prop:=PT X e (Ti X.K t)
def A3(X:Cx)(es:T0 Expr)(t:w9):Prop:=PA X es (Wy X.K t)
def S3(X:Cx)(st:Stmt)(t:xG):Prop:=PS X st (Wa X.K t)
def HC(X:Cx)(st:T0 Stmt)(t:xG):Prop:=Cn X st (Wa X.K t)
def PE.mono{t t':TE}(h:PE X e t)(m:∀Y H Q,t' Y H Q->t Y H Q):PE X e t':=λW5 s Y H Q I q=>h W5 s Y H Q I (m Y H Q q)
def PT.mono{t t':TT}(h:PT X e t)(m:∀Y H Q,t' Y H Q->t Y H Q):PT X e t':=λW5 s Y H Q I q=>h W5 s Y H Q I (m Y H Q q)
def PA.mono{t t':TA}(h:PA X e t)(m:∀Y H Q,t' Y H Q->t Y H Q):PA X e t':=λpos W5 s Y H Q I q=>h pos W5 s Y H Q I (m Y H Q q)
def PS.mono{t t':TS}(h:PS X e t)(m:∀D Y H,t' D Y H->t D Y H):PS X e t':=λW5 s Y H D I q=>h W5 s Y H D I (m D Y H q)
def Cn.mono{t t':TS}(h:Cn X e t)(m:∀D Y H,t' D Y H->t D Y H):Cn X e t':=λW5 s Y H D I q=>h W5 s Y H D I (m D Y H q)
def PS.nJ{t t':TS}(h:PS X e t)(m:∀D Y H,Y.length=X.N.length->t' D Y H->t D Y H):PS X e t':=λW5 s Y H D I q=>h W5 s Y H D I (m D Y H I.len q)
def vG{K:qh}{Q':VK}{Q:DK}(x:qI K H H1)(f:∀v H' d M',rE K H' d v->HM K H' M'->qI K H H'->Q d M'->Q' v H'):∀v H' d M',rE K H' d v->HM K H' M'->qI K H1 H'->Q d M'->Q' v H':=
 λv H' d M' a b c e=>f v H' d M' a b (x.trans c) e
variable {X:Cx}{pos:Pos}
def v3(i:Nat):T3:=λU M Q=>(U.getD i none).elim False λd=>Q d M
def JU{U:uY}{i:Nat}{P:D->Prop}(h:(U.getD i none).elim False P):∃d,U[i]?=some (some d)/\P d:=by
 cases e:U[i]? with
 | none=>rw[fZ,e]at h;exact h.elim
 | some o=>
  rw[fZ,e]at h;cases o with
  | none=>exact h.elim
  | some d=>exact⟨d,rfl,h⟩
def SD(i:Nat){x:Str}(h:PE X (.Name x pos) (EW i)):E3 X (.Name x pos) (v3 i):=PE.mono h λY H Q' zz=>x7 zz λU M Q hs hm ht k=>by obtain⟨d,e,q⟩:=JU ht;obtain⟨v,e1,e2⟩:=hs i d e;exact⟨v,e1,k v H d M e2 hm .refl q⟩
def c3(d:D):T3:=λ_ M Q=>Q d M
def pb{i j}:E3 X (.Constant (.int i) j pos) (c3 (.int i)):=PE.mono Sa λY H Q' zz=>x7 zz λU M Q hs hm ht k=>k _ H _ M .int hm .refl ht
def yo{i j}:E3 X (.Constant (.bool i) j pos) (c3 (.bl i)):=PE.mono Uz λY H Q' zz=>x7 zz λU M Q hs hm ht k=>k _ H _ M .bl hm .refl ht
def pj{i j}:E3 X (.Constant (.str i) j pos) (c3 (.str i)):=PE.mono RO λY H Q' zz=>x7 zz λU M Q hs hm ht k=>k _ H _ M .str hm .refl ht
def rD{j}:E3 X (.Constant .none j pos) (c3 .mG):=PE.mono Rb λY H Q' zz=>x7 zz λU M Q hs hm ht k=>k _ H _ M .mG hm .refl ht
def oR(M:Mp)(a:Addr):Option (T0 D):=match M a with
 | some (.lst ds)=>some ds
 | _=>none
def yt(x:Str)(n:Int):Str:=⟨(List.replicate n.toNat x.cps).foldl (·++·) #[]⟩
def Vd(op:Operator)(x y:D)(M:Mp)(Q:DK):Prop:=match op,x,y with
 | .Add,.int i,.int j=>Q (.int (i+j)) M
 | .Add,.str i,.str j=>i.length+j.length<=sizeLine/\Q (.str (i++j)) M
 | .Add,.tup i,.tup j=>i≠[]/\i.length+j.length<=sizeLine/\Q (.tup (i++j)) M
 | .Add,.ref a,.ref b=>(oR M a).elim False λi=>(oR M b).elim False λj=>i.length+j.length<=sizeLine/\∀p,M p=none->Q (.ref p) (pB M p (.lst (i++j)))
 | .Add,.rl i,.ref b=>(oR M b).elim False λj=>i.length+j.length<=sizeLine/\∀p,M p=none->Q (.ref p) (pB M p (.lst (i++j)))
 | .Sub,.int i,.int j=>Q (.int (i - j)) M
 | .Mult,.int i,.int j=>Dp i j/\Q (.int (i*j)) M
 | .Mult,.str i,.int j=>(j<4096/\-4096<j/\i.length<4096)/\Q (.str (yt i j)) M
 | .FloorDiv,.int i,.int j=>UJ i j/\Q (.int (i / j)) M
 | .Mod,.int i,.int j=>0<j/\Q (.int (i % j)) M
 | _,_,_=>False
def o3(op:Operator)(ta tb:T3):T3:=λU M Q=>ta U M λx M1=>tb U M1 λy M2=>Vd op x y M2 Q
def Up(K:qh)(H:Hp)(Q':VK)(Q:DK):Prop:=∀v H' d M',rE K H' d v->HM K H' M'->qI K H H'->Q d M'->Q' v H'
variable {ta tb:T3}
section
def qr{K:qh}{ds:T0 D}(hm:HM K H M)(h:oR M a=some ds):∃xs,yU K H a xs/\qe K H ds xs/\Rd H a (.lst xs):=by
 unfold oR at h;cases e:M a with
 | none=>rw[e]at h;cases h
 | some c=>
  rw[e]at h;have ok:=hm a c e;cases c with
  | lst es=>cases h;obtain⟨xs,e1,e2⟩:=ok;exact⟨xs,.inl (.inl e1),e2,.inl e1⟩
  | ins _ _=>cases h
  | dk _=>cases h
  | exc _=>cases h
def qW{α:Type}{o:Option α}{P:α->Prop}(h:o.elim False P):∃a,o=some a/\P a:=by
 cases o with
 | none=>exact h.elim
 | some a=>exact⟨a,rfl,h⟩
def JG:xk X (binaryOp .Add) (λx y H Q=>∃l b xs zs,x=.ref l/\y=.ref b/\yU X.K H l xs/\yU X.K H b zs/\xs.length+zs.length<=sizeLine/\∀p,H p=none->Q (.ref p) (upd H p (.lst (xs++zs)))):=by
 intro W5 s Y H x y v u Q I rx ry h;obtain⟨l,b,xs,zs,rfl,rfl,hH,hB,hz,q⟩:=h;cases rx;cases ry;obtain⟨its,r,⟨⟨c1,d1,t1,sl1⟩,n,g1,e1,_,f1⟩,_⟩:=I.list hH;obtain⟨Y4,r2,⟨⟨c2,d2,t2,sl2⟩,m,g2,e2,_,f2⟩,_⟩:=I.list hB;simp only at e1 f1 e2 f2;subst e1 f1 e2 f2;have hl:=r.length;have Z1:=r2.length;refine kM ⟨_,g1,rfl⟩ ⟨_,g2,rfl⟩ noFill_list_add seq_list_add PySem.F.slot_list_add PySem.F.entry_list_add (PySem.F.args_list_add_2 _ _) (list_addW l b its.toArray Y4.toArray n m d1 d2 sl1 sl2 (by rw[dh,dh];omega)) ⟨g1,g2,?_⟩;have ea:its.toArray++Y4.toArray=(its++Y4).toArray:=by simp
 rw[ea];exact⟨.ref _,_,I.oO (t':=s.toks) (r.append r2) (by rw[cW];omega),rfl,q _ I.fresh⟩
def IE(x:Array Nat):∀k,((List.replicate k x).foldl (·++·) #[]:Array Nat).size=k*x.size:=by
 have go:∀(k:Nat) (acc:Array Nat),((List.replicate k x).foldl (·++·) acc).size=acc.size+k*x.size:=by
  intro k;induction k with
  | zero=>intro acc;simp
  | succ k ih=>intro acc;rw[eF,fU,ih,Array.size_append,mj];omega
 intro k;rw[go];simp
def PU:xk X (binaryOp .Mult) (λx y H Q=>∃i j,x=.str i/\y=.int j/\(j<4096/\-4096<j/\i.length<4096)/\Q (.str (yt i j)) H):=by
 intro W5 s Y H x y v u Q I rx ry h;obtain⟨i,j,rfl,rfl,⟨h1,h2,h3⟩,q⟩:=h;obtain⟨t,rfl⟩:=rx;obtain⟨t',rfl⟩:=ry;refine PySem.P.mul_str ?_ ?_ ?_ ?_
 .rw[eM (by omega),eM (by omega)];rfl
 .intro h0 _;have:(4096:Int)<=(2 ^ 63 - 1) / j:=by
   have:(4096:Int)*j<=2 ^ 63 - 1:=by omega
   exact(Int.le_ediv_iff_mul_le (by omega)).mpr this
  omega
 .intro h0 _;have hm:i.length*j.toNat<=4096*4096:=j6 (by omega) (by omega);have hz:=dH;unfold Builtin.Str.tooLong;exact eM (by omega)
 .by_cases h0:j<1
  .rw[cZ h0];have e:yt i j=Str.empty:=by unfold yt;rw[show j.toNat=0 by omega];rfl
   rw[e]at q;exact⟨by decide,⟨.str Str.empty,H,I.tok _,⟨_,rfl⟩,q⟩⟩
  .rw[cX h0];by_cases hj:(j==1||i.length==0)=true
   .rw[cZ hj];have e:yt i j=i:=by
     have hj':j=1\/i.length=0:=by simpa using hj
     unfold yt;rcases hj' with z|z
     .subst z;show(⟨#[]++i.cps⟩:Str)=i;simp
     .have ec:i.cps=#[]:=Array.size_eq_zero_iff.mp z;have er:∀k:Nat,((List.replicate k (#[]:Array Nat)).foldl (·++·) #[]:Array Nat)=#[]:=by
       intro k;induction k with
       | zero=>rfl
       | succ k ih=>rw[eF,fU];simpa using ih
      rw[ec,er,<-ec]
    rw[e]at q;exact⟨.str i,H,I,⟨t,rfl⟩,q⟩
   .rw[cX hj];refine⟨?_,⟨.str _,H,I.tok _,⟨_,rfl⟩,q⟩⟩;have hz:=dH;have hm:j.toNat*i.length<=4096*4096:=j6 (by omega) (by omega);show((List.replicate j.toNat i.cps).foldl (·++·) #[]:Array Nat).size<=_;rw[IE];have YD:j.toNat*i.cps.size<=4096*4096:=hm;omega
def R3(K:qh)(f:D->D->Mp->DK->Prop):R2:=λvx vy H Q'=>Bg λx y M Q=>rE K H x vx/\rE K H y vy/\HM K H M/\f x y M Q/\Up K H Q' Q
def WM(op:Operator):xk X (binaryOp op) (R3 X.K (Vd op)):=by
 intro W5 s Y H vx vy v u Q' I rx ry h;obtain⟨x,y,M,Q,hx,hy,hm,q,k⟩:=h;unfold Vd at q;split at q
 .cases hx.int_inv;cases hy.int_inv;exact SQ W5 s Y H _ _ v u Q' I rx ry ⟨_,_,rfl,rfl,k _ _ _ _ .int hm .refl q⟩
 .cases hx.str_inv;cases hy.str_inv;exact HA W5 s Y H _ _ v u Q' I rx ry ⟨_,_,rfl,rfl,q.1,k _ _ _ _ .str hm .refl q.2⟩
 .rename_i i j;obtain⟨q1,q2,q3⟩:=q;obtain⟨a,xs,rfl,ha,YI⟩:=hx.mL;obtain⟨b,ys,rfl,hb,X0⟩:=hy.mL;have l1:=YI.length;have l2:=X0.length;refine OK W5 s Y H _ _ v u Q' I rx ry ⟨a,b,xs,ys,rfl,rfl,ha,hb,λz=>q1 (by rw[z]at l1;exact gm.mp l1),by omega,λz=>?_,λz p hp=>?_⟩
  .refine k _ _ _ _ (.tup ha ?_) hm .refl q3;rw[z]at X0;have e0:j=[]:=gm.mp (by simpa using X0.length);rw[e0,eY];exact YI
  .have e:qI X.K H (upd H p (.tup (xs++ys))):=.new hp;exact k _ _ _ _ (.tup (.of qa) ((YI.append X0).mono e)) (hm.add hp) e q3
 .obtain⟨i,ei,q⟩:=qW q;obtain⟨j,ej,q1,q2⟩:=qW q;cases hx.mE;cases hy.mE;obtain⟨xs,rx',Z5,_⟩:=qr hm ei;obtain⟨ys,ry',hys,_⟩:=qr hm ej;have l1:=Z5.length;have l2:=hys.length;refine JG W5 s Y H _ _ v u Q' I rx ry ⟨_,_,xs,ys,rfl,rfl,rx',ry',by omega,λp hp=>?_⟩;have e:qI X.K H (upd H p (.lst (xs++ys))):=.new hp;exact k _ _ _ _ .ref (hm.new (c:=.lst (i++j)) hp ⟨_,qa,(Z5.append hys).mono e⟩) e (q2 p (hm.fresh hp))
 .obtain⟨j,ej,q1,q2⟩:=qW q;obtain⟨l,xs,rfl,rx',Z5⟩:=hx.mW;cases hy.mE;obtain⟨ys,ry',hys,_⟩:=qr hm ej;have l1:=Z5.length;have l2:=hys.length;refine JG W5 s Y H _ _ v u Q' I rx ry ⟨_,_,xs,ys,rfl,rfl,rx'.sq,ry',by omega,λp hp=>?_⟩;have e:qI X.K H (upd H p (.lst (xs++ys))):=.new hp;exact k _ _ _ _ .ref (hm.new (c:=.lst (_++j)) hp ⟨_,qa,(Z5.append hys).mono e⟩) e (q2 p (hm.fresh hp))
 .cases hx.int_inv;cases hy.int_inv;exact RI W5 s Y H _ _ v u Q' I rx ry ⟨_,_,rfl,rfl,k _ _ _ _ .int hm .refl q⟩
 .cases hx.int_inv;cases hy.int_inv;exact Tb W5 s Y H _ _ v u Q' I rx ry ⟨_,_,rfl,rfl,q.1,k _ _ _ _ .int hm .refl q.2⟩
 .cases hx.str_inv;cases hy.int_inv;exact PU W5 s Y H _ _ v u Q' I rx ry ⟨_,_,rfl,rfl,q.1,k _ _ _ _ .str hm .refl q.2⟩
 .cases hx.int_inv;cases hy.int_inv;exact Pi W5 s Y H _ _ v u Q' I rx ry ⟨_,_,rfl,rfl,q.1,k _ _ _ _ .int hm .refl q.2⟩
 .cases hx.int_inv;cases hy.int_inv;exact Rf W5 s Y H _ _ v u Q' I rx ry ⟨_,_,rfl,rfl,q.1,k _ _ _ _ .int hm .refl q.2⟩
 .exact q.elim
variable {a b:Expr}
def Ih{f:D->D->Mp->DK->Prop}:∀Y H Q',lo X.K (λU M Q=>ta U M λx M1=>tb U M1 λy M2=>f x y M2 Q) Y H Q'->Uh (R3 X.K f) (lo X.K ta) (lo X.K tb) Y H Q':=λY H Q' zz=>x7 zz λU M Q hs hm ht k=>⟨U,M,_,hs,hm,ht,λv H1 x M1 hx W7 e1 q1=>⟨U,M1,_,hs.mono e1,W7,q1,λu H2 y M2 hy Xm e2 q2=>⟨x,y,M2,Q,hx.mono e2,hy,Xm,q2,vG (e1.trans e2) k⟩⟩⟩
def pS(ha:E3 X a ta)(hb:E3 X b tb):E3 X (.BinOp a op b pos) (o3 op ta tb):=PE.mono (Q1 (WM op) ha hb) Ih
end
def sF(f:D->D->Option Bool):T0 D->T0 D->Option Bool
 | x::a,y::b=>(f x y).bind λp=>(sF f a b).map λq=>p&&q
 | _,_=>some true
def ym(M:Mp):Nat->D->D->Option Bool
 | 0,_,_=>none
 | n+1,x,y=>match x,y with
  | .mG,.mG=>some true
  | .bl a,.bl b=>some (a==b)
  | .int a,.int b=>some (a==b)
  | .str a,.str b=>some (a==b)
  | .mG,.bl _=>some false
  | .mG,.int _=>some false
  | .mG,.str _=>some false
  | .bl _,.mG=>some false
  | .bl _,.str _=>some false
  | .int _,.mG=>some false
  | .int _,.str _=>some false
  | .str _,.mG=>some false
  | .str _,.bl _=>some false
  | .str _,.int _=>some false
  | .tup a,.tup b=>(sF (ym M n) a b).map λp=>p&&a.length==b.length
  | .ref a,.ref b=>(oR M a).bind λi=>(oR M b).bind λj=>if i.length=j.length then sF (ym M n) i j else some false
  | _,_=>none
variable {W5:T0 (Addr × Obj)}{Y:St}{s:Sd}
theorem yG{f:D->D->Option Bool}:∀{ds es:T0 D} {xs:T0 V} {b:Bool},qe X.K H ds xs->qe X.K H es xs->(∀x y v b,rE X.K H x v->rE X.K H y v->f x y=some b->b=true)->sF f ds es=some b->b=true
 | [],[],_,_,_,_,_,e=>(df e).symm
 | [],_::_,_,_,h,g,_,_=>by have h1:=h.length;have h2:=g.length;rw[<-h1]at h2;simp at h2
 | _::_,[],_,_,h,g,_,_=>by have h1:=h.length;have h2:=g.length;rw[<-h1]at h2;simp at h2
 | d::ds,e::es,xs,b,h,g,k,q=>by
  obtain⟨x,r,rfl,h1,h2⟩:=h.inv;obtain⟨x',r',e',g1,g2⟩:=g.inv;cases e';unfold sF at q;cases p1:f d e with
  | none=>rw[p1]at q;cases q
  | some b1=>
   rw[p1]at q;cases p2:sF f ds es with
   | none=>rw[p2]at q;cases q
   | some b2=>rw[p2]at q;have q':(b1&&b2)=b:=df q;rw[<-q',k _ _ _ _ h1 g1 p1,yG h2 g2 k p2];rfl
theorem yV(I:Inv X W5 Y H s)(hm:HM X.K H M):∀(n:Nat) (x y:D) (v:V) (b:Bool),rE X.K H x v->rE X.K H y v->ym M n x y=some b->b=true
 | 0,_,_,_,_,_,_,e=>by cases e
 | n+1,x,y,v,b,hx,hy,e=>by
  unfold ym at e;split at e
  .exact(df e).symm
  .rw[hx.mI]at hy;cases hy.mI;exact(df e).symm.trans (by simp)
  .rw[hx.int_inv]at hy;cases hy.int_inv;exact(df e).symm.trans (by simp)
  .rw[hx.str_inv]at hy;cases hy.str_inv;exact(df e).symm.trans (by simp)
  .rw[hx.mH]at hy;cases hy.mI
  .rw[hx.mH]at hy;cases hy.int_inv
  .rw[hx.mH]at hy;cases hy.str_inv
  .rw[hx.mI]at hy;cases hy.mH
  .rw[hx.mI]at hy;cases hy.str_inv
  .rw[hx.int_inv]at hy;cases hy.mH
  .rw[hx.int_inv]at hy;cases hy.str_inv
  .rw[hx.str_inv]at hy;cases hy.mH
  .rw[hx.str_inv]at hy;cases hy.mI
  .rw[hx.str_inv]at hy;cases hy.int_inv
  .obtain⟨a,xs,rfl,h1,h2⟩:=hx.mL;obtain⟨a',ys,e',g1,g2⟩:=hy.mL;cases e';rw[I.mZ g1 h1]at g2;cases p:sF (ym M n) _ _ with
   | none=>rw[p]at e;cases e
   | some b1=>rw[p]at e;have e':=df e;rw[<-e',yG h2 g2 (yV I hm n) p,h2.length,g2.length];simp
  .rw[hx.mE]at hy;cases hy.mE;cases p:oR M _ with
   | none=>rw[p]at e;cases e
   | some i=>rw[p]at e;have e:(if i.length=i.length then sF (ym M n) i i else some false)=some b:=e;rw[cZ rfl]at e;obtain⟨xs,_,h2,_⟩:=qr hm p;exact yG h2 h2 (yV I hm n) e
  .cases e
theorem B8{A:Ar}:∀{ds es:T0 D} {xs ys:T0 V} {us ws:T0 Vl} {b:Bool},sF f ds es=some b->qe X.K H ds xs->qe X.K H es ys->qx xs us->qx ys ws->
  (∀x y b vx vy u w,f x y=some b->rE X.K H x vx->rE X.K H y vy->qC vx u->qC vy w->SeqAt.EqAt A s u w b)->
  ∃e:Nat->Bool,(∀j (h1:j<us.length) (h2:j<ws.length),SeqAt.EqAt A s us[j] ws[j] (e j))/\(List.range (min us.length ws.length)).all e=b
 | [],es,xs,ys,us,ws,b,q,hx,hy,rx,ry,k=>by
  have e1:=hx.nil_inv;subst e1;cases rx;refine⟨λ_=>true,λj h1=>absurd h1 (by simp),?_⟩;have q':some true=some b:=by cases es<;>exact q
  simpa using(df q')
 | d::ds,[],xs,ys,us,ws,b,q,hx,hy,rx,ry,k=>by
  have e1:=hy.nil_inv;subst e1;cases ry;refine⟨λ_=>true,λj _ h2=>absurd h2 (by simp),?_⟩;have q':some true=some b:=q
  simpa using(df q')
 | d::ds,e::es,xs,ys,us,ws,b,q,hx,hy,rx,ry,k=>by
  obtain⟨x,r,rfl,h1,h2⟩:=hx.inv;obtain⟨y,r',rfl,g1,g2⟩:=hy.inv;cases rx with
  | cons r1 r2=>
   cases ry with
   | cons t1 t2=>
    unfold sF at q;cases p1:f d e with
    | none=>rw[p1]at q;cases q
    | some b1=>
     rw[p1]at q;cases p2:sF f ds es with
     | none=>rw[p2]at q;cases q
     | some b2=>
      rw[p2]at q;have q':(b1&&b2)=b:=df q;obtain⟨e',he,ha⟩:=B8 p2 h2 g2 r2 t2 k;refine⟨λj=>match j with|0=>b1|j+1=>e' j,λj l1 l2=>?_,?_⟩
      .cases j with
       | zero=>exact k _ _ _ _ _ _ _ p1 h1 g1 r1 t1
       | succ j=>exact he j (by simpa using l1) (by simpa using l2)
      .rw[<-q',<-ha];simp only[eh];rw[Nat.succ_min_succ,List.range_succ_eq_map,eU,jF];rfl
theorem EH(I:Inv X W5 Y H s)(hm:HM X.K H M):∀(n:Nat) (A:Ar) (x y:D) (b:Bool) (vx vy:V) (u w:Vl),A.units+n<cLine->ym M n x y=some b->rE X.K H x vx->rE X.K H y vy->qC vx u->qC vy w->
  SeqAt.RcAt A s u w b/\SeqAt.EqAt A s u w b/\SeqAt.RcNeAt A s u w (!b)
 | 0,_,_,_,_,_,_,_,_,_,e,_,_,_,_=>by cases e
 | n+1,A,x,y,b,vx,vy,u,w,hu,e,hx,hy,rx,ry=>by
  have hu1:A.units<cLine:=by omega
  have hui:A.in1.units+n<cLine:=by show A.units+1+n<cLine;omega
  unfold ym at e;split at e
  .cases hx.mH;cases hy.mH;cases rx;cases ry;cases e;exact⟨.none_none,.same _,.none_none⟩
  .cases hx.mI;cases hy.mI;cases rx;cases ry;cases e;exact⟨.bool_bool _ _,.bool_bool _ _,.bool_bool _ _⟩
  .cases hx.int_inv;cases hy.int_inv;obtain⟨t,rfl⟩:=rx;obtain⟨t',rfl⟩:=ry;cases e;exact⟨.int_int _ _ _ _,.int_int _ _ _ _,.int_int _ _ _ _⟩
  .cases hx.str_inv;cases hy.str_inv;obtain⟨t,rfl⟩:=rx;obtain⟨t',rfl⟩:=ry;cases e;exact⟨.str_str _ _ _ _,.str_str _ _ _ _,.str_str _ _ _ _⟩
  .cases hx.mH;cases hy.mI;cases rx;cases ry;cases e;exact⟨.none_bool _,.none_bool _,.none_bool _⟩
  .cases hx.mH;cases hy.int_inv;cases rx;obtain⟨t',rfl⟩:=ry;cases e;exact⟨.none_int _ _,.none_int _ _,.none_int _ _⟩
  .cases hx.mH;cases hy.str_inv;cases rx;obtain⟨t',rfl⟩:=ry;cases e;exact⟨.none_str _ _,.none_str _ _,.none_str _ _⟩
  .cases hx.mI;cases hy.mH;cases rx;cases ry;cases e;exact⟨.bool_none _,.bool_none _,.bool_none _⟩
  .cases hx.mI;cases hy.str_inv;cases rx;obtain⟨t',rfl⟩:=ry;cases e;exact⟨.bool_str _ _ _,.bool_str _ _ _,.bool_str _ _ _⟩
  .cases hx.int_inv;cases hy.mH;obtain⟨t,rfl⟩:=rx;cases ry;cases e;exact⟨.int_none _ _,.int_none _ _,.int_none _ _⟩
  .cases hx.int_inv;cases hy.str_inv;obtain⟨t,rfl⟩:=rx;obtain⟨t',rfl⟩:=ry;cases e;exact⟨.int_str _ _ _ _,.int_str _ _ _ _,.int_str _ _ _ _⟩
  .cases hx.str_inv;cases hy.mH;obtain⟨t,rfl⟩:=rx;cases ry;cases e;exact⟨.str_none _ _,.str_none _ _,.str_none _ _⟩
  .cases hx.str_inv;cases hy.mI;obtain⟨t,rfl⟩:=rx;cases ry;cases e;exact⟨.str_bool _ _ _,.str_bool _ _ _,.str_bool _ _ _⟩
  .cases hx.str_inv;cases hy.int_inv;obtain⟨t,rfl⟩:=rx;obtain⟨t',rfl⟩:=ry;cases e;exact⟨.str_int _ _ _ _,.str_int _ _ _ _,.str_int _ _ _ _⟩
  .rename_i da db;obtain⟨a1,xs,rfl,h1,h2⟩:=hx.mL;obtain⟨a2,ys,rfl,g1,g2⟩:=hy.mL;cases rx;cases ry;obtain⟨us,r1,p1,_⟩:=I.tuple h1;obtain⟨ws,r2,p2,_⟩:=I.tuple g1;cases p:sF (ym M n) da db with
   | none=>rw[p]at e;cases e
   | some b1=>
    have e0:=e;rw[p]at e;have e':(b1&&da.length==db.length)=b:=df e;obtain⟨f,hf,ha⟩:=B8 (A:=A.in1) (s:=s) p h2 g2 r1 r2 λx y b vx vy u w q1 q2 q3 q4 q5=>(EH I hm n A.in1 x y b vx vy u w hui q1 q2 q3 q4 q5).2.1;have hb:((List.range (min us.toArray.size ws.toArray.size)).all f&&us.toArray.size==ws.toArray.size)=b:=by rw[dh,dh,ha,<-e',<-r1.length,<-r2.length,h2.length,g2.length]
    have hf':∀j (l1:j<us.toArray.size) (l2:j<ws.toArray.size),SeqAt.EqAt A.in1 s us.toArray[j] ws.toArray[j] (f j):=λj l1 l2=>by simpa using hf j (by simpa using l1) (by simpa using l2)
    have c1:SeqAt.RcAt A s (.ref a1) (.ref a2) b:=by rw[<-hb];exact .tuples p1 p2 hu1 hf'
    have c3:SeqAt.RcNeAt A s (.ref a1) (.ref a2) (!b):=by have:=SeqAt.RcNeAt.tuples p1 p2 hu1 hf';rw[hb]at this;exact this
    refine⟨c1,?_,c3⟩;by_cases ea:a1=a2
    .subst ea;have:b=true:=yV I hm (n+1) (.tup da) (.tup db) (.ref a1) b hx hy (by unfold ym;exact e0);rw[this];exact .same _
    .exact .of_refs ea c1
  .cases hx.mE;cases hy.mE;cases rx;cases ry;rename_i a1 a2;have e0:=e;cases p:oR M a1 with
   | none=>rw[p]at e;cases e
   | some i=>
    cases p':oR M a2 with
    | none=>rw[p,p']at e;cases e
    | some j=>
     rw[p,p']at e;have e:(if i.length=j.length then sF (ym M n) i j else some false)=some b:=e;obtain⟨xs,q1,h2,_⟩:=qr hm p;obtain⟨ys,q2,g2,_⟩:=qr hm p';obtain⟨us,r1,p1,_⟩:=I.list q1;obtain⟨ws,r2,p2,_⟩:=I.list q2;have Xa:SeqAt.RcAt A s (.ref a1) (.ref a2) b/\SeqAt.RcNeAt A s (.ref a1) (.ref a2) (!b):=by
      by_cases hl:i.length=j.length
      .rw[cZ hl]at e;obtain⟨f,hf,ha⟩:=B8 (A:=A.in1) (s:=s) e h2 g2 r1 r2 λx y b vx vy u w q1 q2 q3 q4 q5=>(EH I hm n A.in1 x y b vx vy u w hui q1 q2 q3 q4 q5).2.1;have hsz:us.toArray.size=ws.toArray.size:=by rw[dh,dh,<-r1.length,<-r2.length,<-h2.length,<-g2.length];exact hl
       have hf':∀j (l1:j<us.toArray.size) (l2:j<ws.toArray.size),SeqAt.EqAt A.in1 s us.toArray[j] ws.toArray[j] (f j):=λj l1 l2=>by simpa using hf j (by simpa using l1) (by simpa using l2)
       have hb:(List.range us.toArray.size).all f=b:=by rw[<-ha];rw[dh,dh]at hsz;rw[dh,<-hsz,Nat.min_self]
       rw[<-hb];exact⟨.lists p1.isList p2.isList hsz hu1 hf',.lists p1.isList p2.isList hsz hu1 hf'⟩
      .rw[cX hl]at e;cases e;have hsz:(us.toArray.size != ws.toArray.size)=true:=by
        rw[dh,dh,<-r1.length,<-r2.length,<-h2.length,<-g2.length]
        simpa using hl
       exact⟨.lists_lengths p1.isList p2.isList hsz hu1,.lists_lengths p1.isList p2.isList hsz hu1⟩
     refine⟨Xa.1,?_,Xa.2⟩;by_cases ea:a1=a2
     .subst ea;have:b=true:=yV I hm (n+1) (.ref a1) (.ref a1) (.ref a1) b .ref .ref (by unfold ym;exact e0);rw[this];exact .same _
     .exact .of_refs ea Xa.1
  .cases e
def uQ:D->Bool
 | .mG=>true
 | .bl _=>true
 | .int _=>true
 | .str _=>true
 | _=>false
def Pe:D->D->Bool
 | .mG,.mG=>true
 | .bl a,.bl b=>a==b
 | .bl a,.int b=>(if a then 1 else 0)==b
 | .int a,.bl b=>a==(if b then 1 else 0)
 | .int a,.int b=>a==b
 | .str a,.str b=>a==b
 | _,_=>false
def inD(x:D)(ds:T0 D):Bool:=ds.any λy=>Pe y x
def Lo(M:Mp):D->Option (T0 D)
 | .tup ds=>some ds
 | .ref a=>oR M a
 | .rl ds=>some ds
 | _=>none
def CU(i j:Str):Bool:=!(Builtin.Str.occurrences j i 0 j.length 1).isEmpty
def Te(YH:Bool)(x y:D)(M:Mp)(Q:DK):Prop:=match x,y with
 | .str i,.str j=>Q (.bl (if YH then !CU i j else CU i j)) M
 | _,_=>(Lo M y).elim False λds=>uQ x=true/\ds.all uQ=true/\Q (.bl (if YH then !inD x ds else inD x ds)) M
def Pp(op:CmpOp)(x y:D)(M:Mp)(Q:DK):Prop:=match op with
 | .Eq=>(ym M 9 x y).elim False λb=>Q (.bl b) M
 | .NotEq=>(ym M 9 x y).elim False λb=>Q (.bl (!b)) M
 | .Lt=>match x,y with|.int i,.int j=>Q (.bl (decide (i<j))) M|_,_=>False
 | .LtE=>match x,y with|.int i,.int j=>Q (.bl (decide (i<=j))) M|_,_=>False
 | .Gt=>match x,y with|.int i,.int j=>Q (.bl (decide (j<i))) M|_,_=>False
 | .GtE=>match x,y with|.int i,.int j=>Q (.bl (decide (j<=i))) M|_,_=>False
 | .Is=>match y with|.mG=>Q (.bl (match x with|.mG=>true|_=>false)) M|_=>False
 | .IsNot=>match y with|.mG=>Q (.bl (match x with|.mG=>false|_=>true)) M|_=>False
 | .In=>Te false x y M Q
 | .NotIn=>Te true x y M Q
def k3(op:CmpOp)(ta tb:T3):T3:=λU M Q=>ta U M λx M1=>tb U M1 λy M2=>Pp op x y M2 Q
def zq(h:rE K H d v)(f:uQ d=true):yf v=true:=by
 cases d with
 | mG=>rw[h.mH];rfl
 | bl _=>rw[h.mI];rfl
 | int _=>rw[h.int_inv];rfl
 | str _=>rw[h.str_inv];rfl
 | _=>cases f
def IH(h:rE K H d v)(g:rE K H e w)(f:uQ d=true)(f':uQ e=true):NX v w=Pe d e:=by
 cases d with
 | mG=>
  rw[h.mH];cases e with
  | mG=>rw[g.mH];rfl
  | bl _=>rw[g.mI];rfl
  | int _=>rw[g.int_inv];rfl
  | str _=>rw[g.str_inv];rfl
  | _=>cases f'
 | bl _=>
  rw[h.mI];cases e with
  | mG=>rw[g.mH];rfl
  | bl _=>rw[g.mI];rfl
  | int _=>rw[g.int_inv];rfl
  | str _=>rw[g.str_inv];rfl
  | _=>cases f'
 | int _=>
  rw[h.int_inv];cases e with
  | mG=>rw[g.mH];rfl
  | bl _=>rw[g.mI];rfl
  | int _=>rw[g.int_inv];rfl
  | str _=>rw[g.str_inv];rfl
  | _=>cases f'
 | str _=>
  rw[h.str_inv];cases e with
  | mG=>rw[g.mH];rfl
  | bl _=>rw[g.mI];rfl
  | int _=>rw[g.int_inv];rfl
  | str _=>rw[g.str_inv];rfl
  | _=>cases f'
 | _=>cases f
theorem FG:∀{ds:T0 D} {xs:T0 V},qe K H ds xs->ds.all uQ=true->xs.all yf=true
 | [],_,h,_=>by rw[h.nil_inv];rfl
 | d::ds,_,h,f=>by obtain⟨x,r,rfl,h1,h2⟩:=h.inv;rw[eU,dQ]at f ⊢;exact⟨zq h1 f.1,FG h2 f.2⟩
theorem Nw(g:rE K H e w)(f':uQ e=true):∀{ds:T0 D} {xs:T0 V},qe K H ds xs->ds.all uQ=true->inV w xs=inD e ds
 | [],_,h,_=>by rw[h.nil_inv];rfl
 | d::ds,_,h,f=>by obtain⟨x,r,rfl,h1,h2⟩:=h.inv;rw[eU,dQ]at f;show(NX x w||inV w r)=(Pe d e||inD e ds);rw[IH h1 g f.1 f',Nw g f' h2 f.2]
def FC(hm:HM K H M){y:D}{v:V}{ds:T0 D}(h:rE K H y v)(q:Lo M y=some ds):∃p xs,v=.ref p/\(yU K H p xs\/uU K H p xs)/\qe K H ds xs:=by
 cases y with
 | tup es=>cases q;obtain⟨a,xs,rfl,h1,h2⟩:=h.mL;exact⟨a,xs,rfl,.inr h1,h2⟩
 | ref a=>cases h.mE;obtain⟨xs,h1,h2,_⟩:=qr hm q;exact⟨a,xs,rfl,.inl h1,h2⟩
 | rl es=>cases q;obtain⟨a,xs,rfl,h1,h2⟩:=h.mW;exact⟨a,xs,rfl,.inl h1.sq,h2⟩
 | _=>cases q
variable {c:Expr}{tc:T3}
section
def JN(op:CmpOp)(hu:X.A.units+9<cLine):xk X (compareOp op) (R3 X.K (Pp op)):=by
 intro W5 s Y H vx vy v u Q' I rx ry h;obtain⟨x,y,M,Q,hx,hy,hm,q,k⟩:=h;have bk:∀b,Q (.bl b) M->EP X W5 Y Q' (.bool b) s:=λb q=>⟨.bl b,H,I,rfl,k _ _ _ _ .bl hm .refl q⟩;have inn:∀YH:Bool,((Lo M y).elim False λds=>uQ x=true/\ds.all uQ=true/\Q (.bl (if YH then !inD x ds else inD x ds)) M)->Vo X.K YH vx vy H Q':=λYH q=>by obtain⟨ds,e,f1,f2,q⟩:=qW q;obtain⟨p,xs,rfl,h1,h2⟩:=FC hm hy e;refine⟨p,xs,rfl,h1,zq hx f1,FG h2 f2,?_⟩;rw[Nw hx f1 h2 f2];exact k _ _ _ _ .bl hm .refl q
 cases op with
 | Eq=>obtain⟨b,e,q⟩:=qW q;exact(EH I hm 9 X.A x y b vx vy v u hu e hx hy rx ry).1 _ _ _ _ (bk b q)
 | NotEq=>obtain⟨b,e,q⟩:=qW q;exact(EH I hm 9 X.A x y b vx vy v u hu e hx hy rx ry).2.2 _ _ _ _ (bk _ q)
 | Lt=>
  cases x<;>first|exact q.elim|skip
  cases y<;>first|exact q.elim|skip
  cases hx.int_inv;cases hy.int_inv;exact UM W5 s Y H _ _ v u Q' I rx ry ⟨_,_,rfl,rfl,k _ _ _ _ .bl hm .refl q⟩
 | LtE=>
  cases x<;>first|exact q.elim|skip
  cases y<;>first|exact q.elim|skip
  cases hx.int_inv;cases hy.int_inv;exact UR W5 s Y H _ _ v u Q' I rx ry ⟨_,_,rfl,rfl,k _ _ _ _ .bl hm .refl q⟩
 | Gt=>
  cases x<;>first|exact q.elim|skip
  cases y<;>first|exact q.elim|skip
  cases hx.int_inv;cases hy.int_inv;exact Tr W5 s Y H _ _ v u Q' I rx ry ⟨_,_,rfl,rfl,k _ _ _ _ .bl hm .refl q⟩
 | GtE=>
  cases x<;>first|exact q.elim|skip
  cases y<;>first|exact q.elim|skip
  cases hx.int_inv;cases hy.int_inv;exact UO W5 s Y H _ _ v u Q' I rx ry ⟨_,_,rfl,rfl,k _ _ _ _ .bl hm .refl q⟩
 | Is=>
  cases y<;>first|exact q.elim|skip
  cases hy.mH;refine S5 W5 s Y H _ _ v u Q' I rx ry ⟨rfl,k _ _ _ _ ?_ hm .refl q⟩;cases x with
  | mG=>rw[hx.mH];exact .bl
  | bl _=>rw[hx.mI];exact .bl
  | int _=>rw[hx.int_inv];exact .bl
  | str _=>rw[hx.str_inv];exact .bl
  | tup _=>obtain⟨a,xs,rfl,_⟩:=hx.mL;exact .bl
  | ref _=>rw[hx.mE];exact .bl
  | ty _=>rw[hx.nU];exact .bl
  | rl _=>obtain⟨a,xs,rfl,_⟩:=hx.mW;exact .bl
 | IsNot=>
  cases y<;>first|exact q.elim|skip
  cases hy.mH;refine PN W5 s Y H _ _ v u Q' I rx ry ⟨rfl,k _ _ _ _ ?_ hm .refl q⟩;cases x with
  | mG=>rw[hx.mH];exact .bl
  | bl _=>rw[hx.mI];exact .bl
  | int _=>rw[hx.int_inv];exact .bl
  | str _=>rw[hx.str_inv];exact .bl
  | tup _=>obtain⟨a,xs,rfl,_⟩:=hx.mL;exact .bl
  | ref _=>rw[hx.mE];exact .bl
  | ty _=>rw[hx.nU];exact .bl
  | rl _=>obtain⟨a,xs,rfl,_⟩:=hx.mW;exact .bl
 | In=>
  have q:Te false x y M Q:=q;unfold Te at q;split at q
  .cases hx.str_inv;cases hy.str_inv;exact Ko W5 s Y H _ _ v u Q' I rx ry ⟨_,_,rfl,rfl,k _ _ _ _ .bl hm .refl q⟩
  .exact Ky W5 s Y H _ _ v u Q' I rx ry (inn false q)
 | NotIn=>
  have q:Te true x y M Q:=q;unfold Te at q;split at q
  .cases hx.str_inv;cases hy.str_inv;exact Ec W5 s Y H _ _ v u Q' I rx ry ⟨_,_,rfl,rfl,k _ _ _ _ .bl hm .refl q⟩
  .exact En W5 s Y H _ _ v u Q' I rx ry (inn true q)
variable {a b:Expr}
def qc{op:CmpOp}(hu:X.A.units+9<cLine)(ha:E3 X a ta)(hb:E3 X b tb)(hm:behindInMarks op b=false:=by first|exact HN _|with_unfolding_all rfl):E3 X (.Compare a [op] [b] pos) (k3 op ta tb):=PE.mono (Jr (JN op hu) ha hb hm) Ih
def b3(t:T3):Ay:=λU M Q=>t U M λd M1=>match d with|.bl c=>Q c M1|_=>False
def vv(h:E3 X e t)(he:∀XC,isTrue e X.env XC=(do let v<-XC;standAt e.pos;holding [v] (truthy v)):=by intro _;rfl):B3 X e (b3 t):=PT.mono (RV h he) λY H Q' zz=>x7 zz λU M Q hs hm ht k=>
 ⟨U,M,_,hs,hm,ht,λv H1 d M1 hd W7 e1 q1=>by
  cases d with
  | bl c=>exact⟨c,hd.mI,k c H1 M1 W7 e1 q1⟩
  | _=>exact q1.elim⟩
def pD{op:CmpOp}(hu:X.A.units+9<cLine)(ha:E3 X a ta)(hb:E3 X b tb)(hm:behindInMarks op b=false:=by first|exact HN _|with_unfolding_all rfl):B3 X (.Compare a [op] [b] pos) (b3 (k3 op ta tb)):=PT.mono (IL (JN op hu) ha hb hm) λY H Q' zz=>x7 zz λU M Q hs hm ht k=>
 Ih Y H _ ⟨U,M,_,hs,hm,ht,λv H1 d M1 hd W7 e1 q1=>by
  cases d with
  | bl c=>exact⟨c,hd.mI,k c H1 M1 W7 e1 q1⟩
  | _=>exact q1.elim⟩
end
variable {tA tB:Ay}{rest:T0 Expr}
section
variable {a b:Expr}
def Ov(t u:Ay):Ay:=λU M Q=>t U M λc M1=>if c=true then u U M1 Q else Q false M1
def WZ(t u:Ay):Ay:=λU M Q=>t U M λc M1=>if c=true then Q true M1 else u U M1 Q
def Tt(t:Ay):Ay:=λU M Q=>t U M λc M1=>Q (!c) M1
def W3(X:Cx)(e:Expr)(t:Ay):Prop:=PW X e (Ti X.K t)
def PW.mono{t t':TT}(h:PW X e t)(m:∀Y H Q,t' Y H Q->t Y H Q):PW X e t':=λwh W5 s Y H Q I q=>h wh W5 s Y H Q I (m Y H Q q)
def W3.b3(h:W3 X e t):B3 X e t:=PW.pt h
def xO(h:B3 X a tA):W3 X (.BoolOp .And [a] pos) tA:=Oc h
def xC(h:B3 X a tA):W3 X (.BoolOp .Or [a] pos) tA:=RE h
def yA(ha:B3 X a tA)(hb:W3 X (.BoolOp .And (b::rest) pos) tB):W3 X (.BoolOp .And (a::b::rest) pos) (Ov tA tB):=PW.mono (SO ha hb) λY H Q' zz=>x7 zz λU M Q hs hm ht k=>
 ⟨U,M,_,hs,hm,ht,λc H1 M1 W7 e1 q1=>by
  cases c with
  | true=>exact(cZ rfl).mpr ⟨U,M1,Q,hs.mono e1,W7,(cZ rfl).mp q1,λb H' M' x1 x2 x3=>k b H' M' x1 (e1.trans x2) x3⟩
  | false=>exact(cX dw).mpr (k false H1 M1 W7 e1 ((cX dw).mp q1))⟩
def yh(ha:B3 X a tA)(hb:W3 X (.BoolOp .Or (b::rest) pos) tB):W3 X (.BoolOp .Or (a::b::rest) pos) (WZ tA tB):=PW.mono (UQ ha hb) λY H Q' zz=>x7 zz λU M Q hs hm ht k=>
 ⟨U,M,_,hs,hm,ht,λc H1 M1 W7 e1 q1=>by
  cases c with
  | true=>exact(cZ rfl).mpr (k true H1 M1 W7 e1 ((cZ rfl).mp q1))
  | false=>exact(cX dw).mpr ⟨U,M1,Q,hs.mono e1,W7,(cX dw).mp q1,λb H' M' x1 x2 x3=>k b H' M' x1 (e1.trans x2) x3⟩⟩
def yD(ha:B3 X a tA):B3 X (.UnaryOp .Not a pos) (Tt tA):=PT.mono (Sy ha) λY H Q' zz=>x7 zz λU M Q hs hm ht k=>⟨U,M,_,hs,hm,ht,λc H1 M1 W7 e1 q1=>k _ H1 M1 W7 e1 q1⟩
def Ub(ta tb:T3):T3:=λU M Q=>ta U M λd M1=>match d with|.bl c=>if c=true then tb U M1 Q else Q (.bl false) M1|_=>False
def Vq(ta tb:T3):T3:=λU M Q=>ta U M λd M1=>match d with|.bl c=>if c=true then Q (.bl true) M1 else tb U M1 Q|_=>False
def U5(ta:T3):T3:=λU M Q=>ta U M λd M1=>match d with|.bl c=>Q (.bl (!c)) M1|_=>False
def sA{op}(h:E3 X a ta):E3 X (.BoolOp op [a] pos) ta:=RU h
def sQ(ha:E3 X a ta)(hb:E3 X (.BoolOp .And (b::rest) pos) tb):E3 X (.BoolOp .And (a::b::rest) pos) (Ub ta tb):=PE.mono (RY ha hb) λY H Q' zz=>x7 zz λU M Q hs hm ht k=>
 ⟨U,M,_,hs,hm,ht,λv H1 d M1 hd W7 e1 q1=>by
  cases d with
  | bl c=>
   refine⟨c,hd.mI,?_⟩;cases c with
   | true=>exact(cZ rfl).mpr ⟨U,M1,Q,hs.mono e1,W7,(cZ rfl).mp q1,vG e1 k⟩
   | false=>exact(cX dw).mpr (k _ H1 _ M1 .bl W7 e1 ((cX dw).mp q1))
  | _=>exact q1.elim⟩
def IJ(ha:E3 X a ta)(hb:E3 X (.BoolOp .Or (b::rest) pos) tb):E3 X (.BoolOp .Or (a::b::rest) pos) (Vq ta tb):=PE.mono (UK ha hb) λY H Q' zz=>x7 zz λU M Q hs hm ht k=>
 ⟨U,M,_,hs,hm,ht,λv H1 d M1 hd W7 e1 q1=>by
  cases d with
  | bl c=>
   refine⟨c,hd.mI,?_⟩;cases c with
   | true=>exact(cZ rfl).mpr (k _ H1 _ M1 .bl W7 e1 ((cZ rfl).mp q1))
   | false=>exact(cX dw).mpr ⟨U,M1,Q,hs.mono e1,W7,(cX dw).mp q1,vG e1 k⟩
  | _=>exact q1.elim⟩
def SR(ha:E3 X a ta):E3 X (.UnaryOp .Not a pos) (U5 ta):=PE.mono (SV ha) λY H Q' zz=>x7 zz λU M Q hs hm ht k=>
 ⟨U,M,_,hs,hm,ht,λv H1 d M1 hd W7 e1 q1=>by
  cases d with
  | bl c=>exact⟨c,hd.mI,k _ H1 _ M1 .bl W7 e1 q1⟩
  | _=>exact q1.elim⟩
def WX(t:Ay)(ta tb:T3):T3:=λU M Q=>t U M λc M1=>if c=true then ta U M1 Q else tb U M1 Q
def QL(hc:B3 X c tA)(ha:E3 X a ta)(hb:E3 X b tb):E3 X (.IfExp c a b pos) (WX tA ta tb):=PE.mono (NN hc ha hb) λY H Q' zz=>x7 zz λU M Q hs hm ht k=>
 ⟨U,M,_,hs,hm,ht,λc H1 M1 W7 e1 q1=>by
  cases c with
  | true=>exact(cZ rfl).mpr ⟨U,M1,Q,hs.mono e1,W7,(cZ rfl).mp q1,vG e1 k⟩
  | false=>exact(cX dw).mpr ⟨U,M1,Q,hs.mono e1,W7,(cX dw).mp q1,vG e1 k⟩⟩
def VB(x y:D)(M:Mp)(Q:DK):Prop:=match x,y with
 | .tup ds,.int i=>(wj ds i).elim False λd=>Q d M
 | .ref a,.int i=>(oR M a).elim False λds=>(wj ds i).elim False λd=>Q d M
 | .rl ds,.int i=>(wj ds i).elim False λd=>Q d M
 | .str z,.int i=>z.length<=sizeLine/\(wj z.cps.toList i).elim False λc=>Q (.str ⟨#[c]⟩) M
 | _,_=>False
def i3(ta tb:T3):T3:=λU M Q=>ta U M λx M1=>tb U M1 λy M2=>VB x y M2 Q
def ED{K:qh}{d:D}(h:qe K H ds xs)(e:wj ds i=some d):∃v,wj xs i=some v/\rE K H d v:=by
 unfold wj at e ⊢;rw[<-h.length];cases q:G7 ds.length i with
 | none=>rw[q]at e;cases e
 | some j=>rw[q]at e;exact h.get e
def W2:Tj X (R3 X.K VB):=by
 intro value Xe W5 s Y H vx vy v u Q' I rx ry h hs;obtain⟨x,y,M,Q,hx,hy,hm,q,k⟩:=h;unfold VB at q;split at q
 .obtain⟨d,e,q⟩:=qW q;obtain⟨p,xs,rfl,h1,h2⟩:=hx.mL;cases hy.int_inv;obtain⟨w,e1,e2⟩:=ED h2 e;exact Sv value Xe W5 s Y H _ _ v u Q' I rx ry ⟨p,xs,_,w,rfl,rfl,h1,e1,k _ _ _ _ e2 hm .refl q⟩ hs
 .obtain⟨ds,e0,q⟩:=qW q;obtain⟨d,e,q⟩:=qW q;cases hx.mE;cases hy.int_inv;obtain⟨xs,h1,h2,_⟩:=qr hm e0;obtain⟨w,e1,e2⟩:=ED h2 e;exact Jg value Xe W5 s Y H _ _ v u Q' I rx ry ⟨_,xs,_,w,rfl,rfl,h1,e1,k _ _ _ _ e2 hm .refl q⟩ hs
 .obtain⟨d,e,q⟩:=qW q;obtain⟨p,xs,rfl,h1,h2⟩:=hx.mW;cases hy.int_inv;obtain⟨w,e1,e2⟩:=ED h2 e;exact Jg value Xe W5 s Y H _ _ v u Q' I rx ry ⟨p,xs,_,w,rfl,rfl,h1.sq,e1,k _ _ _ _ e2 hm .refl q⟩ hs
 .obtain⟨q1,q⟩:=q;obtain⟨c,e,q⟩:=qW q;cases hx.str_inv;cases hy.int_inv;exact Rp value Xe W5 s Y H _ _ v u Q' I rx ry ⟨_,_,c,rfl,rfl,q1,e,k _ _ _ _ .str hm .refl q⟩ hs
 .exact q.elim
def pI(ha:E3 X a ta)(hb:E3 X b tb)(hs:Bc b:=by exact λ_ _=>rfl):E3 X (.Subscript a b pos) (i3 ta tb):=PE.mono (Mh W2 ha hb hs) Ih
def tL(ds:T0 D)(lo hi:Option Int):T0 D:=(ds.drop (HT.sZ ds.length 0 lo)).take (HT.sZ ds.length ds.length hi - HT.sZ ds.length 0 lo)
def FH{K:qh}(q:qe K H ds xs):qe K H (tL ds l h) (BD xs l h):=by unfold tL BD;rw[q.length];exact(q.drop _).take _
abbrev Tq:=uY->Mp->(Option Int->Mp->Prop)->Prop
def WP(K:qh)(t:Tq):TO:=λY H Q'=>C8 λU M Q=>yP K H Y U/\HM K H M/\t U M Q/\∀o H' M',HM K H' M'->qI K H H'->Q o M'->Q' o H'
def O3(X:Cx)(e:Option Expr)(t:Tq):Prop:=PO X e (WP X.K t)
def Pu:Tq:=λ_ M Q=>Q none M
def UN(t:T3):Tq:=λU M Q=>t U M λd M1=>match d with|.int i=>Q (some i) M1|_=>False
def PO.mono{t t':TO}(h:PO X e t)(m:∀Y H Q,t' Y H Q->t Y H Q):PO X e t':=λW5 s Y H Q I q=>h W5 s Y H Q I (m Y H Q q)
def sS:O3 X none Pu:=PO.mono O1 λY H Q' zz=>x7 zz λU M Q hs hm ht k=>k none H M hm .refl ht
def sO(h:E3 X e t):O3 X (some e) (UN t):=PO.mono (OM h) λY H Q' zz=>x7 zz λU M Q hs hm ht k=>
 ⟨U,M,_,hs,hm,ht,λv H1 d M1 hd W7 e1 q1=>by
  cases d with
  | int i=>exact⟨i,hd.int_inv,k (some i) H1 M1 W7 e1 q1⟩
  | _=>exact q1.elim⟩
def Wz(x:D)(lo hi:Option Int)(M:Mp)(Q:DK):Prop:=match x with
 | .tup ds=>Q (.tup (tL ds lo hi)) M
 | .ref a=>(oR M a).elim False λds=>∀p,M p=none->Q (.ref p) (pB M p (.lst (tL ds lo hi)))
 | .rl ds=>∀p,M p=none->Q (.ref p) (pB M p (.lst (tL ds lo hi)))
 | _=>False
def s3(te:T3)(tl th:Tq):T3:=λU M Q=>te U M λx M1=>tl U M1 λl M2=>th U M2 λu M3=>Wz x l u M3 Q
def VY(K:qh):V->Option Int->Option Int->Hp->VK->Prop:=λvx l u H Q'=>C8 λx M Q=>rE K H x vx/\HM K H M/\Wz x l u M Q/\Up K H Q' Q
def Oa{ds:T0 D}{lo hi:Option Int}(h:HT.sZ ds.length 0 lo=0/\HT.sZ ds.length ds.length hi=ds.length):tL ds lo hi=ds:=by unfold tL;rw[h.1,h.2,j7,kQ,fE]
def Wj:Um X (VY X.K):=by
 intro W5 s Y H vx v vl vu l u sl Q' I rx hsl pl pu h;obtain⟨x,M,Q,hx,hm,q,k⟩:=h;cases x with
 | tup ds=>
  have q2:Q (.tup (tL ds l u)) M:=q;obtain⟨a,xs,rfl,h1,h2⟩:=hx.mL;by_cases q1:HT.sZ ds.length 0 l=0/\HT.sZ ds.length ds.length u=ds.length
  .rw[Oa q1]at q2;exact SZ W5 s Y H _ v vl vu l u sl Q' I rx hsl pl pu ⟨a,xs,rfl,h1,by rw[<-h2.length];exact q1,k _ _ _ _ hx hm .refl q2⟩
  refine Rq W5 s Y H _ v vl vu l u sl Q' I rx hsl pl pu ⟨a,xs,rfl,h1,by rw[<-h2.length];exact q1,λp hp=>?_⟩;have e:qI X.K H (upd H p (.tup (BD xs l u))):=.new hp;exact k _ _ _ _ (.tup (.of qa) ((FH h2).mono e)) (hm.add hp) e q2
 | ref a=>obtain⟨ds,e0,q⟩:=qW q;cases hx.mE;obtain⟨xs,h1,h2,_⟩:=qr hm e0;refine Jj W5 s Y H _ v vl vu l u sl Q' I rx hsl pl pu ⟨a,xs,rfl,h1,λp hp=>?_⟩;have e:qI X.K H (upd H p (.lst (BD xs l u))):=.new hp;exact k _ _ _ _ .ref (hm.new (c:=.lst (tL ds l u)) hp ⟨_,qa,(FH h2).mono e⟩) e (q p (hm.fresh hp))
 | rl ds=>obtain⟨a,xs,rfl,h1,h2⟩:=hx.mW;refine Jj W5 s Y H _ v vl vu l u sl Q' I rx hsl pl pu ⟨a,xs,rfl,h1.sq,λp hp=>?_⟩;have e:qI X.K H (upd H p (.lst (BD xs l u))):=.new hp;exact k _ _ _ _ .ref (hm.new (c:=.lst (tL ds l u)) hp ⟨_,qa,(FH h2).mono e⟩) e (q p (hm.fresh hp))
 | _=>exact q.elim
def rL{lo hi:Option Expr}{p2:Pos}(he:E3 X e te)(hl:O3 X lo tl)(hu:O3 X hi th):E3 X (.Subscript e (.Slice lo hi none p2) pos) (s3 te tl th):=PE.mono (Md Wj he hl hu) λY H Q' zz=>x7 zz λU M Q hs hm ht k=>⟨U,M,_,hs,hm,ht,λv H1 x M1 hx W7 e1 q1=>⟨U,M1,_,hs.mono e1,W7,q1,λl H2 M2 Xm e2 q2=>⟨U,M2,_,hs.mono (e1.trans e2),Xm,q2,λu H3 M3 X4 e3 q3=>⟨x,M3,Q,hx.mono (e2.trans e3),X4,q3,vG (e1.trans (e2.trans e3)) k⟩⟩⟩⟩
def xu:w9:=λ_ M Q=>Q [] M
def vi(ta:T3)(tr:w9):w9:=λU M Q=>ta U M λx M1=>tr U M1 λxs M2=>Q (x::xs) M2
def sV:A3 X [] xu:=PA.mono R6 λY H Q' zz=>x7 zz λU M Q hs hm ht k=>k [] H [] M .nil hm .refl ht
def pW(ha:E3 X e te)(hr:A3 X es t)(hs:A7 X e es:=by rfl):A3 X (e::es) (vi te t):=PA.mono (P0 ha hr hs) λY H Q' zz=>x7 zz λU M Q hs hm ht k=>⟨U,M,_,hs,hm,ht,λv H1 x M1 hx W7 e1 q1=>⟨U,M1,_,hs.mono e1,W7,q1,λvs H2 xs M2 Z5 Xm e2 q2=>k _ H2 _ M2 (.cons (hx.mono e2) Z5) Xm (e1.trans e2) q2⟩⟩
def VC(t:w9):T3:=λU M Q=>t U M λds M1=>ds.length<=sizeLine/\Q (.tup ds) M1
def TY(t:w9):T3:=λU M Q=>t U M λds M1=>ds.length<=sizeLine/\∀p,M1 p=none->Q (.ref p) (pB M1 p (.lst ds))
def pK{x1}(h:A3 X es t):E3 X (.Tuple es x1 pos) (VC t):=PE.mono (SS h) λY H Q' zz=>x7 zz λU M Q hs hm ht k=>
 ⟨U,M,_,hs,hm,ht,λvs H1 ds M1 Yk W7 e1 q1=>⟨by rw[<-Yk.length];exact q1.1,λp hp=>by
  have e:qI X.K H1 (upd H1 p (.tup vs)):=.new hp;exact k _ _ _ M1 (.tup (.of qa) (Yk.mono e)) (W7.add hp) (e1.trans e) q1.2⟩⟩
def qT(h:A3 X es t):E3 X (.List es pos) (TY t):=PE.mono (Rl h) λY H Q' zz=>x7 zz λU M Q hs hm ht k=>
 ⟨U,M,_,hs,hm,ht,λvs H1 ds M1 Yk W7 e1 q1=>⟨by rw[<-Yk.length];exact q1.1,λp hp=>by
  have e:qI X.K H1 (upd H1 p (.lst vs)):=.new hp;exact k _ _ _ _ .ref (W7.new (c:=.lst ds) hp ⟨_,qa,Yk.mono e⟩) (e1.trans e) (q1.2 p (W7.fresh hp))⟩⟩
def uq(t u:xG):xG:=λD U M=>t {D with nx:=u D} U M
def VG:xG:=λD U M=>D.nx U M
def pF:HC X [] VG:=Cn.mono On λD' Y H zz=>KR zz λU M D hs hm ht k1 k2 k3 k4=>k1 Y H U M hs hm .refl rfl ht
def oY{st:Stmt}{rest:T0 Stmt}(h1:S3 X st t)(h2:HC X rest u):HC X (st::rest) (uq t u):=Cn.mono (M8 h1 h2) λD' Y H zz=>KR zz λU M D hs hm ht k1 k2 k3 k4=>
 ⟨U,M,{D with nx:=u D},hs,hm,ht,λσ1 H1 δ1 M1 Z6 W7 e1 l1 q1=>⟨δ1,M1,D,Z6,W7,q1,λσ' H' δ' M' x1 x2 x3 x4 x5=>k1 σ' H' δ' M' x1 x2 (e1.trans x3) (x4.trans l1) x5,λv H' d M' x1 x2 x3 x4=>k2 v H' d M' x1 x2 (e1.trans x3) x4,λσ' H' δ' M' x1 x2 x3 x4 x5=>k3 σ' H' δ' M' x1 x2 (e1.trans x3) (x4.trans l1) x5,λσ' H' δ' M' x1 x2 x3 x4 x5=>k4 σ' H' δ' M' x1 x2 (e1.trans x3) (x4.trans l1) x5⟩,k2,k3,k4⟩
def o9{st:Stmt}(h1:S3 X st t):HC X [st] t:=Cn.mono (Ep h1) λD' Y H h=>h
def Uk(te:T3):xG:=λD U M=>te U M λ_ M1=>D.nx U M1
def pJ(he:E3 X e te)(YC:swapsWith e none pos.line X.env=pure false:=by rfl):S3 X (.Expr e pos) (Uk te):=PS.mono (Qj he YC) λD' Y H zz=>KR zz λU M D hs hm ht k1 k2 k3 k4=>⟨U,M,_,hs,hm,ht,λv H1 d M1 hd W7 e1 q1=>k1 Y H1 U M1 (hs.mono e1) W7 e1 rfl q1⟩
def RK(te:T3):xG:=λD U M=>te U M D.rt
def pz(he:E3 X e te):S3 X (.Return (some e) pos) (RK te):=PS.mono (RB he) λD' Y H zz=>KR zz λU M D hs hm ht k1 k2 k3 k4=>⟨U,M,_,hs,hm,ht,λv H1 d M1 hd W7 e1 q1=>k2 v H1 d M1 hd W7 e1 q1⟩
def P9(c:Ay)(t u:xG):xG:=λD U M=>c U M λb M1=>if b=true then t D U M1 else u D U M1
def pN{tc:Ay}(hc:B3 X c tc)(ha:HC X as t)(hb:HC X bs u):S3 X (.If c as bs pos) (P9 tc t u):=PS.mono (Uq hc ha hb) λD' Y H zz=>KR zz λU M D hs hm ht k1 k2 k3 k4=>
 ⟨U,M,_,hs,hm,ht,λb H1 M1 W7 e1 q1=>by
  have up:∀t:xG,t D U M1->Wa X.K t D' Y H1:=λt q=>⟨U,M1,D,hs.mono e1,W7,q,λσ' H' δ' M' x1 x2 x3 x4 x5=>k1 σ' H' δ' M' x1 x2 (e1.trans x3) x4 x5,λv H' d M' x1 x2 x3 x4=>k2 v H' d M' x1 x2 (e1.trans x3) x4,λσ' H' δ' M' x1 x2 x3 x4 x5=>k3 σ' H' δ' M' x1 x2 (e1.trans x3) x4 x5,λσ' H' δ' M' x1 x2 x3 x4 x5=>k4 σ' H' δ' M' x1 x2 (e1.trans x3) x4 x5⟩
  cases b with
  | true=>exact(cZ rfl).mpr (up t ((cZ rfl).mp q1))
  | false=>exact(cX dw).mpr (up u ((cX dw).mp q1))⟩
def Sr:xG:=λ_ _ _=>False
def Gm{st:Stmt}:S3 X st Sr:=PS.mono Lk λD' Y H ⟨U,M,D,hs,hm,ht,_⟩=>ht
abbrev D9:=D->uY->Mp->(uY->Mp->Prop)->Prop
def Ve(K:qh)(g:D9):TG:=λv Y H Q'=>Bg λd U M Q=>rE K H d v/\yP K H Y U/\HM K H M/\g d U M Q/\∀σ' H' δ' M',yP K H' σ' δ'->HM K H' M'->qI K H H'->σ'.length=Y.length->Q δ' M'->Q' σ' H'
def G3(X:Cx)(e:Expr)(g:D9):Prop:=PG X e (Ve X.K g)
def PG.nJ{t t':TG}(h:PG X e t)(m:∀v Y H Q,Y.length=X.N.length->t' v Y H Q->t v Y H Q):PG X e t':=λW5 s Y H v u Q I r q=>h W5 s Y H v u Q I r (m v Y H Q I.len q)
def uw(i:Nat):D9:=λd U M Q=>Q (U.set i (some d)) M
def Ju{i:Nat}{x:Str}(hN:X.N.Nodup)(hi:X.N[i]?=some x)(hx:LR X.env.scope x)(hf:Ln X x:=by first|exact .inl rfl|exact .inr rfl|assumption):G3 X (.Name x pos) (uw i):=
 PG.nJ (Qx hN hi hx hf) λv Y H Q' hl ⟨d,U,M,Q,hd,hs,hm,ht,k⟩=>k _ H _ M (hs.set hd (by rw[hl];exact(cU.mp hi).1)) hm .refl (by simp) ht
abbrev Gp:=T0 D->uY->Mp->(uY->Mp->Prop)->Prop
def VJ(K:qh)(g:Gp):Oh:=λvs Y H Q'=>Bg λds U M Q=>qe K H ds vs/\yP K H Y U/\HM K H M/\g ds U M Q/\∀σ' H' δ' M',yP K H' σ' δ'->HM K H' M'->qI K H H'->σ'.length=Y.length->Q δ' M'->Q' σ' H'
def Vj(X:Cx)(es:T0 Expr)(g:Gp):Prop:=NV X es (VJ X.K g)
def NV.mono{t t':Oh}(h:NV X e t)(m:∀v Y H Q,t' v Y H Q->t v Y H Q):NV X e t':=λW5 s Y H v u Q I r q=>h W5 s Y H v u Q I r (m v Y H Q q)
def PG.mono{t t':TG}(h:PG X e t)(m:∀v Y H Q,t' v Y H Q->t v Y H Q):PG X e t':=λW5 s Y H v u Q I r q=>h W5 s Y H v u Q I r (m v Y H Q q)
def Mu:Gp:=λds U M Q=>match ds with|[]=>Q U M|_=>False
def Eg(t:D9)(u:Gp):Gp:=λds U M Q=>match ds with|d::r=>t d U M λδ' M'=>u r δ' M' Q|[]=>False
def uD:Vj X [] Mu:=NV.mono Qc λvs Y H Q' ⟨ds,U,M,Q,hd,hs,hm,ht,k⟩=>by
 cases ds with
 | nil=>exact⟨hd.nil_inv,k Y H U M hs hm .refl rfl ht⟩
 | cons _ _=>exact ht.elim
def qK(h1:G3 X e t)(h2:Vj X es u)(hs:(assignEach (e::es) X.env).map (·.2)=assign e X.env::(assignEach es X.env).map (·.2):=by rfl):Vj X (e::es) (Eg t u):=
 NV.mono (L6 h1 h2 hs) λvs Y H Q' ⟨ds,U,M,Q,hd,hs,hm,ht,k⟩=>by
 cases ds with
 | nil=>exact ht.elim
 | cons d r=>obtain⟨x,xr,rfl,hx,hr⟩:=hd.inv;exact⟨x,xr,rfl,d,U,M,_,hx,hs,hm,ht,λσ1 H1 δ1 M1 Z6 W7 e1 l1 q1=>⟨r,δ1,M1,Q,hr.mono e1,Z6,W7,q1,λσ' H' δ' M' x1 x2 x3 x4 x5=>k σ' H' δ' M' x1 x2 (e1.trans x3) (x4.trans l1) x5⟩⟩
def QH(n:Nat)(t:Gp):D9:=λd U M Q=>match d with|.tup ds=>ds.length=n/\t ds U M Q|_=>False
def vI{n:Nat}(hc:X.calm=true)(h:Vj X es t)(hn:(assignEach es X.env).length=n:=by rfl)(Xu:(assignEach es X.env).findIdx? (·.1)=none:=by rfl):G3 X (.Tuple es k pos) (QH n t):=
 PG.mono (SJ hc h hn Xu) λv Y H Q' ⟨d,U,M,Q,hd,hs,hm,ht,k⟩=>by
 cases d with
 | tup ds=>obtain⟨a,xs,rfl,h1,h2⟩:=hd.mL;exact⟨a,xs,rfl,h1,by rw[<-h2.length];exact ht.1,ds,U,M,Q,h2,hs,hm,ht.2,k⟩
 | _=>exact ht.elim
def Cz(te:T3)(g:D9):xG:=λD U M=>te U M λx M1=>g x U M1 D.nx
def Sq(he:E3 X e te)(hg:G3 X tg g)(hs:swapsWithSole [tg] e pos.line X.env=pure false:=by rfl)(hw:swappedStores [tg] e X.env=pure none:=by rfl)
  (h1:(assignEach [tg] X.env).map (·.2)=[assign tg X.env]:=by rfl):S3 X (.Assign [tg] e pos) (Cz te g):=PS.mono (Sg he hg hs hw h1) λD' Y H zz=>KR zz λU M D hs hm ht k1 k2 k3 k4=>
 ⟨U,M,_,hs,hm,ht,λv H1 d M1 hd W7 e1 q1=>⟨d,U,M1,_,hd,hs.mono e1,W7,q1,λσ' H' δ' M' x1 x2 x3 x4 x5=>k1 σ' H' δ' M' x1 x2 (e1.trans x3) x4 x5⟩⟩
def Td{i:Nat}{x:Str}(hN:X.N.Nodup)(hi:X.N[i]?=some x)(hx:LR X.env.scope x)(he:E3 X e te)(YC:swapsWith e (some (.Name x Xh)) pos.line X.env=pure false:=by rfl)
  (hf:Ln X x:=by first|exact .inl rfl|exact .inr rfl|assumption):S3 X (.Assign [.Name x Xh] e pos) (Cz te (uw i)):=PS.nJ (M9 hN hi hx he YC hf) λD' Y H hl zz=>KR zz λU M D hs hm ht k1 k2 k3 k4=>
 ⟨U,M,_,hs,hm,ht,λv H1 d M1 hd W7 e1 q1=>k1 _ H1 _ M1 ((hs.mono e1).set hd (by rw[hl];exact(cU.mp hi).1)) W7 e1 (by simp) q1⟩
end
abbrev qY:=T0 D->Mp->DK->Prop
def N0(K:qh)(sp:qY):Sp:=λvs H Q' _=>C8 λds M Q=>qe K H ds vs/\HM K H M/\sp ds M Q/\Up K H Q' Q
def wI(N:QQQ)(ds:T0 D):uY:=ds.map some++List.replicate (N.length - ds.length) none
def DV{K:qh}(h:qe K H ds vs):yP K H (L2.yd N vs) (wI N ds):=λi d q=>by
 unfold wI at q;unfold L2.yd;by_cases hi:i<ds.length
 .rw[eZ (by simpa using hi),dz]at q;cases e:ds[i]? with
  | none=>rw[e]at q;cases q
  | some d'=>rw[e]at q;cases q;obtain⟨v,e1,e2⟩:=h.get e;refine⟨v,?_,e2⟩;rw[eZ (by rw[cS,<-h.length];exact hi),dz,e1];rfl
 .rw[eR (by simpa using hi),jM]at q;split at q<;>cases q
variable {P:Pg}{w:Wo}{mg:QQZ}{base:Heap}
abbrev Tn(P:Pg)(w:Wo)(K:qh)(mg:QQZ)(base:Heap)(k:Nat)(f:Addr)(fd:FuncData)(ps:QQQ)(sp:qY):Prop:=wZ P w K mg base NW k f fd ps (N0 K sp)
variable {k:Nat}{f C:Addr}{fd:FuncData}{ps:QQQ}{sp:qY}{x m fn:Str}{p W8:Pos}{e o:Expr}{es:T0 Expr}{t:w9}
def DS(sp:qY)(t:w9):T3:=λU M Q=>t U M λds M1=>sp ds M1 Q
def OU(F:Tn X.prog X.w X.K X.mg X.base k f fd ps sp)(hr:rO k X.A)(hg:Gl X x)(hm:X.mg x=some (.ref f))(hk:W.keepIn X.K (.ref f)=true)(hb:uG X.K fd ps [])(ha:A3 X (e::es) t) (Xp:zu x:=by decide) (he:A7 X e es:=by rfl) (Xl:CP X pos es:=by rfl):
  E3 X (.Call (.Name x p) (e::es) [] pos) (DS sp t):=PE.mono (Pl F hr hg hm hk hb .nil (GT (X:=X)) ha Xp he Xl) λY H Q' zz=>x7 zz λU M Q hs hm ht k=>
 ⟨U,M,_,hs,hm,ht,λvs H1 ds M1 hd W7 e1 q1=>⟨ds,M1,Q,by rw[eY];exact hd,W7,q1,vG e1 k⟩⟩
def C3(X:Cx)(f:Vl)(r:qY):Prop:=yl X f λvs H Q'=>∃ds M Q,qe X.K H ds vs/\HM X.K H M/\r ds M Q/\Up X.K H Q' Q
def pO{id:String}(hc:C3 X (.builtin id) r)(hg:Gl X x)(hm:X.mg x=none)(hv:bootBuiltins x=some (.builtin id))(ha:A3 X (e::es) t)(hn:x≠"__name__":=by decide)(Xp:zu x:=by decide)
  (he:A7 X e es:=by rfl) (Xl:CP X pos es:=by rfl):E3 X (.Call (.Name x p) (e::es) [] pos) (DS r t):=
 PE.mono (MJ hc hg hm hv ha hn Xp he Xl) λY H Q' zz=>x7 zz λU M Q hs hm ht k=>⟨U,M,_,hs,hm,ht,λvs H1 ds M1 hd W7 e1 q1=>⟨ds,M1,Q,hd,W7,q1,vG e1 k⟩⟩
def pT{T:String}(hc:C3 X (.type T) r)(hg:Gl X x)(hm:X.mg x=none)(hv:bootBuiltins x=some (.type T))(ha:A3 X (e::es) t)(hn:x≠"__name__":=by decide)(Xp:zu x:=by decide)
  (he:A7 X e es:=by rfl) (Xl:CP X pos es:=by rfl):E3 X (.Call (.Name x p) (e::es) [] pos) (DS r t):=
 PE.mono (J9 hc hg hm hv ha hn Xp he Xl) λY H Q' zz=>x7 zz λU M Q hs hm ht k=>⟨U,M,_,hs,hm,ht,λvs H1 ds M1 hd W7 e1 q1=>⟨ds,M1,Q,hd,W7,q1,vG e1 k⟩⟩
def TU(ds:T0 D)(M:Mp)(Q:DK):Prop:=match ds with
 | [.str z]=>z.length<=sizeLine/\Q (.int z.length) M
 | [.tup es]=>Q (.int es.length) M
 | [.ref a]=>(oR M a).elim False λes=>Q (.int es.length) M
 | [.rl es]=>Q (.int es.length) M
 | _=>False
def r6{K:qh}{d:D}(h:qe K H [d] vs):∃v,vs=[v]/\rE K H d v:=by obtain⟨x,r,rfl,a,b⟩:=h.inv;rw[b.nil_inv];exact⟨x,rfl,a⟩
def A9{K:qh}{d e:D}(h:qe K H [d,e] vs):∃v u,vs=[v,u]/\rE K H d v/\rE K H e u:=by obtain⟨x,r,rfl,a,b⟩:=h.inv;obtain⟨y,rfl,c⟩:=r6 b;exact⟨x,y,rfl,a,c⟩
def qv:C3 X (.builtin "len") TU:=by
 intro W5 s Y H vs us Q' I rv h;obtain⟨ds,M,Q,hd,hm,q,k⟩:=h;unfold TU at q;split at q
 .obtain⟨v,rfl,hv⟩:=r6 hd;cases hv.str_inv;exact Fm W5 s Y H _ us Q' I rv ⟨_,rfl,q.1,k _ _ _ _ .int hm .refl q.2⟩
 .obtain⟨v,rfl,hv⟩:=r6 hd;obtain⟨a,xs,rfl,h1,h2⟩:=hv.mL;exact wn W5 s Y H _ us Q' I rv ⟨a,xs,rfl,.inr h1,k _ _ _ _ (by rw[<-h2.length];exact .int) hm .refl q⟩
 .obtain⟨v,rfl,hv⟩:=r6 hd;obtain⟨es,e0,q⟩:=qW q;cases hv.mE;obtain⟨xs,h1,h2,_⟩:=qr hm e0;exact wn W5 s Y H _ us Q' I rv ⟨_,xs,rfl,.inl h1,k _ _ _ _ (by rw[<-h2.length];exact .int) hm .refl q⟩
 .obtain⟨v,rfl,hv⟩:=r6 hd;obtain⟨a,xs,rfl,h1,h2⟩:=hv.mW;exact wn W5 s Y H _ us Q' I rv ⟨a,xs,rfl,.inl h1.sq,k _ _ _ _ (by rw[<-h2.length];exact .int) hm .refl q⟩
 .exact q.elim
def TC(ds:T0 D)(M:Mp)(Q:DK):Prop:=match ds with
 | [.int i,.int j]=>Q (.int (if j<i then j else i)) M
 | _=>False
def TM(ds:T0 D)(M:Mp)(Q:DK):Prop:=match ds with
 | [.int i,.int j]=>Q (.int (if j>i then j else i)) M
 | _=>False
def Nf(hc:X.calm=true):C3 X (.builtin "min") TC:=by
 intro W5 s Y H vs us Q' I rv h;obtain⟨ds,M,Q,hd,hm,q,k⟩:=h;unfold TC at q;split at q
 .obtain⟨v,u,rfl,hv,hw⟩:=A9 hd;cases hv.int_inv;cases hw.int_inv;exact JS hc W5 s Y H _ us Q' I rv ⟨_,_,rfl,k _ _ _ _ .int hm .refl q⟩
 .exact q.elim
def SE(hc:X.calm=true):C3 X (.builtin "max") TM:=by
 intro W5 s Y H vs us Q' I rv h;obtain⟨ds,M,Q,hd,hm,q,k⟩:=h;unfold TM at q;split at q
 .obtain⟨v,u,rfl,hv,hw⟩:=A9 hd;cases hv.int_inv;cases hw.int_inv;exact Kf hc W5 s Y H _ us Q' I rv ⟨_,_,rfl,k _ _ _ _ .int hm .refl q⟩
 .exact q.elim
def MV(ds:T0 D)(M:Mp)(Q:DK):Prop:=match ds with
 | [.tup es]=>Q (.tup es) M
 | [.ref a]=>(oR M a).elim False λes=>Q (.tup es) M
 | [.rl es]=>Q (.tup es) M
 | _=>False
def rZ:C3 X (.type "tuple") MV:=by
 intro W5 s Y H vs us Q' I rv h;obtain⟨ds,M,Q,hd,hm,q,k⟩:=h;unfold MV at q;split at q
 .obtain⟨v,rfl,hv⟩:=r6 hd;obtain⟨a,xs,rfl,h1,h2⟩:=id hv.mL;exact vN W5 s Y H _ us Q' I rv ⟨a,xs,rfl,.inr ⟨h1,k _ _ _ _ hv hm .refl q⟩⟩
 .obtain⟨v,rfl,hv⟩:=r6 hd;obtain⟨es,e0,q⟩:=qW q;cases hv.mE;obtain⟨xs,h1,h2,_⟩:=qr hm e0;refine vN W5 s Y H _ us Q' I rv ⟨_,xs,rfl,.inl ⟨h1,λl hl=>?_⟩⟩;have e:qI X.K H (upd H l (.tup xs)):=.new hl;exact k _ _ _ _ (.tup (.of qa) (h2.mono e)) (hm.add hl) e q
 .obtain⟨v,rfl,hv⟩:=r6 hd;obtain⟨a,xs,rfl,h1,h2⟩:=hv.mW;refine vN W5 s Y H _ us Q' I rv ⟨_,xs,rfl,.inl ⟨h1.sq,λl hl=>?_⟩⟩;have e:qI X.K H (upd H l (.tup xs)):=.new hl;exact k _ _ _ _ (.tup (.of qa) (h2.mono e)) (hm.add hl) e q
 .exact q.elim
def QW(ds:T0 D)(M:Mp)(Q:DK):Prop:=match ds with
 | [d]=>(Lo M d).elim False λes=>∀p,M p=none->Q (.ref p) (pB M p (.lst es))
 | _=>False
def su:C3 X (.type "list") QW:=by
 intro W5 s Y H vs us Q' I rv h;obtain⟨ds,M,Q,hd,hm,q,k⟩:=h;unfold QW at q;split at q
 .obtain⟨v,rfl,hv⟩:=r6 hd;obtain⟨es,e0,q⟩:=qW q;obtain⟨p,xs,rfl,h1,h2⟩:=FC hm hv e0;refine Fw W5 s Y H _ us Q' I rv ⟨p,xs,rfl,h1,λl hl=>?_⟩;have e:qI X.K H (upd H l (.lst xs)):=.new hl;exact k _ _ _ _ .ref (hm.new (c:=.lst es) hl ⟨_,qa,h2.mono e⟩) e (q l (hm.fresh hl))
 .exact q.elim
theorem wF{K:qh}{f:Str}:∀{fs:T0 (Str×D)} {vs:T0 (Str×V)},BJ K H fs vs->(∀d,fs.lookup f=some d->∃v,vs.lookup f=some v/\rE K H d v)/\(fs.lookup f=none->vs.lookup f=none)
 | [],[],_=>⟨λd e=>by simp at e,λ_=>rfl⟩
 | [],_::_,h=>by have:=h.1;simp at this
 | _::_,[],h=>by have:=h.1;simp at this
 | (g,d)::fs,(g',v)::vs,h=>by
  have h1:g'=g/\vs.map (·.1)=fs.map (·.1):=by
   have:=h.1
   simpa using this
  obtain⟨x,r,e,a,b⟩:=h.2.inv;have e':v::vs.map (·.2)=x::r:=e;cases e';obtain⟨i1,i2⟩:=wF (f:=f) (fs:=fs) (vs:=vs) ⟨h1.2,b⟩;rw[h1.1];refine⟨λd' e=>?_,λe=>?_⟩
  .rw[eE]at e ⊢;cases q:f==g with
   | true=>rw[q]at e;cases e;exact⟨v,rfl,a⟩
   | false=>rw[q]at e;exact i1 d' e
  .rw[eE]at e ⊢;cases q:f==g with
   | true=>rw[q]at e;cases e
   | false=>rw[q]at e;exact i2 e
theorem Jl{f:Str}{d:D}:∀{fs:T0 (Str×D)},fs.lookup f=some d->f∈fs.map (·.1)
 | [],h=>by simp at h
 | (g,e)::r,h=>by
  rw[eE]at h;cases q:f==g with
  | true=>
   have z:f=g:=by simpa using q
   rw[z,dR];exact dG
  | false=>rw[q]at h;simp[Jl h]
def Ah(o:Option uK)(F:Addr->T0 (Str×D)->Prop):Prop:=match o with
 | some (.ins C fs)=>F C fs
 | _=>False
def oZ{o:Option uK}{F:Addr->T0 (Str×D)->Prop}{C:Addr}{fs:T0 (Str×D)}(e:o=some (.ins C fs))(h:F C fs):Ah o F:=by rw[e];exact h
def xF{o:Option uK}(h:Ah o F):∃C fs,o=some (.ins C fs)/\F C fs:=by
 unfold Ah at h;split at h
 .exact⟨_,_,rfl,h⟩
 .exact h.elim
def Wq(f:Str)(ta:T3):T3:=λU M Q=>ta U M λx M1=>match x with
 | .ref a=>Ah (M1 a) λ_ fs=>(fs.lookup f).elim False λd=>Q d M1
 | _=>False
def pq{f:Str}(he:E3 X o ta)(hb:attributeBase o f X.env (eval o X.env)=eval o X.env:=by rfl):E3 X (.Attribute o f pos) (Wq f ta):=PE.mono (Sb he hb) λY H Q' zz=>x7 zz λU M Q hs hm ht k=>
 ⟨U,M,_,hs,hm,ht,λv H1 d M1 hd W7 e1 q1=>by
  cases d with
  | ref a=>cases hd.mE;obtain⟨C,fs,e,q1⟩:=xF q1;obtain⟨d,e2,q⟩:=qW q1;obtain⟨dx,vs,h1,cl,na,fo⟩:=W7 a _ e;obtain⟨v,e3,hv⟩:=(wF fo).1 d e2;exact⟨a,C,dx,vs,v,rfl,h1,cl,na f (Jl e2),e3,k v H1 d M1 hv W7 e1 q⟩
  | _=>exact q1.elim⟩
def vJ(f:Str)(v:D):T0 (Str×D)->T0 (Str×D)
 | []=>[(f,v)]
 | (g,u)::r=>if g=f then(g,v)::r else(g,u)::vJ f v r
theorem El{K:qh}{f:Str}(hv:rE K H d v):∀{fs:T0 (Str×D)} {vs:T0 (Str×V)},BJ K H fs vs->BJ K H (vJ f d fs) (vm f v vs)
 | [],[],_=>⟨rfl,.cons hv .nil⟩
 | [],_::_,h=>by have:=h.1;simp at this
 | _::_,[],h=>by have:=h.1;simp at this
 | (g,e)::fs,(g',u)::vs,h=>by
  have h1:g'=g/\vs.map (·.1)=fs.map (·.1):=by
   have:=h.1
   simpa using this
  obtain⟨x,r,e1,a,b⟩:=h.2.inv;have e':u::vs.map (·.2)=x::r:=e1;cases e';obtain⟨hg,ht⟩:=h1;subst hg;rw[show vJ f d ((g',e)::fs)=(if g'=f then(g',d)::fs else(g',e)::vJ f d fs)from rfl,show vm f v ((g',u)::vs)=(if g'=f then(g',v)::vs else(g',u)::vm f v vs)from rfl];by_cases q:g'=f
  .rw[cZ q,cZ q];exact⟨by simpa using ht,.cons hv b⟩
  .rw[cX q,cX q];obtain⟨i1,i2⟩:=El hv (fs:=fs) (vs:=vs) ⟨ht,b⟩;exact⟨by simpa using i1,.cons a i2⟩
theorem BR{f:Str}:∀{fs:T0 (Str×D)} {g:Str},g∈(vJ f d fs).map (·.1)->g=f\/g∈fs.map (·.1)
 | [],g,h=>.inl (by simpa [vJ]using h)
 | (k,e)::r,g,h=>by
  rw[show vJ f d ((k,e)::r)=(if k=f then(k,d)::r else(k,e)::vJ f d r)from rfl]at h;by_cases q:k=f
  .rw[cZ q]at h;exact .inr (by simpa using h)
  .rw[cX q]at h;rw[dR,de]at h;rcases h with h|h
   .exact .inr (by simp[h])
   .rcases BR h with z|z
    .exact .inl z
    .exact .inr (by simp;right;simpa using z)
def Uu(K:qh)(f:Str)(ta tv:T3):xG:=λD U M=>tv U M λy M1=>ta U M1 λx M2=>match x with
 | .ref a=>Ah (M2 a) λC fs=>tZ K C f/\fs.length<1000/\D.nx U (pB M2 a (.ins C (vJ f y fs)))
 | _=>False
def pY{f:Str}(ha:E3 X o ta)(hv:E3 X value tv)(YC:swapsWith value (some (.Attribute o f Xh)) pos.line X.env=pure false:=by rfl):S3 X (.Assign [.Attribute o f Xh] value pos) (Uu X.K f ta tv):=
 PS.mono (SX ha hv YC) λD' Y H zz=>KR zz λU M D hs hm ht k1 k2 k3 k4=>
 ⟨U,M,_,hs,hm,ht,λy H1 dy M1 hy W7 e1 q1=>⟨U,M1,_,hs.mono e1,W7,q1,λv H2 d M2 hd Xm e2 q2=>by
  cases d with
  | ref a=>
   cases hd.mE;obtain⟨C,fs,e,q2⟩:=xF q2;obtain⟨na,hl,q⟩:=q2;obtain⟨dx,vs,h1,cl,nn,fo⟩:=Xm a _ e;have Xb:vs.length=fs.length:=by have:=eO List.length fo.1;simpa using this
   refine⟨a,C,dx,vs,rfl,h1,cl,na,by omega,?_⟩;obtain⟨X4,e3⟩:=Xm.put (p:=a) (o:=.ins C dx (vm f y vs)) (c:=.ins C (vJ f dy fs)) e λx=>⟨dx,_,qa,cl,λg hg=>by
    rcases BR hg with z|z
    .rw[z];exact na
    .exact nn g z,El ((hy.mono e2).mono x) (fo.mono x)⟩
   exact k1 Y _ U _ (hs.mono (e1.trans (e2.trans e3))) X4 (e1.trans (e2.trans e3)) rfl q
  | _=>exact q2.elim⟩⟩
def Q0(C:Addr)(sp:qY)(t:w9):T3:=λU M Q=>t U M λds M1=>∀x,M1 x=none->sp (.ref x::ds) (pB M1 x (.ins C [])) λd M2=>d=.mG/\Q (.ref x) M2
def Ls{K:qh}{xa dx:Addr}(hm:HM K H M)(cl:Cls K C)(h1:H xa=none)(h2:H dx=none)(ne:dx≠xa):HM K (upd (upd H dx (.own xa)) xa (.ins C dx [])) (pB M xa (.ins C []))/\qI K H (upd (upd H dx (.own xa)) xa (.ins C dx [])):=by
 have XN:upd H dx (.own xa) xa=none:=by rw[pQ (dI ne)];exact h1
 exact⟨(hm.add (p:=dx) (o:=.own xa) h2).new XN ⟨dx,[],qa,cl,λg hg=>by simp at hg,rfl,.nil⟩,qI.trans (.new h2) (.new XN)⟩
def O0(cl:Cls X.K C)(Mk':Mk X.K C f)(F:Tn X.prog X.w X.K X.mg X.base k f fd ps sp)(hr:rO (k+1) X.A)(hg:Gl X x)(hm:X.mg x=some (.ref C))(hb:uG X.K fd ps [])(ha:A3 X (e::es) t) (Xp:zu x:=by decide) (he:A7 X e es:=by rfl) (Xl:CP X pos es:=by rfl):
  E3 X (.Call (.Name x p) (e::es) [] pos) (Q0 C sp t):=PE.mono (OZ Mk' F hr hg hm hb .nil (GT (X:=X)) ha Xp he Xl) λY H Q' zz=>x7 zz λU M Q hs hm ht k=>
 ⟨U,M,_,hs,hm,ht,λvs H1 ds M1 hd W7 e1 q1=>λxa dx n1 n2 ne=>by
  obtain⟨Xm,e2⟩:=Ls W7 cl n1 n2 ne;refine⟨.ref xa::ds,_,_,?_,Xm,q1 xa (W7.fresh n1),λv H3 d M3 hd3 X4 e3 q3=>?_⟩
  .rw[eY];exact .cons .ref (hd.mono e2)
  .obtain⟨z,q3⟩:=q3;subst z;exact⟨hd3.mH,k _ H3 _ M3 .ref X4 (e1.trans (e2.trans e3)) q3⟩⟩
def Ie(m:Str)(R:Addr->Sp->Prop)(ta:TE)(t:TA):TE:=λY H Q=>ta Y H λx H1=>∃a C dx fs sp,x=.ref a/\H1 a=some (.ins C dx fs)/\fs.lookup m=none/\R C sp/\t Y H1 λvs H2=>sp (x::vs) H2 Q E0
def xi(P:Pg)(w:Wo)(K:qh)(mg:QQZ)(base:Heap)(k:Nat)(m:Str)(C:Addr)(sp:Sp):Prop:=Cls K C/\∃f fd ps,vk K C m f/\wZ P w K mg base NW k f fd ps sp/\uG K fd ps []
def Ml{R:Addr->Sp->Prop}{ta:TE}{t:TA}{pl:Sem Bool}(he:PE X o ta)(hR:∀C sp,R C sp->xi X.prog X.w X.K X.mg X.base k m C sp)(hr:rO k X.A)(ha:PA X (e::es) t) (Xu:A7 X e es:=by rfl) (Xl:CP X pos es:=by rfl)
  (ht:eval (.Call (.Attribute o m W8) (e::es) [] pos) X.env=(do
   let ov<-eval o X.env
   standAt W8.atName
   let(f,first)<-holding [ov] (getMethod ov m pl)
   callWith pos f first (backTo pos (starEach (e::es) X.env)) (backToKw pos (keywordEach [] X.env))):=by rfl):
  PE X (.Call (.Attribute o m W8) (e::es) [] pos) (Ie m R ta t):=by
 intro W5 s Y H Q I h;refine jU (pl:=pl) (sf (he W5 s Y H _ I h) λu s1 zz=>?_) ht;obtain⟨x,H1,I1,rx,a,C,dx,fs,sp,ex,ea,l,hRC,q⟩:=zz;obtain⟨c,f,fd,ps,hm,F,hb⟩:=hR C sp hRC;subst ex;obtain rfl:u=Value.ref a:=rx;refine BZ I1 ea c hm l ?_;refine iN (first:=[.ref a]) (h₀:=X.base) I.ok.mod.oi hm.kp (sf (ha pos W5 s1 Y H1 _ I1 q) λus s2 zz=>x5 zz λvs H2 I2 r q2=>⟨I2.nj,?_⟩) Xu Xl;exact EQ (us:=.ref a::us) (vs:=.ref a::vs) F hr hb .nil (GT (X:=X)) I2 (.cons rfl r) (by rw[eY];exact q2)
def KI{R:Addr->Sp->Prop}{ta:TE}{pl:Sem Bool}(he:PE X o ta)(hR:∀C sp,R C sp->xi X.prog X.w X.K X.mg X.base k m C sp)(hr:rO k X.A) (ht:eval (.Call (.Attribute o m W8) [] [] pos) X.env=(do
   let ov<-eval o X.env
   standAt W8.atName
   let(f,first)<-holding [ov] (getMethod ov m pl)
   callWith pos f first (backTo pos (starEach [] X.env)) (backToKw pos (keywordEach [] X.env))):=by rfl):
  PE X (.Call (.Attribute o m W8) [] [] pos) (Ie m R ta Tz):=by
 intro W5 s Y H Q I h;refine jU (pl:=pl) (sf (he W5 s Y H _ I h) λu s1 zz=>?_) ht;obtain⟨x,H1,I1,rx,a,C,dx,fs,sp,ex,ea,l,hRC,q⟩:=zz;obtain⟨c,f,fd,ps,hm,F,hb⟩:=hR C sp hRC;subst ex;obtain rfl:u=Value.ref a:=rx;refine BZ I1 ea c hm l ?_;exact W.callWith_K0 (first:=[.ref a]) I1.nj hm.kp (EQ (us:=[.ref a]) (vs:=[.ref a]) F hr hb .nil (GT (X:=X)) I1 (.cons rfl .nil) (by rw[eY];exact q))
def Aw(m:Str)(R:Addr->qY->Prop)(ta:T3)(t:w9):T3:=λU M Q=>ta U M λx M1=>match x with
 | .ref a=>Ah (M1 a) λC fs=>fs.lookup m=none/\∃sp,R C sp/\t U M1 λds M2=>sp (x::ds) M2 Q
 | _=>False
def Vz(K:qh)(R:Addr->qY->Prop):Addr->Sp->Prop:=λC sp'=>∃sp,R C sp/\sp'=N0 K sp
def JD:∀Y H Q',lo X.K (Aw m R ta t) Y H Q'->Ie m (Vz X.K R) (lo X.K ta) (Wy X.K t) Y H Q':=λY H Q' zz=>x7 zz λU M Q hs hm ht k=>
 ⟨U,M,_,hs,hm,ht,λv H1 d M1 hd W7 e1 q1=>by
  cases d with
  | ref a=>cases hd.mE;obtain⟨C,fs,e,q1⟩:=xF q1;obtain⟨hn,sp,hR,q⟩:=q1;obtain⟨dx,vs,h1,cl,na,fo⟩:=W7 a _ e;exact⟨a,C,dx,vs,_,rfl,h1,(wF fo).2 hn,⟨sp,hR,rfl⟩,U,M1,_,hs.mono e1,W7,q,λus H2 ds M2 Yk Xm e2 q2=>⟨.ref a::ds,M2,Q,.cons .ref Yk,Xm,q2,vG (e1.trans e2) k⟩⟩
  | _=>exact q1.elim⟩
def FJ{R:Addr->qY->Prop}{pl:Sem Bool}(he:E3 X o ta)(hR:∀C sp,R C sp->xi X.prog X.w X.K X.mg X.base k m C (N0 X.K sp))(hr:rO k X.A)(ha:A3 X (e::es) t) (Xu:A7 X e es:=by rfl) (Xl:CP X pos es:=by rfl)
  (ht:eval (.Call (.Attribute o m W8) (e::es) [] pos) X.env=(do
   let ov<-eval o X.env
   standAt W8.atName
   let(f,first)<-holding [ov] (getMethod ov m pl)
   callWith pos f first (backTo pos (starEach (e::es) X.env)) (backToKw pos (keywordEach [] X.env))):=by rfl):
  E3 X (.Call (.Attribute o m W8) (e::es) [] pos) (Aw m R ta t):=PE.mono (Ml (R:=Vz X.K R) he (λC sp' ⟨sp,h,z⟩=>by rw[z];exact hR C sp h) hr ha Xu Xl ht) JD
def Co{R:Addr->qY->Prop}{pl:Sem Bool}(he:E3 X o ta)(hR:∀C sp,R C sp->xi X.prog X.w X.K X.mg X.base k m C (N0 X.K sp))(hr:rO k X.A) (ht:eval (.Call (.Attribute o m W8) [] [] pos) X.env=(do
   let ov<-eval o X.env
   standAt W8.atName
   let(f,first)<-holding [ov] (getMethod ov m pl)
   callWith pos f first (backTo pos (starEach [] X.env)) (backToKw pos (keywordEach [] X.env))):=by rfl):
  E3 X (.Call (.Attribute o m W8) [] [] pos) (Aw m R ta xu):=PE.mono (KI (R:=Vz X.K R) he (λC sp' ⟨sp,h,z⟩=>by rw[z];exact hR C sp h) hr ht) λY H Q' h=>by
 obtain⟨U,M,Q,hs,hm,ht,k⟩:=JD (t:=xu) Y H Q' h;refine⟨U,M,Q,hs,hm,ht,λv H' d M' x1 x2 x3 x4=>?_⟩;obtain⟨a,C,dx,fs,sp,e1,e2,e3,e4,δ',W9,Q'',y1,y2,y3,y4⟩:=k v H' d M' x1 x2 x3 x4;exact⟨a,C,dx,fs,sp,e1,e2,e3,e4,y4 [] H' [] W9 .nil y2 .refl y3⟩
structure FX(K:qh)(H1:Hp)(J:It)(ds:List D)(ok:Mp->Prop):Prop where
 go:∀i H M,i<ds.length->HM K H M->ok M->qI K H1 H->J.go i H
 oH:∀i d H M x H',ds[i]?=some d->HM K H M->ok M->qI K H1 H->J.oH i H x H'->rE K H' d x/\HM K H' M/\qI K H H'
 stop:∀H M,HM K H M->ok M->qI K H1 H->J.stop ds.length H
abbrev NY:=uY->Mp->(T0 D->(Mp->Prop)->Mp->Prop)->Prop
def WC(K:qh)(wi:NY):TI:=λY H R'=>C8 λU M R=>yP K H Y U/\HM K H M/\wi U M R/\∀J H1 ds ok M1,FX K H1 J ds ok->HM K H1 M1->qI K H H1->ok M1->R ds ok M1->R' J H1
def I3(X:Cx)(tg iter:Expr)(wi:NY):Prop:=PI X tg iter (WC X.K wi)
def PI.mono{t t':TI}(h:PI X tg e t)(m:∀Y H Q,t' Y H Q->t Y H Q):PI X tg e t':=λW5 s Y H Q I q=>h W5 s Y H Q I (m Y H Q q)
variable {H1:Hp}
def Lh:FX K H1 (Vf K a) ds (λM=>oR M a=some ds) where
 go:=λi H M hi hm ok _=>by obtain⟨xs,h1,h2,_⟩:=qr hm ok;obtain⟨x,e,_⟩:=h2.get (cV hi);exact⟨xs,x,h1,e⟩
 oH:=λi d H M x H' hd hm ok _ y=>by obtain⟨xs,h1,h2,_⟩:=qr hm ok;obtain⟨e,y⟩:=y;subst e;obtain⟨x',e,hx⟩:=h2.get hd;have:=y xs h1;rw[e]at this;cases this;exact⟨hx,hm,.refl⟩
 stop:=λH M hm ok _=>by obtain⟨xs,h1,h2,_⟩:=qr hm ok;exact⟨xs,h1,by rw[h2.length];exact dg _⟩
def O5(h1:uU K H1 a xs)(h2:qe K H1 ds xs):FX K H1 (VI K a) ds (λ_=>True) where
 go:=λi H M hi hm ok e1=>by obtain⟨x,e,_⟩:=h2.get (cV hi);exact⟨xs,x,e1.t _ _ h1,e⟩
 oH:=λi d H M x H' hd hm ok e1 y=>by obtain⟨e,y⟩:=y;subst e;obtain⟨x',e,hx⟩:=h2.get hd;have:=y xs (e1.t _ _ h1);rw[e]at this;cases this;exact⟨hx.mono e1,hm,.refl⟩
 stop:=λH M hm ok e1=>⟨xs,e1.t _ _ h1,by rw[h2.length];exact dg _⟩
def Rw(h1:Qh K H1 a xs)(h2:qe K H1 ds xs):FX K H1 (Vf K a) ds (λ_=>True) where
 go:=λi H M hi hm ok e1=>by obtain⟨x,e,_⟩:=h2.get (cV hi);exact⟨xs,x,(h1.mono e1).sq,e⟩
 oH:=λi d H M x H' hd hm ok e1 y=>by obtain⟨e,y⟩:=y;subst e;obtain⟨x',e,hx⟩:=h2.get hd;have:=y xs (h1.mono e1).sq;rw[e]at this;cases this;exact⟨hx.mono e1,hm,.refl⟩
 stop:=λH M hm ok e1=>⟨xs,(h1.mono e1).sq,by rw[h2.length];exact dg _⟩
def DM{lo:Int}:FX K H1 (UZ lo n) ((List.range n).map λi=>D.int (lo+(i:Nat))) (λ_=>True) where
 go:=λi H M hi hm ok e1=>by
  have z:i<n:=by simpa using hi
  exact z
 oH:=λi d H M x H' hd hm ok e1 y=>by
  obtain⟨e,y⟩:=y;subst e;subst y;have hi:i<n:=by
   have:=(cU.mp hd).1
   simpa using this
  have hd':d=D.int (lo+(i:Nat)):=by rw[dz,iY hi]at hd;exact(df hd).symm
  subst hd';exact⟨.int,hm,.refl⟩
 stop:=λH M hm ok e1=>by show n<=_;simp
variable {scope:Scope}{ix:T0 (Option Nat)}{N':QQQ}{iter XZ:Expr}{XE:T0 Expr}{wi:NY}{g:D9}{tt:Ay}{te:T3}{tg:Expr}
def TV(t:T3):NY:=λU M R=>t U M λx M1=>match x with
 | .tup ds=>R ds (λ_=>True) M1
 | .ref a=>(oR M1 a).elim False λds=>R ds (λM=>oR M a=some ds) M1
 | .rl ds=>R ds (λ_=>True) M1
 | .str z=>R (z.cps.toList.map λc=>D.str ⟨#[c]⟩) (λ_=>True) M1
 | _=>False
def OP{K:qh}:FX K H1 (Wk z) (z.cps.toList.map λc=>D.str ⟨#[c]⟩) (λ_=>True) where
 go:=λi H M hi hm ok _=>by
  show i<z.cps.size
  simpa using hi
 oH:=λi d H M x H' hd hm ok _ y=>by obtain⟨e,c,e1,e2⟩:=y;subst e e2;rw[dz,Array.getElem?_toList,e1]at hd;cases hd;exact⟨.str,hm,.refl⟩
 stop:=λH M hm ok _=>by show _=z.cps.size;simp
def qF{t:T3}(h:E3 X l t)(hc:X.calm=true:=by rfl):I3 X tg l (TV t):=PI.mono (Oi hc h) λY H R' zz=>x7 zz λU M R hs hm ht k=>
 ⟨U,M,_,hs,hm,ht,λv H1 d M1 hd W7 e1 q1=>by
  cases d with
  | tup ds=>obtain⟨a,xs,rfl,h1,h2⟩:=hd.mL;exact .inl ⟨a,rfl,.inr ⟨⟨xs,h1⟩,k _ H1 ds _ M1 (O5 h1 h2) W7 e1 trivial q1⟩⟩
  | ref a=>cases hd.mE;obtain⟨ds,e0,q⟩:=qW q1;obtain⟨xs,h1,h2,_⟩:=qr W7 e0;exact .inl ⟨a,rfl,.inl ⟨⟨xs,h1⟩,k _ H1 ds _ M1 Lh W7 e1 e0 q⟩⟩
  | str z=>exact .inr ⟨z,hd.str_inv,k _ H1 _ _ M1 OP W7 e1 trivial q1⟩
  | rl ds=>obtain⟨a,xs,rfl,h1,h2⟩:=hd.mW;exact .inl ⟨a,rfl,.inl ⟨⟨xs,h1.sq⟩,k _ H1 ds _ M1 (Rw h1 h2) W7 e1 trivial q1⟩⟩
  | _=>exact q1.elim⟩
def QO(t:w9):NY:=λU M R=>t U M λds M1=>match ds with
 | [.int j]=>(-(2 ^ 62)<=j/\j<2 ^ 62)/\R ((List.range j.toNat).map λi=>D.int (0+(i:Nat))) (λ_=>True) M1
 | [.int i,.int j]=>(-(2 ^ 62)<=i/\i<2 ^ 62/\-(2 ^ 62)<=j/\j<2 ^ 62)/\R ((List.range (j - i).toNat).map λn=>D.int (i+(n:Nat))) (λ_=>True) M1
 | _=>False
def vV{a:Expr}{ta:w9}(hg:Gl X "range")(hm:X.mg "range"=none)(ha:A3 X [a] ta)(hs:starEach [a] X.env=[(false,eval a X.env)]:=by rfl):I3 X tg (.Call (.Name "range" p) [a] [] pos) (QO λU M Q=>ta U M λds M1=>ds.length=1/\Q ds M1):=
 PI.mono (KN hg hm ha hs) λY H R' zz=>x7 zz λU M R hs hm ht k=>⟨U,M,_,hs,hm,ht,λvs H1 ds M1 hd W7 e1 q1=>by
  obtain⟨hl,q1⟩:=q1;split at q1
  .obtain⟨v,rfl,hv⟩:=r6 hd;cases hv.int_inv;exact⟨_,rfl,q1.1.1,q1.1.2,k _ H1 _ _ M1 DM W7 e1 trivial q1.2⟩
  .simp at hl
  .exact q1.elim⟩
def Kb{a b:Expr}{ta:w9}(hg:Gl X "range")(hm:X.mg "range"=none)(ha:A3 X [a,b] ta)(hs:starEach [a,b] X.env=[(false,eval a X.env),(false,eval b X.env)]:=by rfl)(Yg:starEach [b] X.env=[(false,eval b X.env)]:=by rfl):
  I3 X tg (.Call (.Name "range" p) [a,b] [] pos) (QO λU M Q=>ta U M λds M1=>ds.length=2/\Q ds M1):=
 PI.mono (Kc hg hm ha hs Yg) λY H R' zz=>x7 zz λU M R hs hm ht k=>⟨U,M,_,hs,hm,ht,λvs H1 ds M1 hd W7 e1 q1=>by
  obtain⟨hl,q1⟩:=q1;split at q1
  .simp at hl
  .obtain⟨v,u,rfl,hv,hw⟩:=A9 hd;cases hv.int_inv;cases hw.int_inv;exact⟨_,_,rfl,q1.1,k _ H1 _ _ M1 DM W7 e1 trivial q1.2⟩
  .exact q1.elim⟩
def ES(g:D9)(tb:xG)(ok:Mp->Prop)(E:GD):T0 D->uY->Mp->Prop
 | [],U,M=>E.nx U M
 | d::r,U,M=>g d U M λδ2 M2=>tb {E with nx:=λδ' M'=>ok M'/\ES g tb ok E r δ' M',ct:=λδ' M'=>ok M'/\ES g tb ok E r δ' M',bk:=E.nx} δ2 M2
def UW(wi:NY)(g:D9)(tb:xG):xG:=λE U M=>wi U M λds ok M1=>ES g tb ok E ds U M1
def uM{tb:xG}(hp:PassesOwn (model X.prog X.w) X.A X.env X.xe)(hc:X.calm=true)(hi:I3 X tg iter wi)(hg:G3 X tg g)(hb:HC X body tb) (hs:∀x,foldedSetIterable iter X.env x=pure x:=by intro _;rfl):S3 X (.For tg iter body [] pos) (UW wi g tb):=PS.mono (Rm hp hc hi hg hb hs) λD' Y H zz=>KR zz λU M E hs hm ht k1 k2 k3 k4=>
 ⟨U,M,_,hs,hm,ht,λJ H1 ds ok M1 S W7 e1 ok1 q1=>by
  refine⟨λi m σ' H'=>m=ds.length - i/\i<=ds.length/\∃δ' M',yP X.K H' σ' δ'/\HM X.K H' M'/\ok M'/\qI X.K H1 H'/\σ'.length=Y.length/\ES g tb ok E (ds.drop i) δ' M',⟨ds.length,by simp,eD _,U,M1,hs.mono e1,W7,ok1,.refl,rfl,by simpa using q1⟩,?_⟩
  rintro i m σ' H' ⟨rfl,hi,δ',M',Zx,YD,Z7,e',l',q'⟩
  by_cases Xg:i<ds.length
  .rw[gG Xg]at q';refine .inr ⟨S.go i H' M' Xg YD Z7 e',λσ2 H2=>∃δ2 M2,yP X.K H2 σ2 δ2/\HM X.K H2 M2/\ok M2/\qI X.K H1 H2/\σ2.length=Y.length/\ES g tb ok E (ds.drop (i+1)) δ2 M2,λσ2 H2 z=>⟨ds.length - (i+1),by omega,rfl,Xg,z⟩,λx H2 y=>?_⟩;obtain⟨hx,Xm,e2⟩:=S.oH i ds[i] H' M' x H2 (cV Xg) YD Z7 e' y;refine⟨ds[i],δ',M',_,hx,Zx.mono e2,Xm,q',λσ3 H3 δ3 M3 x1 x2 x3 x4 x5=>?_⟩;refine⟨δ3,M3,_,x1,x2,x5,λσ4 H4 δ4 M4 y1 y2 y3 y4 y5=>?_,λv H4 d M4 y1 y2 y3 y4=>?_,λσ4 H4 δ4 M4 y1 y2 y3 y4 y5=>?_,λσ4 H4 δ4 M4 y1 y2 y3 y4 y5=>?_⟩
   .exact⟨δ4,M4,y1,y2,y5.1,e'.trans (e2.trans (x3.trans y3)),by rw[y4,x4,l'],y5.2⟩
   .exact k2 v H4 d M4 y1 y2 (e1.trans (e'.trans (e2.trans (x3.trans y3)))) y4
   .exact k1 σ4 H4 δ4 M4 y1 y2 (e1.trans (e'.trans (e2.trans (x3.trans y3)))) (by rw[y4,x4,l']) y5
   .exact⟨δ4,M4,y1,y2,y5.1,e'.trans (e2.trans (x3.trans y3)),by rw[y4,x4,l'],y5.2⟩
  .have e:i=ds.length:=by omega
   subst e;rw[jG]at q';exact .inl ⟨S.stop H' M' YD Z7 e',k1 σ' H' δ' M' Zx YD (e1.trans e') l' q'⟩⟩
def Pv(ix:T0 (Option Nat))(U:uY):uY:=ix.map λo=>o.bind λi=>(U[i]?).join
def Po{K:qh}(h:yP K H Y U):yP K H (Os ix Y) (Pv ix U):=λi d q=>by
 unfold Pv at q;unfold Os;rw[dz]at q ⊢;cases e:ix[i]? with
 | none=>rw[e]at q;cases q
 | some o=>
  rw[e]at q;cases o with
  | none=>cases q
  | some j=>
   have q':(U[j]?).join=some d:=df q;have e4:U[j]?=some (some d):=by
    cases r:U[j]? with
    | none=>rw[r]at q';cases q'
    | some w=>rw[r]at q';exact eO some q'
   obtain⟨v,e5,hv⟩:=h j d e4;refine⟨v,?_,hv⟩;show some ((Y[j]?).join)=some (some v);rw[e5];rfl
def uO(g:D9)(tt:Ay)(te:T3)(ok:Mp->Prop)(Q:DK):T0 D->T0 D->uY->Mp->Prop
 | [],acc,_,M=>acc.length<=sizeLine/\∀p,M p=none->Q (.ref p) (pB M p (.lst acc))
 | d::r,acc,U,M=>acc.length<sizeLine/\g d U M λδ2 M2=>tt δ2 M2 λb M3=>if b=true then te δ2 M3 λy M4=>ok M4/\uO g tt te ok Q r (acc++[y]) δ2 M4 else ok M3/\uO g tt te ok Q r acc δ2 M3
def Nz(ix:T0 (Option Nat))(wi:NY)(g:D9)(tt:Ay)(te:T3):T3:=λU M Q=>wi U M λds ok M1=>uO g tt te ok Q ds [] (Pv ix U) M1
def F3(X:Cx)(XE:T0 Expr)(t:Ay):Prop:=PF X XE (Ti X.K t)
def PF.mono{e:T0 Expr}{t t':TT}(h:PF X e t)(m:∀Y H Q,t' Y H Q->t Y H Q):PF X e t':=λW5 s Y H Q I q=>h W5 s Y H Q I (m Y H Q q)
def Bt:Ay:=λ_ M Q=>Q true M
def rQ:F3 X [] Bt:=PF.mono S9 λY H Q' zz=>x7 zz λU M Q hs hm ht k=>k true H M hm .refl ht
def vP{t:Ay}(h:B3 X c t):F3 X [c] t:=SB h
def Jc:∀Y H Q',lo X.K (Nz ix wi g tt te) Y H Q'->Lm ix (WC X.K wi) (Ve X.K g) (Ti X.K tt) (lo X.K te) Y H Q':=λY H Q' zz=>x7 zz λU M Q hs hm ht k=>
 ⟨U,M,_,hs,hm,ht,λJ H1 ds ok M1 S W7 e1 ok1 q1=>by
  refine⟨λi m ys σ' H'=>m=ds.length - i/\i<=ds.length/\∃δ' M' acc,yP X.K H' σ' δ'/\HM X.K H' M'/\qe X.K H' acc ys/\ok M'/\qI X.K H1 H'/\uO g tt te ok Q (ds.drop i) acc δ' M',⟨ds.length,by simp,eD _,Pv ix U,M1,[],Po (hs.mono e1),W7,.nil,ok1,.refl,by simpa using q1⟩,?_⟩
  rintro i m ys σ' H' ⟨rfl,hi,δ',M',acc,Zx,YD,YI,Z7,e',q'⟩
  by_cases Xg:i<ds.length
  .rw[gG Xg]at q';obtain⟨hz,q'⟩:=q';refine .inr ⟨S.go i H' M' Xg YD Z7 e',by rw[<-YI.length];exact hz,λx H2 y=>?_⟩;obtain⟨hx,Xm,e2⟩:=S.oH i ds[i] H' M' x H2 (cV Xg) YD Z7 e' y;refine⟨ds[i],δ',M',_,hx,Zx.mono e2,Xm,q',λσ3 H3 δ3 M3 x1 x2 x3 x4 x5=>?_⟩;refine⟨δ3,M3,_,x1,x2,x5,λb H4 M4 y2 y3 y5=>?_⟩;cases b with
   | true=>rw[cZ rfl]at y5 ⊢;refine⟨δ3,M4,_,x1.mono y3,y2,y5,λv H5 d M5 z1 z2 z3 z4=>⟨ds.length - (i+1),by omega,rfl,Xg,δ3,M5,acc++[d],x1.mono (y3.trans z3),z2,(YI.mono (e2.trans (x3.trans (y3.trans z3)))).snoc z1,z4.1,e'.trans (e2.trans (x3.trans (y3.trans z3))),z4.2⟩⟩
   | false=>rw[cX dw]at y5 ⊢;exact⟨ds.length - (i+1),by omega,rfl,Xg,δ3,M4,acc,x1.mono y3,y2,YI.mono (e2.trans (x3.trans y3)),y5.1,e'.trans (e2.trans (x3.trans y3)),y5.2⟩
  .have e:i=ds.length:=by omega
   subst e;rw[jG]at q';refine .inl ⟨S.stop H' M' YD Z7 e',by rw[<-YI.length];exact q'.1,λp hp=>?_⟩;have e5:qI X.K H' (upd H' p (.lst ys)):=.new hp;exact k _ _ _ _ .ref (YD.new (c:=.lst acc) hp ⟨_,qa,YI.mono e5⟩) (e1.trans (e'.trans e5)) (q'.2 p (YD.fresh hp))⟩
def qB(hc:X.calm=true)(S:rW X scope ix N')(hi:I3 X tg iter wi)(hg:∀{C s0 H0 ex},G3 (X.comp scope N' C s0 H0 ex) tg g)(ht:∀{C s0 H0 ex},F3 (X.comp scope N' C s0 H0 ex) XE tt)(he:∀{C s0 H0 ex},E3 (X.comp scope N' C s0 H0 ex) XZ te) (hs:∀x,foldedSetIterable iter X.env x=pure x:=by intro _;rfl):E3 X (.ListComp XZ [⟨tg,iter,XE,0⟩] scope pos) (Nz ix wi g tt te):=PE.mono (PR (g:=Ve X.K g) (tt:=Ti X.K tt) (te:=lo X.K te) hc S hi (λ_ _ _ _=>hg) (λ_ _ _ _=>ht) (λ_ _ _ _=>he) hs) Jc
def wz{i:Nat}{x:Str}{px YR:Pos}(hN:X.N.Nodup)(ZY:X.N[i]?=some x)(hx:LR X.env.scope x)(hc:X.calm=true)(S:rW X scope ix N')(hi:I3 X tg iter wi)(hg:∀{C s0 H0 ex},G3 (X.comp scope N' C s0 H0 ex) tg g)(ht:∀{C s0 H0 ex},F3 (X.comp scope N' C s0 H0 ex) XE tt) (he:∀{C s0 H0 ex},E3 (X.comp scope N' C s0 H0 ex) XZ te) (YC:swapsWith (.ListComp XZ [⟨tg,iter,XE,0⟩] scope pos) (some (.Name x px)) YR.line X.env=pure true:=by rfl)
  (hf:Ln X x:=by first|exact .inl rfl|exact .inr rfl|assumption) (hs:∀x,foldedSetIterable iter X.env x=pure x:=by intro _;rfl):
  S3 X (.Assign [.Name x px] (.ListComp XZ [⟨tg,iter,XE,0⟩] scope pos) YR) (Cz (Nz ix wi g tt te) (uw i)):=PS.nJ (HS (g:=Ve X.K g) (tt:=Ti X.K tt) (te:=lo X.K te) hN ZY hx hc S hi (λ_ _ _ _=>hg) (λ_ _ _ _=>ht) (λ_ _ _ _=>he) YC hf hs) λD' Y H hl zz=>KR zz λU M D hs hm ht k1 k2 k3 k4=>
 Jc Y H _ ⟨U,M,_,hs,hm,ht,λv H1 d M1 hd W7 e1 q1=>k1 _ H1 _ M1 ((hs.mono e1).set hd (by rw[hl];exact(cU.mp ZY).1)) W7 e1 (by simp) q1⟩
def WH(hr:rO k A):A.units+9<cLine:=by have:=hr.units;omega
def Hw(sc:Scope)(N:QQQ)(scope:Scope)(ix:T0 (Option Nat))(N':QQQ):Bool:=
 (scope.kind==.function)&&(scope.names.all λy=>!(y.2==.cell))&&(scope.names.all λy=>!(y.2==.local)||(scope.names.lookup y.1==some .local))&&
 (scope.names.all λy=>!(y.2==.free)||(sc.names.lookup y.1==some .cell)||(sc.names.lookup y.1==some .free))&&(ix.length==N'.length)&&
 ((ix.zip N').all λp=>match p.1 with|none=>true|some i=>(N[i]?==some p.2)&&(scope.names.lookup p.2==some .free))
def TB{X:Cx}(h:Hw X.env.scope X.N scope ix N'=true):rW X scope ix N':=by
 unfold Hw at h;simp only[dQ]at h;obtain⟨⟨⟨⟨⟨h1,h2⟩,h3⟩,h4⟩,h5⟩,h6⟩:=h;refine⟨by simpa using h1,λy hy e=>?_,λy hy e=>?_,λy hy e=>?_,by simpa using h5,λj i x e1 e2=>?_⟩
 .have:=eC.mp h2 y hy;rw[e]at this;simp at this
 .have:=eC.mp h3 y hy;rw[e]at this
  simpa using this
 .have:=eC.mp h4 y hy;rw[e]at this
  simpa using this
 .have hm:(some i,x)∈ix.zip N':=by
   have:(ix.zip N')[j]?=some (some i,x):=by rw[ij];exact⟨e1,e2⟩
   exact fm this
  have:=eC.mp h6 _ hm
  simpa using this
section
variable {a b:Expr}
def JC(op XY:CmpOp)(ta tb tc:T3):T3:=λU M Q=>ta U M λx M1=>tb U M1 λy M2=>Pp op x y M2 λz M3=>match z with
 | .bl k=>if k=true then tc U M3 λw M4=>Pp XY y w M4 Q else Q (.bl false) M3
 | _=>False
def ug{op XY:CmpOp}(hu:X.A.units+9<cLine)(ha:E3 X a ta)(hb:E3 X b tb)(hc:E3 X c tc)(hmk:lastMarks [op,XY] [b,c]=false:=by rfl):
  E3 X (.Compare a [op,XY] [b,c] pos) (JC op XY ta tb tc):=PE.mono (NI (JN op hu) (JN XY hu) ha hb hc hmk) λY H Q' zz=>x7 zz λU M Q hs hm ht k=>
 ⟨U,M,_,hs,hm,ht,λv H1 x M1 hx W7 e1 q1=>⟨U,M1,_,hs.mono e1,W7,q1,λu H2 y M2 hy Xm e2 q2=>⟨x,y,M2,_,hx.mono e2,hy,Xm,q2,λw H3 z M3 hz X4 e3 q3=>by
  cases z with
  | bl c=>
   refine⟨c,hz.mI,?_⟩;cases c with
   | true=>refine(cZ rfl).mpr ⟨U,M3,_,hs.mono (e1.trans (e2.trans e3)),X4,(cZ rfl).mp q3,λw' H4 d M4 hd hm4 e4 q4=>⟨y,d,M4,Q,hy.mono (e3.trans e4),hd,hm4,q4,vG (e1.trans (e2.trans (e3.trans e4))) k⟩⟩
   | false=>exact(cX dw).mpr (k _ H3 _ M3 .bl X4 (e1.trans (e2.trans e3)) ((cX dw).mp q3))
  | _=>exact q3.elim⟩⟩⟩
def GG{op XY:CmpOp}(hu:X.A.units+9<cLine)(ha:E3 X a ta)(hb:E3 X b tb)(hc:E3 X c tc)(hmk:lastMarks [op,XY] [b,c]=false:=by rfl):
  B3 X (.Compare a [op,XY] [b,c] pos) (b3 (JC op XY ta tb tc)):=PT.mono (Me (JN op hu) (JN XY hu) ha hb hc hmk) λY H Q' zz=>x7 zz λU M Q hs hm ht k=>
 ⟨U,M,_,hs,hm,ht,λv H1 x M1 hx W7 e1 q1=>⟨U,M1,_,hs.mono e1,W7,q1,λu H2 y M2 hy Xm e2 q2=>⟨x,y,M2,_,hx.mono e2,hy,Xm,q2,λw H3 z M3 hz X4 e3 q3=>by
  cases z with
  | bl c=>
   refine⟨c,hz.mI,?_⟩;cases c with
   | true=>
    refine(cZ rfl).mpr ⟨U,M3,_,hs.mono (e1.trans (e2.trans e3)),X4,(cZ rfl).mp q3,λw' H4 d M4 hd hm4 e4 q4=>⟨y,d,M4,_,hy.mono (e3.trans e4),hd,hm4,q4,λw5 H5 d5 M5 hd5 hm5 e5 q5=>?_⟩⟩;cases d5 with
    | bl c5=>exact⟨c5,hd5.mI,k c5 H5 M5 hm5 (e1.trans (e2.trans (e3.trans (e4.trans e5)))) q5⟩
    | _=>exact q5.elim
   | false=>exact(cX dw).mpr ⟨false,rfl,k false H3 M3 X4 (e1.trans (e2.trans e3)) ((cX dw).mp q3)⟩
  | _=>exact q3.elim⟩⟩⟩
structure WQ(K:qh)(C:Addr):Prop where
 ha:W.findIn K (.ref C) "__class__"=some (some (.builtin "object.__class__"))
 hn:W.specialIn K (.builtin "object.__class__") "__get__"=some (some (.builtin "getset_descriptor.__get__"))
 htk:W.takesIn K (.builtin "object.__class__")=some true
 hm:W.mroIn K C (.type "object")=some true
def GR:T0 D->Option (T0 Bool)
 | []=>some []
 | .bl b::r=>(GR r).map (b::·)
 | _::_=>none
theorem EL{K:qh}:∀{ds:T0 D} {bs:T0 Bool} {xs:T0 V} {us:T0 Vl},GR ds=some bs->qe K H ds xs->qx xs us->us=bs.map Value.bool
 | [],bs,xs,us,e,h,r=>by cases e;have:=h.nil_inv;subst this;cases r;rfl
 | d::ds,bs,xs,us,e,h,r=>by
  cases d with
  | bl b=>
   obtain⟨y,ys,rfl,h1,h2⟩:=h.inv;cases h1.mI;unfold GR at e;cases q:GR ds with
   | none=>rw[q]at e;cases e
   | some cs=>
    rw[q]at e;cases e;cases r with
    | cons r1 r2=>cases r1;rw[EL q h2 r2];rfl
  | _=>cases e
def UF(ds:T0 D)(M:Mp)(Q:DK):Prop:=match ds with
 | [.ref a]=>(oR M a).elim False λes=>(GR es).elim False λbs=>Q (.bl (bs.all id)) M
 | _=>False
def EF(hc:X.calm=true):C3 X (.builtin "all") UF:=by
 intro W5 s Y H vs us Q' I rv h;obtain⟨ds,M,Q,hd,hm,q,k⟩:=h;unfold UF at q;split at q
 .rename_i a;obtain⟨v,rfl,hv⟩:=r6 hd;obtain⟨es,e0,q⟩:=qW q;obtain⟨bs,e1,q⟩:=qW q;cases hv.mE;obtain⟨u,rfl,ru⟩:=ye rv;cases ru;obtain⟨xs,h1,h2,_⟩:=qr hm e0;obtain⟨its,r,pl,hz⟩:=I.list h1;have Z8:=EL e1 h2 r;subst Z8;have Xt:a≠s.heap.objs.size:=by obtain⟨o,_,e,_⟩:=pl;exact dC (dq e)
  refine call_all_walk (gT pl.isList ?_);refine⟨s.heap.objs.size,_,_,_,_,_,λi=>(bs[i]?).getD true,rfl,kl (A:=X.A.in1) (I.ok.hd hc) _ a Xt (bs.map Value.bool).toArray,⟨⟨_,dE _ rfl,rfl,rfl⟩,?_⟩,λi v s' Q E hP hQ=>?_,λh' tk hk=>?_⟩
  .obtain⟨o,n,e,c,d,q⟩:=pl;exact⟨o,cY _ e,c,n,q⟩
  .simp only[iL,dz]at hP;cases e2:bs[i]? with
   | none=>rw[e2]at hP;cases hP
   | some b=>rw[e2]at hP;cases hP;have hQ:Q ((bs[i]?).getD true) s':=hQ;rw[e2]at hQ;exact fj hQ
  .have ea:(List.range (bs.map Value.bool).toArray.size).all (λi=>(bs[i]?).getD true)=bs.all id:=by
    rw[dh,cS];rw[gi,eC,eC];constructor
    .intro z b hb;obtain⟨i,hi,e⟩:=gL hb;have:=z i (gc.mpr hi);rw[cV hi,e]at this;exact this
    .intro z i hi;have YJ:=gc.mp hi;rw[cV YJ];exact z _ (hZ YJ)
   rw[ea];refine⟨.bl (bs.all id),H,?_,rfl,k _ _ _ _ .bl hm .refl q⟩;exact I.kept (h':=h') (t':=tk) λb o e=>hk b o (by simpa using dC (dq e)) (cY _ e)
 .exact q.elim
def AK(x:D):T0 D->Option Nat
 | []=>none
 | d::r=>if Pe d x=true then some 0 else(AK x r).map (·+1)
theorem JI{K:qh}{e:D}{w:V}(g:rE K H e w)(fe:uQ e=true):∀{ds:T0 D} {xs:T0 V} {us:T0 Vl} {j:Nat},qe K H ds xs->qx xs us->ds.all uQ=true->AK e ds=some j->
  ∃h:j<us.length,EY w us[j]=true/\∀m (hm:m<us.length),m<j->EY w us[m]=false
 | [],_,_,_,_,_,_,q=>by cases q
 | d::ds,_,us,j,h,r,fl,q=>by
  obtain⟨y,ys,rfl,h1,h2⟩:=h.inv;rw[eU,dQ]at fl;cases r with
  | @cons _ u _ us' r1 r2=>
   have eu:EY w u=Pe d e:=by rw[HB r1 (zq h1 fl.1),IH h1 g fl.1 fe]
   unfold AK at q;by_cases hq:Pe d e=true
   .rw[cZ hq]at q;cases q;exact⟨by simp,by simpa [eu]using hq,λm _ hm=>absurd hm (Nat.not_lt_zero m)⟩
   .rw[cX hq]at q;cases q2:AK e ds with
    | none=>rw[q2]at q;cases q
    | some j'=>
     rw[q2]at q;cases q;obtain⟨hl,e1,e2⟩:=JI g fe h2 r2 fl.2 q2;refine⟨by simpa using hl,by simpa using e1,λm hm Xg=>?_⟩;cases m with
     | zero=>simpa [eu]using hq
     | succ m=>simpa using e2 m (by simpa using hm) (by have z:m+1<j'+1:=Xg;omega)
def Ru(x:D)(ds:T0 D)(M:Mp)(Q:DK):Prop:=match x,ds with
 | .ref a,[y]=>(oR M a).elim False λes=>uQ y=true/\es.all uQ=true/\(AK y es).elim False λj=>Q (.int (j:Nat)) M
 | _,_=>False
def M3(X:Cx)(id:String)(r:D->T0 D->Mp->DK->Prop):Prop:=WA X id λvx vs H Q'=>∃x ds M Q,rE X.K H x vx/\qe X.K H ds vs/\HM X.K H M/\r x ds M Q/\Up X.K H Q' Q
def LC:M3 X "list.index" Ru:=by
 intro W5 s Y H vx vs v us Q' I rx rv h;obtain⟨x,ds,M,Q,hx,hd,hm,q,k⟩:=h;unfold Ru at q;split at q
 .rename_i a y;obtain⟨es,e0,f1,f2,q⟩:=qW q;obtain⟨j,e1,q⟩:=qW q;cases hx.mE;cases rx;obtain⟨w,rfl,hw⟩:=r6 hd;obtain⟨u,rfl,ru⟩:=ye rv;obtain⟨xs,h1,h2,rd⟩:=qr hm e0;obtain⟨hz,its,n,r,g⟩:=rd.ok I.mM;obtain⟨hl,p1,p2⟩:=JI hw f1 h2 r f2 e1;have hlz:its.length<=sizeLine:=by rw[<-r.length];exact hz
  have h63:=yy;refine js F.slot_list_index ⟨_,g,rfl⟩ F.entry_list_index (F.args_list_index_2 _ _) (SeqAt.list_indexAt a its.toArray n none #[] u (EY w) j (by simpa using hl) (by omega) (by simpa using p1) λm hm Xg=>by simpa using p2 m (by simpa using hm) Xg) ⟨g,?_,?_⟩
  .intro z hz';exact vT ru (zq hw f1) r (FG h2 f2) z (by simpa using hz')
  .exact⟨.int (j:Nat),H,I.tok _,⟨_,rfl⟩,k _ _ _ _ .int hm .refl q⟩
 .exact q.elim
def QF(M:Mp):D->Prop
 | .ref a=>(oR M a).isSome=true
 | _=>False
def Vx(r:D->T0 D->Mp->DK->Prop)(to:T3)(t:w9):T3:=λU M Q=>to U M λx M1=>QF M1 x/\t U M1 λds M2=>r x ds M2 Q
def RJ{K:qh}{x:D}(hm:HM K H M)(h:rE K H x v)(l:QF M x):Ws K "list" v H:=by
 cases x with
 | ref a=>cases h.mE;obtain⟨ds,e⟩:=jA.mp (show(oR M a).isSome=true from l);obtain⟨xs,h1,_⟩:=qr hm e;exact .inl ⟨rfl,xs,h1⟩
 | _=>exact l.elim
def QZ{id:String}(slot:Slot "list" name id)(hty:typeOf (.builtin id)=pure (.type "method_descriptor"))(hm:M3 X id r)(ho:E3 X o ta)(ha:A3 X (e::es) t) (Xi:attributeBase o name X.env (eval o X.env)=eval o X.env:=by rfl)
  (Yl:((backTo pos (starEach (e::es) X.env)).all (λx=>!x.1)&&(backToKw pos (keywordEach [] X.env)).all (λx=>x.1.isSome)
   &&decide ((e::es).length+([]:T0 Keyword).length+(if ([]:T0 Keyword).isEmpty then 0 else 1)<30))=true:=by rfl)
  (Xs:(W8.endLine==pos.line)=true:=by rfl) (hs:A7 X e es:=by rfl) (Xn:CP X pos es:=by rfl):
  E3 X (.Call (.Attribute o name W8) (e::es) [] pos) (Vx r ta t):=PE.mono (Tv PySem.F.plainAttrs_list slot hty hm ho ha Xi Yl Xs hs Xn) λY H Q' zz=>x7 zz λU M Q hs hm ht k=>
 ⟨U,M,_,hs,hm,ht,λv H1 x M1 hx W7 e1 q1=>⟨RJ W7 hx q1.1,U,M1,_,hs.mono e1,W7,q1.2,λvs H2 ds M2 Yk Xm e2 q2=>⟨x,ds,M2,Q,hx.mono e2,Yk,Xm,q2,vG (e1.trans e2) k⟩⟩⟩
def xt(ho:E3 X o ta)(ha:A3 X (e::es) t) (Xi:attributeBase o "index" X.env (eval o X.env)=eval o X.env:=by rfl)
  (Yl:((backTo pos (starEach (e::es) X.env)).all (λx=>!x.1)&&(backToKw pos (keywordEach [] X.env)).all (λx=>x.1.isSome)
   &&decide ((e::es).length+([]:T0 Keyword).length+(if ([]:T0 Keyword).isEmpty then 0 else 1)<30))=true:=by rfl)
  (Xs:(W8.endLine==pos.line)=true:=by rfl) (hs:A7 X e es:=by rfl) (Xn:CP X pos es:=by rfl):
  E3 X (.Call (.Attribute o "index" W8) (e::es) [] pos) (Vx Ru ta t):=QZ PySem.F.slot_list_index PySem.F.type_list_index LC ho ha Xi Yl Xs hs Xn
structure Nq(K:qh)(C:Addr)(m:Str)(f:Addr):Prop where
 hg:W.specialIn K (.ref C) "__getattribute__"=some (some (.builtin "type.__getattribute__"))
 rd:W.readsIn K C (.type "type")=true
 fc:W.findCls K (.ref C) (.type "type") m=some (.val (.ref f))
def P5{sp:Sp}{t:TA}{pl:Sem Bool}(cm:Nq X.K C m f)(F:wZ X.prog X.w X.K X.mg X.base NW k f fd ps sp)(hr:rO k X.A)(hg:Gl X x)(hm:X.mg x=some (.ref C))(hk:W.keepIn X.K (.ref f)=true)(hb:uG X.K fd ps [])(ha:PA X (e::es) t) (Xp:zu x:=by decide) (Xu:A7 X e es:=by rfl) (Xl:CP X pos es:=by rfl)
  (ht:eval (.Call (.Attribute (.Name x p) m W8) (e::es) [] pos) X.env=(do
   let ov<-eval (.Name x p) X.env
   standAt W8.atName
   let(f,first)<-holding [ov] (getMethod ov m pl)
   callWith pos f first (backTo pos (starEach (e::es) X.env)) (backToKw pos (keywordEach [] X.env))):=by rfl):
  PE X (.Call (.Attribute (.Name x p) m W8) (e::es) [] pos) (λY H Q=>t Y H λvs H1=>sp vs H1 Q E0):=by
 intro W5 s Y H Q I h;refine jU (pl:=pl) (wD I hg hm ?_ Xp) ht;refine W.method_cls I.nj cm.hg (W.cls_value I.nj cm.rd cm.fc rfl ?_);refine iN (first:=[]) (h₀:=X.base) I.ok.mod.oi hk (sf (ha pos W5 _ Y H _ (I.tok _) h) λus s2 zz=>x5 zz λvs H2 I2 r q2=>⟨I2.nj,?_⟩) Xu Xl;exact EQ F hr hb .nil (GT (X:=X)) I2 r (by rw[eY];exact q2)
def OD{pl:Sem Bool}(cm:Nq X.K C m f)(F:Tn X.prog X.w X.K X.mg X.base k f fd ps sp)(hr:rO k X.A)(hg:Gl X x)(hm:X.mg x=some (.ref C))(hk:W.keepIn X.K (.ref f)=true)(hb:uG X.K fd ps [])(ha:A3 X (e::es) t) (Xp:zu x:=by decide) (Xu:A7 X e es:=by rfl) (Xl:CP X pos es:=by rfl)
  (ht:eval (.Call (.Attribute (.Name x p) m W8) (e::es) [] pos) X.env=(do
   let ov<-eval (.Name x p) X.env
   standAt W8.atName
   let(f,first)<-holding [ov] (getMethod ov m pl)
   callWith pos f first (backTo pos (starEach (e::es) X.env)) (backToKw pos (keywordEach [] X.env))):=by rfl):
  E3 X (.Call (.Attribute (.Name x p) m W8) (e::es) [] pos) (DS sp t):=PE.mono (P5 cm F hr hg hm hk hb ha Xp Xu Xl ht) λY H Q' zz=>x7 zz λU M Q hs hm ht k=>
 ⟨U,M,_,hs,hm,ht,λvs H1 ds M1 hd W7 e1 q1=>⟨ds,M1,Q,hd,W7,q1,vG e1 k⟩⟩
def ql:bootBuiltins "len"=some (.builtin "len"):=by decide+kernel
def KY:bootBuiltins "min"=some (.builtin "min"):=by decide+kernel
def RS:bootBuiltins "max"=some (.builtin "max"):=by decide+kernel
def Fz:bootBuiltins "all"=some (.builtin "all"):=by decide+kernel
def rX:bootBuiltins "tuple"=some (.type "tuple"):=by decide+kernel
def sj:bootBuiltins "list"=some (.type "list"):=by decide+kernel
def Fb:bootBuiltins "dict"=some (.type "dict"):=by decide+kernel
def E4:bootBuiltins "enumerate"=some (.type "enumerate"):=by decide+kernel
def R1:bootBuiltins "zip"=some (.type "zip"):=by decide+kernel
end
theorem _root_.L2.Inv.drawn{ch:QXQ}{T:Addr}{xs:T0 V}{h':Heap}{tk:Nat}(I:Inv X W5 Y H s)(X6:∀b∈ch,AC X W5 H b)(k:∀b o,b∉ch->s.heap.get? b=some o->h'.get? b=some o)(hT:s.heap.objs.size<=T)(hx:xs.length<=sizeLine) (rv:qx xs its) (ht:Fd h' T its.toArray):Inv X W5 Y (upd H T (.tup xs)) {s with heap:=h',toks:=tk}:=by
 have Zk:H T=none:=I.mM.fresh hT;have nT:∀b o,s.heap.get? b=some o->b≠T:=λb o e=>dC (dJ (dq e) hT);refine I.step (g':=s.gens) (d':=s.drawn) (ch:=ch) (λb hb=>⟨(X6 b hb).2.2.2.1,(X6 b hb).2.1,(X6 b hb).2.2.2.2.1,(X6 b hb).2.2.2.2.2⟩) (λb o _ _ hc e _=>k b o hc e) (λb o _ _ hc e _=>⟨o.slots,k b o hc e⟩) (λb o _ e n=>by rw[pQ (nT b o e)];exact n)
  (λb o hc e=>⟨o,k b o hc e⟩) (λb ys e=>by rw[pQ (qM e Zk)];exact e) (λb o u e=>by rw[pQ (qM e Zk)];exact e) (λb ps e=>⟨#[],by rw[pQ (qM e Zk),e];simp⟩) (λm hm=>?_) (λb u e=>?_) I.bare
 .obtain⟨o,es,ep,ho,r⟩:=hm;exact⟨o,es,ep,k _ o (λz=>(X6 _ z).2.1 rfl) ho,r⟩
 .by_cases hb:b=T
  .subst hb;rw[qa]at e;cases e;exact⟨hx,its,rv,ht⟩
  .rw[pQ hb]at e;refine(I.mM b u e).ni (λc v hc q=>k c v (λz=>?_) q) (λc q=>by rw[pQ (qM q Zk)];exact q) (λc ys q=>by rw[pQ (qM q Zk)];exact q);have n:=(X6 c z).1;rcases hc with y|y
   .rw[y,e]at n;cases n
   .rw[y]at n;cases n
def Wl(K:qh)(a:Addr):It:=
 ⟨λi H=>∃xs x,yU K H a xs/\xs[i]?=some x,λi H x H'=>∃p y,x=.ref p/\H p=none/\H'=upd H p (.tup [.int (i:Nat),y])/\∀xs,yU K H a xs->xs[i]?=some y,λi H=>∃xs,yU K H a xs/\xs.length<=i⟩
def KJ{K:qh}(a e it:Addr)(hei:e≠it):F' P w K (.Tuple XF n tp) (Wl K a) [e,it] e (λi h=>(∃old,IsEnum h e it (i:Nat) old)/\h.IsListIter it a i) where
 mem:=by simp
 obj:=λi h st b hb=>by
  obtain⟨⟨old,he⟩,o,e1,c,d⟩:=st;rcases de.mp hb with rfl|hb
  .exact⟨_,he,λv z=>by cases z⟩
  .rw[dv.mp hb];exact⟨o,e1,λv z=>by rw[d]at z;cases z⟩
 keep:=λi h h' st k=>by obtain⟨⟨old,he⟩,hi⟩:=st;exact⟨⟨old,k e (by simp) _ he⟩,hi.at λo q=>k it (by simp) o q⟩
 item:=by
  intro X hP hw hK hc i W5 s Y H E I hf st hg;subst hP hw hK;obtain⟨xs,x,hq,hx⟩:=hg;obtain⟨its,rv,p,hz⟩:=I.list hq;obtain⟨u,hu,ru⟩:=rv.get hx;obtain⟨⟨old,he⟩,hi⟩:=st;refine wpAny_pyNext_enum_item he hi p.isList (x:=u) (by simpa using hu) hei λh1 ho XW hT hsz hk=>?_;refine⟨_,rfl,wpAny_letOwnedTupleGo_enum ho λh2 he2 Yg=>?_⟩;have helt:e<s.heap.objs.size:=dq he;have hilt:it<s.heap.objs.size:=by obtain⟨o,q,_⟩:=hi;exact dq q
  have kk:∀b o,b∉[e,it]->s.heap.get? b=some o->h2.get? b=some o:=λb o hb q=>(Yg.2 b λz=>hb (by simp[z])).trans (hk b o (λz=>hb (by simp[z])) (λz=>hb (by simp[z])) q);have hT2:h2.get? s.heap.objs.size=some {cls:=.type "tuple",data:=.seq #[.int (i:Nat) s.toks,u]}:=(Yg.2 _ (gI helt)).trans hT;have Zk:H s.heap.objs.size=none:=I.mM.fresh (dg _);have I2:=I.drawn (ch:=[e,it]) (T:=s.heap.objs.size) (xs:=[.int (i:Nat),x]) (its:=[.int (i:Nat) s.toks,u]) (h':=h2) (tk:=s.toks+1) hf kk (dg _) (by show 2<=sizeLine;decide) (.cons ⟨_,rfl⟩ (.cons ru .nil)) ⟨_,hT2,rfl,⟨_,rfl⟩,rfl⟩;refine⟨.ref s.heap.objs.size,_,I2,rfl,⟨_,x,rfl,Zk,rfl,λys hy=>by rw[I.nK hy hq];exact hx⟩,⟨⟨_,by simpa using he2⟩,XW.extBut Yg.extBut (dI hei)⟩,λb hb=>?_⟩;have X0:b<s.heap.objs.size:=by
   rcases de.mp hb with z|z
   .rw[z];exact helt
   .rw[dv.mp z];exact hilt
  rw[pQ (dC X0)];exact(hf b hb).1
 done:=by intro X hP hw hK hc i W5 s Y H E I hf st hg;subst hP hw hK;obtain⟨xs,hq,hx⟩:=hg;obtain⟨its,rv,p,hz⟩:=I.list hq;obtain⟨⟨old,he⟩,hi⟩:=st;have hl:=rv.length;obtain⟨f0,f1,f2,f3,f4,f5⟩:=hf it (by simp);exact wpAny_pyNext_enum_end (I.ok.hd hc) he hi p.isList (by simp;omega) λh' eb=>⟨rfl,I.turned (t':=s.toks) (λb o hb q=>eb b o hb q) f0 f1 f3 f4 f5⟩
 self:=λ_ _ _ _ _ st h=>by obtain⟨⟨old,he⟩,_⟩:=st;exact ls he h
variable {tp:Pos}{XF:T0 Expr}{n:Nat}
def Oe{a:Expr}{ta:TA}(hg:Gl X "enumerate")(hm:X.mg "enumerate"=none)(ha:PA X [a] ta)(hs:starEach [a] X.env=[(false,eval a X.env)]:=by rfl):
  PI X (.Tuple XF n tp) (.Call (.Name "enumerate" p) [a] [] pos) (λY H R=>ta Y H λvs H1=>∃l,vs=[.ref l]/\(∃xs,yU X.K H1 l xs)/\R (Wl X.K l) H1):=by
 intro W5 s Y H R I h;refine Call_ (wB I hg hm E4 (fJ (sf (ha pos W5 s Y H _ I h) λus s1 zz=>x5 zz λvs H1 I1 r1 q1=>?_) hs rfl));obtain⟨l,e,⟨xs,hq⟩,q⟩:=q1;subst e;obtain⟨u,rfl,ru⟩:=ye r1;cases ru;obtain⟨its,rv,pl,hz⟩:=I1.list hq;refine call_enumerate_list pl.isList λh' he hi hsz hk=>?_;refine ls he ?_;have I2:Inv X W5 Y H1 {s1 with heap:=h'}:=I1.kept (t':=s1.toks) hk;refine⟨s1.heap.objs.size+1,[s1.heap.objs.size+1,s1.heap.objs.size],_,_,H1,rfl,I2,KJ l _ _ (Nat.succ_ne_self _),⟨⟨_,he⟩,hi⟩,λb hb=>?_,q⟩;have X0:s1.heap.objs.size<=b:=by
  rcases de.mp hb with z|z
  .rw[z];exact gS _
  .rw[dv.mp z];exact dg _
 exact I1.nN X0 (I1.mM.fresh X0)
def ut:Nat->T0 D->T0 D
 | _,[]=>[]
 | i,d::r=>.tup [.int (i:Nat),d]::ut (i+1) r
theorem zr:∀{ds:T0 D} {i j:Nat},(ut j ds)[i]?=(ds[i]?).map λd=>D.tup [.int ((j+i:Nat):Int),d]
 | [],i,j=>by simp[ut]
 | d::r,0,j=>by simp[ut]
 | d::r,i+1,j=>by show(ut (j+1) r)[i]?=_;rw[zr];simp only[List.getElem?_cons_succ];rw[show j+1+i=j+(i+1)by omega]
theorem uZ:∀{ds:T0 D} {j:Nat},(ut j ds).length=ds.length
 | [],j=>rfl
 | d::r,j=>by simp[ut,uZ]
def Mm{K:qh}:FX K H1 (Wl K a) (ut 0 ds) (λM=>oR M a=some ds) where
 go:=λi H M hi hm ok _=>by rw[uZ]at hi;obtain⟨xs,h1,h2,_⟩:=qr hm ok;obtain⟨x,e,_⟩:=h2.get (cV hi);exact⟨xs,x,h1,e⟩
 oH:=λi d H M x H' hd hm ok _ y=>by
  obtain⟨xs,h1,h2,_⟩:=qr hm ok;obtain⟨p,z,rfl,hp,rfl,y⟩:=y;rw[zr]at hd;cases e:ds[i]? with
  | none=>rw[e]at hd;cases hd
  | some d'=>rw[e]at hd;cases hd;obtain⟨x',e',hx⟩:=h2.get e;have w1:=y xs h1;rw[e']at w1;have w2:x'=z:=df w1;subst w2;have ex:qI K H (upd H p (.tup [.int (i:Nat),x'])):=.new hp;refine⟨.tup (.of qa) (.cons (by rw[mo];exact .int) (.cons (hx.mono ex) .nil)),hm.add hp,ex⟩
 stop:=λH M hm ok _=>by obtain⟨xs,h1,h2,_⟩:=qr hm ok;exact⟨xs,h1,by rw[uZ,h2.length];exact dg _⟩
def Tf(t:w9):NY:=λU M R=>t U M λds M1=>match ds with
 | [.ref a]=>(oR M1 a).elim False λes=>R (ut 0 es) (λM=>oR M a=some es) M1
 | _=>False
def wK{a:Expr}{ta:w9}(hg:Gl X "enumerate")(hm:X.mg "enumerate"=none)(ha:A3 X [a] ta)(hs:starEach [a] X.env=[(false,eval a X.env)]:=by rfl):I3 X (.Tuple XF n tp) (.Call (.Name "enumerate" p) [a] [] pos) (Tf ta):=
 PI.mono (Oe hg hm ha hs) λY H R' zz=>x7 zz λU M R hs hm ht k=>⟨U,M,_,hs,hm,ht,λvs H1 ds M1 hd W7 e1 q1=>by
  split at q1
  .obtain⟨v,rfl,hv⟩:=r6 hd;cases hv.mE;obtain⟨es,e0,q⟩:=qW q1;obtain⟨xs,h1,h2,_⟩:=qr W7 e0;exact⟨_,rfl,⟨xs,h1⟩,k _ H1 _ _ M1 Mm W7 e1 e0 q⟩
  .exact q1.elim⟩
variable {prog:Pg}{A:Ar}{E:QQX}
def HH{it t:Addr}{i:Nat}{its:Array Vl}{x:Vl}{Q:QQX}(hi:s.heap.IsTupleIter it t i)(ht:s.heap.IsTuple t its)(hx:its[i]?=some x) (hQ:∀g,g.IsTupleIter it t (i+1)->Heap.SameBut it s.heap g->Q x {s with heap:=g}):wpAny (model prog w) A (Builtin.SmallTypes.nextOf (.ref it)) Q E s:=by
 obtain⟨ob,e1,e2,e3⟩:=id hi;obtain⟨ot,e4,_,nt,e5⟩:=ht;unfold Builtin.SmallTypes.nextOf;refine cT (fL (name:=Str.ofString "__next__") hi.typeIs gC (fR gC hi.typeIs ji ?_ (jd _)));show wpAny (model prog w) _ (field (.ref it) 0>>=_) _ _ s;refine cT (fi e1 e3 (x:=.ref t) rfl ?_);show wpAny (model prog w) _ (if (Value.ref t==Value.none)=true then _ else _) _ _ s;rw[cX (show ¬(Value.ref t==Value.none)=true from dw)];show wpAny (model prog w) _ (field (.ref it) 1>>=_) _ _ s;refine cT (fi e1 e3 (x:=.int i 0) rfl ?_);show wpAny (model prog w) _ (seqItems? (.ref t)>>=_) _ _ s;refine cT (gv e4 e5 ?_);simp only[jm,hx];refine cT (gZ e1 e3 (by simp) (c9 ⟨x,rfl,c9 (hQ _ ⟨_,fF _ e1 (Obj.isFreed_of_fields (kS e3 _)),(Obj.cls_mapFields ..).trans e2,?_⟩ (kB ..))⟩));rw[kS e3];simp[rawInt]
def Cq{it t:Addr}{i:Nat}{its:Array Vl}{Q:QQX}(hh:A.handled=none)(hi:s.heap.IsTupleIter it t i)(ht:s.heap.IsTuple t its)(hx:its[i]?=none) (hE:∀g e,Heap.ExtBut it s.heap g->(∃o,g.get? e=some o/\o.cls=.type "StopIteration")->E (.ref e) {s with heap:=g}):wpAny (model prog w) A (Builtin.SmallTypes.nextOf (.ref it)) Q E s:=by
 obtain⟨ob,e1,e2,e3⟩:=id hi;obtain⟨ot,e4,_,nt,e5⟩:=ht;unfold Builtin.SmallTypes.nextOf;refine cT (fL (name:=Str.ofString "__next__") hi.typeIs gC (fR gC hi.typeIs ji ?_ (jd _)));show wpAny (model prog w) _ (field (.ref it) 0>>=_) _ _ s;refine cT (fi e1 e3 (x:=.ref t) rfl ?_);show wpAny (model prog w) _ (if (Value.ref t==Value.none)=true then _ else _) _ _ s;rw[cX (show ¬(Value.ref t==Value.none)=true from dw)];show wpAny (model prog w) _ (field (.ref it) 1>>=_) _ _ s;refine cT (fi e1 e3 (x:=.int i 0) rfl ?_);show wpAny (model prog w) _ (seqItems? (.ref t)>>=_) _ _ s;refine cT (gv e4 e5 ?_);simp only[jm,hx];refine cT (kh (cT (gZ e1 e3 (by simp) ?_)));show wpAny (model prog w) _ (newExc (.type "StopIteration") []>>=_) _ _ _;refine cT ?_;simp only[newExc,newTuple];refine cT (fS ?_ (by size_fits));refine cT (m:=firstArgMember _ _) (wpAny_of_eq (a:=Value.none) (by first|rfl|(simp only[firstArgMember];rfl)) ?_);refine fS ?_ (by size_fits);simp only[raiseNew];refine cT (wpAny_handled ?_)
 first|rw[show A.in1.handled=none from hh]|rw[hh]
 refine cT (c9 (wpAny_throw (hE _ _ (((kB ..).extBut.push _).push _) ⟨_,dE _ rfl,rfl⟩)))
def xV{prog:Pg}{w:Wo}{A:Ar}(hh:A.handled=none)(it t:Addr)(Xt:t≠it)(its:Array Vl):
  Draws prog w A it [it,t] its.size (λi v=>its[i]?=some v) (λi h=>h.IsTupleIter it t i/\h.IsTuple t its) where
 live:=λi h st=>let⟨o,ho,_⟩:=st.1;⟨o,ho⟩
 frame:=λi h g st hk=>by obtain⟨⟨o,e1,e2⟩,⟨o',e3,e4⟩⟩:=st;exact⟨⟨o,hk it (by simp) o e1,e2⟩,⟨o',hk t (by simp) o' e3,e4⟩⟩
 item:=λi s Q E hi st hQ=>HH st.1 st.2 (x:=its[i]) (by simp[hi]) λg hg hs=>hQ _ g s.toks (by simp[hi]) ⟨hg,st.2.extBut hs.extBut Xt⟩ hs
 done:=λs Q E st hE=>Cq hh st.1 st.2 (by simp) hE
structure Ae(z TI TO i1 i2:Addr)(f1 f2:QXQ):Prop where
 a1:TI≠z
 a2:TO≠z
 a3:i1≠z
 a4:i2≠z
 a5:TI≠TO
 a6:TI≠i1
 a7:TI≠i2
 a8:TO≠i1
 a9:TO≠i2
 oX:i1≠i2
 b1:z∉f1
 b2:TO∉f1
 b3:i2∉f1
 c1:z∉f2
 c2:TO∉f2
 c3:i1∉f2
variable {z TI TO i1 i2:Addr}{f1 f2:QXQ}{n1 n2 k1 k2:Nat}{P1 P2:Nat→Vl→Prop}{S1 S2:Nat→Heap→Prop}
section
variable {a b:Vl}
def rV{St:Nat->Heap->Prop}(Dr:Draws prog w A it fp n Pt St){i:Nat}{h g:Heap}{c:Addr}(st:St i h)(hs:Heap.SameBut c h g)(hc:c∉fp):St i g:=
 Dr.frame _ _ _ st λd hd o e=>(hs.2 d λq=>hc (q ▸ hd)).trans e
def KB{Q:QQX}(D1:Draws prog w A i1 f1 n1 P1 S1)(D2:Draws prog w A i2 f2 n2 P2 S2)(Xq:Ae z TI TO i1 i2 f1 f2)(hz:IsZip s.heap z TI TO .none)(hI:IsPair s.heap TI (.ref i1) (.ref i2))(hO:IsPair s.heap TO a b) (Xz:S1 k1 s.heap) (Xo:S2 k2 s.heap) (l1:k1<n1) (l2:k2<n2) (hQ:∀x y g tk,P1 k1 x->P2 k2 y->IsZip g z TI TO (rawInt s.heap.objs.size)->IsPair g TO x y->S1 (k1+1) g->S2 (k2+1) g->IsPair g s.heap.objs.size x y->g.objs.size=s.heap.objs.size+1->
   (∀c o,c≠z->c≠TO->c≠i1->c≠i2->s.heap.get? c=some o->g.get? c=some o)->Q (.ref s.heap.objs.size) {s with heap:=g,toks:=tk}):
  wpAny (model prog w) A (Builtin.«zip.__next__» ⟨[.ref z],[]⟩) (λXa s'=>∃v,Xa=.done (.ret v)/\Q v s') E s:=by
 show wpAny (model prog w) A (field (.ref z) 2>>=_) _ _ _;refine cT (fi hz rfl (x:=.bool false) rfl ?_);show wpAny (model prog w) A (field (.ref z) 3>>=_) _ _ _;refine cT (fi hz rfl (x:=.ref TI) rfl (cT (gv hI rfl ?_)));show wpAny (model prog w) A (Builtin.SmallTypes.ownedTupleIsFree (.ref z)>>=_) _ _ _;refine cT ?_;unfold Builtin.SmallTypes.ownedTupleIsFree;refine cT (fi hz rfl (x:=.none) rfl (c9 ?_));simp only[jb];refine cT (kh (cT (fi hz rfl (x:=.ref TO) rfl (cT (gy hz (by simp) λg1 z1 YW=>?_)))));replace z1:IsZip g1 z TI TO .ellipsis:=z1;refine cT ?_;simp only[lN,lW,jQ,jZ];refine cT (cT (iH ?_));show wpAny (model prog w) A (Builtin.SmallTypes.nextOf (.ref i1)>>=_) _ _ _;have YX:S1 k1 g1:=rV D1 Xz YW Xq.b1;refine cT (D1.item k1 _ _ _ l1 YX λx g2 tk2 px st1b Ya=>c9 ?_);replace Ya:Heap.SameBut i1 g1 g2:=Ya;have o2:IsPair g2 TO a b:=Ya.extBut _ _ Xq.a8 (YW.extBut _ _ Xq.a2 hO);refine cT (gv o2 rfl (cT (iP o2 λg3 o3 Yh=>?_)));replace o3:IsPair g3 TO x b:=o3;replace Yh:Heap.SameBut TO g2 g3:=Yh;refine cT (lz (c9 (cT (cT (iH ?_)))));show wpAny (model prog w) A (Builtin.SmallTypes.nextOf (.ref i2)>>=_) _ _ _;have Zl:S2 k2 g3:=rV D2 (rV D2 (rV D2 Xo YW Xq.c1) Ya Xq.c3) Yh Xq.c2;refine cT (D2.item k2 _ _ _ l2 Zl λy g4 tk4 py st2b Y5=>c9 ?_);replace Y5:Heap.SameBut i2 g3 g4:=Y5;have o4:IsPair g4 TO x b:=Y5.extBut _ _ Xq.a9 o3;refine cT (gv o4 rfl (cT (iP o4 λg5 o5 Y6=>?_)));replace o5:IsPair g5 TO x y:=o5;replace Y6:Heap.SameBut TO g4 g5:=Y6;refine cT (lz (c9 (c9 (cT (gv o5 rfl (cT (wpAny_newTuple ?_)))))));have esz:g5.objs.size=s.heap.objs.size:=by rw[Y6.1,Y5.1,Yh.1,Ya.1,YW.1]
 have z5:IsZip g5 z TI TO .ellipsis:=Y6.extBut _ _ Xq.a2.symm (Y5.extBut _ _ Xq.a4.symm (Yh.extBut _ _ Xq.a2.symm (Ya.extBut _ _ Xq.a3.symm z1)));have kp:∀c o,c≠z->c≠TO->c≠i1->c≠i2->s.heap.get? c=some o->g5.get? c=some o:=λc o q1 q2 q3 q4 q=>Y6.extBut _ _ q2 (Y5.extBut _ _ q4 (Yh.extBut _ _ q2 (Ya.extBut _ _ q3 (YW.extBut _ _ q1 q))));have st1c:S1 (k1+1) g5:=rV D1 (rV D1 (rV D1 st1b Yh Xq.b2) Y5 Xq.b3) Y6 Xq.b2;have st2c:S2 (k2+1) g5:=rV D2 st2b Y6 Xq.c2;have zlt:z<g5.objs.size:=dq z5;show wpAny (model prog w) A (Builtin.SmallTypes.ownedTupleHandOut (.ref z) (.ref g5.objs.size)>>=_) _ _ _;refine cT ?_;unfold Builtin.SmallTypes.ownedTupleHandOut;have z6:IsZip (g5.push {cls:=.type "tuple",data:=.seq #[x,y]}) z TI TO .ellipsis:=cY _ z5;refine cT (gy z6 (by simp) λg7 z7 sb7=>?_);replace z7:IsZip g7 z TI TO (rawInt g5.objs.size):=z7;refine gy z7 (by simp) λg8 z8 sb8=>?_;replace z8:IsZip g8 z TI TO (rawInt g5.objs.size):=z8;have up:∀c o,c≠z->g5.get? c=some o->g8.get? c=some o:=λc o q1 q=>sb8.extBut _ _ q1 (sb7.extBut _ _ q1 (cY _ q));have tu:IsPair g8 g5.objs.size x y:=sb8.extBut _ _ (gI zlt) (sb7.extBut _ _ (gI zlt) (dE _ rfl));have es8:g8.objs.size=g5.objs.size+1:=by rw[sb8.1,sb7.1,ft]
 rw[esz]at z8 tu es8;refine c9 ⟨_,rfl,?_⟩;show Q (.ref g5.objs.size) _;rw[esz];exact hQ x y g8 _ px py z8 (up _ _ Xq.a2 o5) (D1.frame _ _ _ st1c λc hc o q=>up c o (λr=>Xq.b1 (r ▸ hc)) q) (D2.frame _ _ _ st2c λc hc o q=>up c o (λr=>Xq.c1 (r ▸ hc)) q) tu es8 λc o q1 q2 q3 q4 q=>up c o q1 (kp c o q1 q2 q3 q4 q)
def LB{Q:Fin->Sd->Prop}(D1:Draws prog w A i1 f1 n1 P1 S1)(D2:Draws prog w A i2 f2 n2 P2 S2)(Xq:Ae z TI TO i1 i2 f1 f2)(hz:IsZip s.heap z TI TO .none)(hI:IsPair s.heap TI (.ref i1) (.ref i2))(hO:IsPair s.heap TO a b) (Xz:S1 k1 s.heap) (Xo:S2 k1 s.heap) (Z9:k1=n1\/(k1<n1/\k1=n2)) (hE:∀g e,(∀c o,c≠z->c≠TO->c≠i1->c≠i2->s.heap.get? c=some o->g.get? c=some o)->(∃o,g.get? e=some o/\o.cls=.type "StopIteration")->∀tk,E (.ref e) {s with heap:=g,toks:=tk}):
  wpAny (model prog w) A (Builtin.«zip.__next__» ⟨[.ref z],[]⟩) Q E s:=by
 show wpAny (model prog w) A (field (.ref z) 2>>=_) _ _ _;refine cT (fi hz rfl (x:=.bool false) rfl ?_);show wpAny (model prog w) A (field (.ref z) 3>>=_) _ _ _;refine cT (fi hz rfl (x:=.ref TI) rfl (cT (gv hI rfl ?_)));show wpAny (model prog w) A (Builtin.SmallTypes.ownedTupleIsFree (.ref z)>>=_) _ _ _;refine cT ?_;unfold Builtin.SmallTypes.ownedTupleIsFree;refine cT (fi hz rfl (x:=.none) rfl (c9 ?_));simp only[jb];refine cT (kh (cT (fi hz rfl (x:=.ref TO) rfl (cT (gy hz (by simp) λg1 z1 YW=>?_)))));replace z1:IsZip g1 z TI TO .ellipsis:=z1;refine cT ?_;simp only[lN,lW,jQ,jZ];refine cT (cT (iH ?_));show wpAny (model prog w) A (Builtin.SmallTypes.nextOf (.ref i1)>>=_) _ _ _;have YX:S1 k1 g1:=rV D1 Xz YW Xq.b1;rcases Z9 with he|⟨Xg,he⟩
 .rw[he]at YX;refine cT (D1.done _ _ _ YX λg2 e Ya hx=>?_);obtain⟨oe,g,hce⟩:=hx;have z2:IsZip g2 z TI TO .ellipsis:=Ya _ _ Xq.a3.symm z1;have hez:e≠z:=λq=>by subst q;rw[z2]at g;cases g;simp at hce
  exact gy z2 (by simp) λg3 _ Yh=>hE g3 e (λc o q1 _ q3 _ q=>Yh.extBut _ _ q1 (Ya _ _ q3 (YW.extBut _ _ q1 q))) ⟨oe,Yh.extBut _ _ hez g,hce⟩ _
 .refine cT (D1.item k1 _ _ _ Xg YX λx g2 tk2 px st1b Ya=>c9 ?_);replace Ya:Heap.SameBut i1 g1 g2:=Ya;have o2:IsPair g2 TO a b:=Ya.extBut _ _ Xq.a8 (YW.extBut _ _ Xq.a2 hO);refine cT (gv o2 rfl (cT (iP o2 λg3 o3 Yh=>?_)));replace Yh:Heap.SameBut TO g2 g3:=Yh;refine cT (lz (c9 (cT (cT (iH ?_)))));show wpAny (model prog w) A (Builtin.SmallTypes.nextOf (.ref i2)>>=_) _ _ _;have Zl:S2 k1 g3:=rV D2 (rV D2 (rV D2 Xo YW Xq.c1) Ya Xq.c3) Yh Xq.c2;rw[he]at Zl;refine cT (D2.done _ _ _ Zl λg4 e Y5 hx=>?_);obtain⟨oe,g,hce⟩:=hx;have z4:IsZip g4 z TI TO .ellipsis:=Y5 _ _ Xq.a4.symm (Yh.extBut _ _ Xq.a2.symm (Ya.extBut _ _ Xq.a3.symm z1));have hez:e≠z:=λq=>by subst q;rw[z4]at g;cases g;simp at hce
  exact gy z4 (by simp) λg5 _ Y6=>hE g5 e (λc o q1 q2 q3 q4 q=>Y6.extBut _ _ q1 (Y5 _ _ q4 (Yh.extBut _ _ q2 (Ya.extBut _ _ q3 (YW.extBut _ _ q1 q))))) ⟨oe,Y6.extBut _ _ hez g,hce⟩ _
end
abbrev Vn(h:Heap)(t:Addr):Heap:=h.push {cls:=.type "tuple_iterator",data:=.fields #[.ref t,.int 0 0]}
abbrev Vi(h:Heap)(t u:Addr):Heap:=(Vn h t).push {cls:=.type "tuple_iterator",data:=.fields #[.ref u,.int 0 0]}
abbrev Vm(h:Heap)(t u:Addr):Heap:=(Vi h t u).push {cls:=.type "tuple",data:=.seq #[.ref h.objs.size,.ref (Vn h t).objs.size]}
abbrev Vc(h:Heap)(t u:Addr):Heap:=(Vm h t u).push {cls:=.type "tuple",data:=.seq #[.none,.none]}
abbrev Th(h:Heap)(t u:Addr):Heap:=(Vc h t u).push {cls:=.type "zip",data:=.fields #[.none,.bool false,.bool false,.ref (Vi h t u).objs.size,.ref (Vm h t u).objs.size]}
def De(t u:Addr)(xs ys:Array Vl):
  Meets (Builtin.«zip.__new__» ⟨[.type "zip",.ref t,.ref u],[]⟩) (λ_ R s=>s.heap.IsTuple t xs/\s.heap.IsTuple u ys/\R (.ok (.ret (.ref (Vc s.heap t u).objs.size))) {s with heap:=Th s.heap t u}):=
 .of_wp λprog w A R s h=>by
  obtain⟨hp,g,d,tk,os⟩:=s;obtain⟨e1,e2,h⟩:=h;have YS:=sub_zip;have q1:Heap.IsTuple (Shared.heap ⟨hp,g,d,tk,os⟩) t xs:=e1;have q2:Heap.IsTuple (Shared.heap ⟨hp.push {cls:=.type "tuple_iterator",data:=.fields #[.ref t,.int 0 0]},g,d,tk,os⟩) u ys:=Heap.IsTuple.push e2 _
  wp_walk using ir q1,ir q2
  exact⟨_,rfl,h⟩
def Fx{t u:Addr}{xs ys:Array Vl}{Q:QQX}(ht:s.heap.IsTuple t xs)(hu:s.heap.IsTuple u ys) (h:∀g,IsZip g (s.heap.objs.size+4) (s.heap.objs.size+2) (s.heap.objs.size+3) .none->IsPair g (s.heap.objs.size+2) (.ref s.heap.objs.size) (.ref (s.heap.objs.size+1))->IsPair g (s.heap.objs.size+3) .none .none->
   g.IsTupleIter s.heap.objs.size t 0->g.IsTupleIter (s.heap.objs.size+1) u 0->(∀c o,s.heap.get? c=some o->g.get? c=some o)->Q (.ref (s.heap.objs.size+4)) {s with heap:=g}):
  wpAny (model prog w) A (call (.type "zip") [.ref t,.ref u]) Q E s:=by
 refine callType_new F.called_zip (by decide) (F.typeCall_zip_2 _ _) (F.newCall_zip_2 _ _) (λobj=>F.args_object_init_3 obj _ _) F.entry_zip_new (De t u xs ys) ⟨ht,hu,?_⟩;have m1:(Vn s.heap t).objs.size=s.heap.objs.size+1:=ft ..;have m2:(Vi s.heap t u).objs.size=s.heap.objs.size+2:=by rw[ft,m1]
 have m3:(Vm s.heap t u).objs.size=s.heap.objs.size+3:=by rw[ft,m2]
 have m4:(Vc s.heap t u).objs.size=s.heap.objs.size+4:=by rw[ft,m3]
 have up:∀{h:Heap} {c:Addr} {o p:Obj},h.get? c=some o->(h.push p).get? c=some o:=λq=>cY _ q;have r5:(Th s.heap t u).get? (Vc s.heap t u).objs.size=some _:=dE _ rfl;have r4:(Th s.heap t u).get? (Vm s.heap t u).objs.size=some _:=up (dE _ rfl);have r3:(Th s.heap t u).get? (Vi s.heap t u).objs.size=some _:=up (up (dE _ rfl));have r2:(Th s.heap t u).get? (Vn s.heap t).objs.size=some _:=up (up (up (dE _ rfl)));have r1:(Th s.heap t u).get? s.heap.objs.size=some _:=up (up (up (up (dE _ rfl))));show _/\_;rw[m2,m3,m4]at r5;rw[m1,m2]at r3;rw[m3]at r4;rw[m1]at r2;rw[m4];exact⟨⟨_,r5,rfl⟩,h _ r5 r3 r4 ⟨_,r1,rfl,rfl⟩ ⟨_,r2,rfl,rfl⟩ λc o q=>up (up (up (up (up q))))⟩
def FW{z TI TO i1 i2:Addr}{n1 n2 k:Nat}{P1 P2:Nat->Vl->Prop}{S1 S2:Nat->Heap->Prop}{Q:Option Vl->Sd->Prop}(D1:Draws prog w A.in1 i1 f1 n1 P1 S1)(D2:Draws prog w A.in1 i2 f2 n2 P2 S2)(Xq:Ae z TI TO i1 i2 f1 f2) (hz:IsZip s.heap z TI TO .none) (hI:IsPair s.heap TI (.ref i1) (.ref i2)) (hO:IsPair s.heap TO a b) (Xz:S1 k s.heap) (Xo:S2 k s.heap) (l1:k<n1) (l2:k<n2) (hQ:∀x y g tk,P1 k x->P2 k y->IsZip g z TI TO (rawInt s.heap.objs.size)->IsPair g TO x y->S1 (k+1) g->S2 (k+1) g->IsPair g s.heap.objs.size x y->g.objs.size=s.heap.objs.size+1->
   (∀c o,c≠z->c≠TO->c≠i1->c≠i2->s.heap.get? c=some o->g.get? c=some o)->Q (some (.ref s.heap.objs.size)) {s with heap:=g,toks:=tk}):wpAny (model prog w) A (pyNext (.ref z)) Q E s:=by
 have hT:s.TypeIs (.ref z) "zip":=⟨_,hz,rfl⟩;unfold pyNext;refine cT (kx (fL (name:=Str.ofString "__next__") hT iQ (fR iQ hT lO ?_ (lu _))));exact KB D1 D2 Xq hz hI hO Xz Xo l1 l2 λx y g tk q1 q2 q3 q4 q5 q6 q7 q8 q9=>c9 (hQ x y g tk q1 q2 q3 q4 q5 q6 q7 q8 q9)
def AD{z TI TO i1 i2:Addr}{n1 n2 k:Nat}{P1 P2:Nat->Vl->Prop}{S1 S2:Nat->Heap->Prop}{Q:Option Vl->Sd->Prop}(D1:Draws prog w A.in1 i1 f1 n1 P1 S1)(D2:Draws prog w A.in1 i2 f2 n2 P2 S2)(Xq:Ae z TI TO i1 i2 f1 f2) (hz:IsZip s.heap z TI TO .none) (hI:IsPair s.heap TI (.ref i1) (.ref i2)) (hO:IsPair s.heap TO a b) (Xz:S1 k s.heap) (Xo:S2 k s.heap) (Z9:k=n1\/(k<n1/\k=n2)) (hQ:∀g tk,(∀c o,c≠z->c≠TO->c≠i1->c≠i2->s.heap.get? c=some o->g.get? c=some o)->Q none {s with heap:=g,toks:=tk}):wpAny (model prog w) A (pyNext (.ref z)) Q E s:=by
 have hT:s.TypeIs (.ref z) "zip":=⟨_,hz,rfl⟩;unfold pyNext;refine cT (kx (fL (name:=Str.ofString "__next__") hT iQ (fR iQ hT lO (LB D1 D2 Xq hz hI hO Xz Xo Z9 λg e kp hx tk=>?_) (lu _))));obtain⟨o,e1,e2⟩:=hx;exact cT (wpAny_isInstance (T:="StopIteration") (b:=true) ⟨o,e1,e2⟩ isSubtype_stop (c9 (hQ g tk kp)))
def EJ(I:Inv X W5 Y H s)(f:AC X W5 H b)(q:uU X.K H a xs):a≠b:=by
 rintro rfl
 rcases q with q|⟨o,its,n,hk,_⟩
 .have z:=f.1;rcases q with q|⟨u,q⟩<;>(rw[q]at z;cases z)
 .have e:=I.mod.oi a o hk;rcases f.2.2.2.1 with z|z
  .exact I.ok.nL a o e z
  .exact absurd (dJ (dq e) (dW I.ok.nV z)) (e9 _)
def V6(K:qh)(a b:Addr):It:=
 ⟨λi H=>∃xs ys x y,uU K H a xs/\uU K H b ys/\xs[i]?=some x/\ys[i]?=some y,λi H v H'=>∃p x y,v=.ref p/\H p=none/\H'=upd H p (.tup [x,y])/\(∀xs,uU K H a xs->xs[i]?=some x)/\(∀ys,uU K H b ys->ys[i]?=some y),λi H=>∃xs ys,uU K H a xs/\uU K H b ys/\i=min xs.length ys.length⟩
def LM{P:Pg}{w:Wo}{K:qh}{XF:T0 Expr}{n:Nat}{tp:Pos}(a b z TI TO i1 i2:Addr)(a1:TI≠z)(a2:TO≠z)(a3:i1≠z)(a4:i2≠z)(a5:TI≠TO)(a6:TI≠i1)(a7:TI≠i2)(a8:TO≠i1)(a9:TO≠i2)(oX:i1≠i2):
  F' P w K (.Tuple XF n tp) (V6 K a b) [z,TI,TO,i1,i2] z (λi h=>IsZip h z TI TO .none/\IsPair h TI (.ref i1) (.ref i2)/\(∃u v,IsPair h TO u v)/\h.IsTupleIter i1 a i/\h.IsTupleIter i2 b i) where
 mem:=by simp
 obj:=λi h st c hc=>by
  obtain⟨h1,h2,⟨u,v,h3⟩,⟨o4,h4,_,d4⟩,⟨o5,h5,_,d5⟩⟩:=st;simp only[de,dD,eX]at hc;rcases hc with rfl|rfl|rfl|rfl|rfl
  .exact⟨_,h1,λv z=>by cases z⟩
  .exact⟨_,h2,λv z=>by cases z⟩
  .exact⟨_,h3,λv z=>by cases z⟩
  .exact⟨_,h4,λv z=>by rw[d4]at z;cases z⟩
  .exact⟨_,h5,λv z=>by rw[d5]at z;cases z⟩
 keep:=λi h h' st k=>by obtain⟨h1,h2,⟨u,v,h3⟩,⟨o4,h4,c4⟩,⟨o5,h5,c5⟩⟩:=st;exact⟨k z (by simp) _ h1,k TI (by simp) _ h2,⟨u,v,k TO (by simp) _ h3⟩,⟨o4,k i1 (by simp) _ h4,c4⟩,⟨o5,k i2 (by simp) _ h5,c5⟩⟩
 item:=by
  intro X hP hw hK hc i W5 s Y H E I hf st hg;subst hP hw hK;obtain⟨xs,ys,x,y,hx,hy,ex,ey⟩:=hg;obtain⟨its,rx,px,_⟩:=I.tuple hx;obtain⟨Y4,ry,py,_⟩:=I.tuple hy;obtain⟨u,eu,ru⟩:=rx.get ex;obtain⟨v,ev,rv⟩:=ry.get ey;obtain⟨h1,h2,⟨p,q,h3⟩,h4,h5⟩:=st;have hh:X.A.in1.handled=none:=I.ok.hd hc;have fa:∀c∈[z,TI,TO,i1,i2],a≠c:=λc hc=>EJ I (hf c hc) hx;have fb:∀c∈[z,TI,TO,i1,i2],b≠c:=λc hc=>EJ I (hf c hc) hy;have Xq:Ae z TI TO i1 i2 [i1,a] [i2,b]:=⟨a1,a2,a3,a4,a5,a6,a7,a8,a9,oX,by
   simp only[de,dD,eX,fK];exact⟨dI a3,dI (fa z (by simp))⟩,by
   simp only[de,dD,eX,fK];exact⟨a8,dI (fa TO (by simp))⟩,by
   simp only[de,dD,eX,fK];exact⟨dI oX,dI (fa i2 (by simp))⟩,by
   simp only[de,dD,eX,fK];exact⟨dI a4,dI (fb z (by simp))⟩,by
   simp only[de,dD,eX,fK];exact⟨a9,dI (fb TO (by simp))⟩,by
   simp only[de,dD,eX,fK];exact⟨oX,dI (fb i1 (by simp))⟩⟩
  have l1:i<its.toArray.size:=by
   have:=(cU.mp eu).1
   simpa using this
  have l2:i<Y4.toArray.size:=by
   have:=(cU.mp ev).1
   simpa using this
  refine FW (xV hh i1 a (fa i1 (by simp)) its.toArray) (xV hh i2 b (fb i2 (by simp)) Y4.toArray) Xq h1 h2 h3 ⟨h4,px⟩ ⟨h5,py⟩ l1 l2 λx' y' g tk e1 e2 z1 o1 s1 s2 t1 sz kp=>?_;have e1':x'=u:=by
   have:its[i]?=some x':=by simpa using e1
   rw[eu]at this;exact(df this).symm
  have Zg:y'=v:=by
   have:Y4[i]?=some y':=by simpa using e2
   rw[ev]at this;exact(df this).symm
  subst e1' Zg;refine⟨_,rfl,wpAny_letOwnedTupleGo_zip z1 λg2 z2 sb=>?_⟩;have zlt:z<s.heap.objs.size:=dq h1;have kk:∀c o,c∉[z,TI,TO,i1,i2]->s.heap.get? c=some o->g2.get? c=some o:=λc o hc e=>by simp only[de,dD,eX,fK]at hc;exact(sb.2 c hc.1).trans (kp c o hc.1 hc.2.2.1 hc.2.2.2.1 hc.2.2.2.2 e)
  have t2:g2.get? s.heap.objs.size=some {cls:=.type "tuple",data:=.seq #[x',y']}:=(sb.2 _ (gI zlt)).trans t1;have Zk:H s.heap.objs.size=none:=I.mM.fresh (dg _);have I2:=I.drawn (ch:=[z,TI,TO,i1,i2]) (T:=s.heap.objs.size) (xs:=[x,y]) (its:=[x',y']) (h':=g2) (tk:=tk) hf kk (dg _) (by show 2<=sizeLine;decide) (.cons ru (.cons rv .nil)) ⟨_,t2,rfl,⟨_,rfl⟩,rfl⟩;refine⟨.ref s.heap.objs.size,_,I2,rfl,⟨_,x,y,rfl,Zk,rfl,λxs' hx'=>by rw[I.mZ hx' hx];exact ex,λys' hy'=>by rw[I.mZ hy' hy];exact ey⟩,?_,λc hc=>?_⟩
  .obtain⟨o4,g4,c4⟩:=s1.1;obtain⟨o5,g5,c5⟩:=s2.1;exact⟨z2,(sb.2 _ a1).trans (kp _ _ a1 a5 a6 a7 h2),⟨_,_,(sb.2 _ a2).trans o1⟩,⟨o4,(sb.2 _ a3).trans g4,c4⟩,⟨o5,(sb.2 _ a4).trans g5,c5⟩⟩
  .have n0:=(hf c hc).1;obtain⟨o,eo⟩:∃o,s.heap.get? c=some o:=by
    obtain⟨o4,g4,_⟩:=h4;obtain⟨o5,g5,_⟩:=h5;simp only[de,dD,eX]at hc;rcases hc with rfl|rfl|rfl|rfl|rfl
    .exact⟨_,h1⟩
    .exact⟨_,h2⟩
    .exact⟨_,h3⟩
    .exact⟨_,g4⟩
    .exact⟨_,g5⟩
   rw[pQ (dC (dq eo))];exact n0
 done:=by
  intro X hP hw hK hc i W5 s Y H E I hf st hg;subst hP hw hK;obtain⟨xs,ys,hx,hy,hi⟩:=hg;obtain⟨its,rx,px,_⟩:=I.tuple hx;obtain⟨Y4,ry,py,_⟩:=I.tuple hy;obtain⟨h1,h2,⟨p,q,h3⟩,h4,h5⟩:=st;have hh:X.A.in1.handled=none:=I.ok.hd hc;have fa:∀c∈[z,TI,TO,i1,i2],a≠c:=λc hc=>EJ I (hf c hc) hx;have fb:∀c∈[z,TI,TO,i1,i2],b≠c:=λc hc=>EJ I (hf c hc) hy;have Xq:Ae z TI TO i1 i2 [i1,a] [i2,b]:=⟨a1,a2,a3,a4,a5,a6,a7,a8,a9,oX,by
   simp only[de,dD,eX,fK];exact⟨dI a3,dI (fa z (by simp))⟩,by
   simp only[de,dD,eX,fK];exact⟨a8,dI (fa TO (by simp))⟩,by
   simp only[de,dD,eX,fK];exact⟨dI oX,dI (fa i2 (by simp))⟩,by
   simp only[de,dD,eX,fK];exact⟨dI a4,dI (fb z (by simp))⟩,by
   simp only[de,dD,eX,fK];exact⟨a9,dI (fb TO (by simp))⟩,by
   simp only[de,dD,eX,fK];exact⟨oX,dI (fb i1 (by simp))⟩⟩
  have e1:=rx.length;have e2:=ry.length;refine AD (xV hh i1 a (fa i1 (by simp)) its.toArray) (xV hh i2 b (fb i2 (by simp)) Y4.toArray) Xq h1 h2 h3 ⟨h4,px⟩ ⟨h5,py⟩ (by simp only[dh];omega) λg tk kp=>⟨rfl,?_⟩;have kk:∀c o,c∉[z,TI,TO,i1,i2]->s.heap.get? c=some o->g.get? c=some o:=λc o hc e=>by simp only[de,dD,eX,fK]at hc;exact kp c o hc.1 hc.2.2.1 hc.2.2.2.1 hc.2.2.2.2 e
  refine I.step (g':=s.gens) (d':=s.drawn) (t':=tk) (ch:=[z,TI,TO,i1,i2]) (λc hc=>⟨(hf c hc).2.2.2.1,(hf c hc).2.1,(hf c hc).2.2.2.2.1,(hf c hc).2.2.2.2.2⟩) ?_ ?_ (λc o _ e n=>n) ?_ (λ_ _ e=>e) (λ_ _ _ e=>e) (λc ps e=>⟨#[],by rw[e];simp⟩) ?_ ?_ I.bare
  .exact λc o _ _ hc e _=>kk c o hc e
  .exact λc o _ _ hc e _=>⟨o.slots,kk c o hc e⟩
  .exact λc o hc e=>⟨o,kk c o hc e⟩
  .intro m hm;obtain⟨o,es,ep,ho,r⟩:=hm;exact⟨o,es,ep,kk _ o (λy=>(hf _ y).2.1 rfl) ho,r⟩
  .intro c u e;refine(I.mM c u e).ni (λd v hd q=>kk d v (λy=>?_) q) (λ_ q=>q) λ_ _ q=>q;have n:=(hf d y).1;rcases hd with x|x
   .rw[x,e]at n;cases n
   .rw[x]at n;cases n
 self:=λ_ _ _ _ _ st h=>lP st.1 h
def R7{a b:Expr}{ta:TA}(hg:Gl X "zip")(hm:X.mg "zip"=none)(ha:PA X [a,b] ta)(hs:starEach [a,b] X.env=[(false,eval a X.env),(false,eval b X.env)]:=by rfl)(Yg:starEach [b] X.env=[(false,eval b X.env)]:=by rfl):
  PI X (.Tuple XF n tp) (.Call (.Name "zip" p) [a,b] [] pos) (λY H R=>ta Y H λvs H1=>∃l m,vs=[.ref l,.ref m]/\(∃xs,uU X.K H1 l xs)/\(∃xs,uU X.K H1 m xs)/\R (V6 X.K l m) H1):=by
 intro W5 s Y H R I h;refine Call_ (wB I hg hm R1 (fJ (sf (ha pos W5 s Y H _ I h) λus s1 zz=>x5 zz λvs H1 I1 r1 q1=>?_) (by rw[hs,Yg]) (by rw[Yg];rfl)));obtain⟨l,m,e,⟨xs,hx⟩,⟨ys,hy⟩,q⟩:=q1;subst e;obtain⟨u,v,rfl,ru,rv⟩:=M7 r1;cases ru;cases rv;obtain⟨its,_,px,_⟩:=I1.tuple hx;obtain⟨Y4,_,py,_⟩:=I1.tuple hy;refine Fx px py λg h1 h2 h3 h4 h5 hk=>lP h1 ?_;have I2:Inv X W5 Y H1 {s1 with heap:=g}:=I1.kept (t':=s1.toks) hk;refine⟨s1.heap.objs.size+4,[s1.heap.objs.size+4,s1.heap.objs.size+2,s1.heap.objs.size+3,s1.heap.objs.size,s1.heap.objs.size+1],_,_,H1,rfl,I2,LM l m _ _ _ _ _ ?_ ?_ ?_ ?_ ?_ ?_ ?_ ?_ ?_ ?_,⟨h1,h2,⟨_,_,h3⟩,h4,h5⟩,λb hb=>?_,q⟩
 .exact λz=>by have z:s1.heap.objs.size+2=s1.heap.objs.size+4:=z;omega
 .exact λz=>by have z:s1.heap.objs.size+3=s1.heap.objs.size+4:=z;omega
 .exact λz=>by have z:s1.heap.objs.size=s1.heap.objs.size+4:=z;omega
 .exact λz=>by have z:s1.heap.objs.size+1=s1.heap.objs.size+4:=z;omega
 .exact λz=>by have z:s1.heap.objs.size+2=s1.heap.objs.size+3:=z;omega
 .exact λz=>by have z:s1.heap.objs.size+2=s1.heap.objs.size:=z;omega
 .exact λz=>by have z:s1.heap.objs.size+2=s1.heap.objs.size+1:=z;omega
 .exact λz=>by have z:s1.heap.objs.size+3=s1.heap.objs.size:=z;omega
 .exact λz=>by have z:s1.heap.objs.size+3=s1.heap.objs.size+1:=z;omega
 .exact λz=>by have z:s1.heap.objs.size=s1.heap.objs.size+1:=z;omega
 .have X0:s1.heap.objs.size<=b:=by
   simp only[de,dD,eX]at hb;rcases hb with rfl|rfl|rfl|rfl|rfl
   .exact iI _ _
   .exact iI _ _
   .exact iI _ _
   .exact dg _
   .exact iI _ _
  exact I1.nN X0 (I1.mM.fresh X0)
def AA:T0 D->T0 D->T0 D
 | x::a,y::b=>.tup [x,y]::AA a b
 | _,_=>[]
theorem Jw:∀{ds es:T0 D} {i:Nat},(AA ds es)[i]?=(ds[i]?).bind λd=>(es[i]?).map λe=>D.tup [d,e]
 | [],es,i=>by simp[AA]
 | d::ds,[],i=>by simp[AA]
 | d::ds,e::es,0=>by simp[AA]
 | d::ds,e::es,i+1=>by show(AA ds es)[i]?=_;rw[Jw];simp
theorem Ez:∀{ds es:T0 D},(AA ds es).length=min ds.length es.length
 | [],es=>by simp[AA]
 | d::ds,[]=>by simp[AA]
 | d::ds,e::es=>by show(AA ds es).length+1=_;rw[Ez];simp only[eh];omega
def Pz{K:qh}{ds es:T0 D}(h1:uU K H1 a xs)(h2:qe K H1 ds xs)(g1:uU K H1 b ys)(g2:qe K H1 es ys):FX K H1 (V6 K a b) (AA ds es) (λ_=>True) where
 go:=λi H M hi hm ok e1=>by rw[Ez]at hi;obtain⟨x,ex,_⟩:=h2.get (cV (show i<ds.length by omega));obtain⟨y,ey,_⟩:=g2.get (cV (show i<es.length by omega));exact⟨xs,ys,x,y,e1.t _ _ h1,e1.t _ _ g1,ex,ey⟩
 oH:=λi d H M v H' hd hm ok e1 y=>by
  obtain⟨p,x,z,rfl,hp,rfl,y1,y2⟩:=y;rw[Jw]at hd;cases e:ds[i]? with
  | none=>rw[e]at hd;cases hd
  | some d'=>
   cases e':es[i]? with
   | none=>rw[e,e']at hd;cases hd
   | some d''=>rw[e,e']at hd;cases hd;obtain⟨x',q1,hx⟩:=h2.get e;obtain⟨z',q2,hz⟩:=g2.get e';have w1:=y1 xs (e1.t _ _ h1);have w2:=y2 ys (e1.t _ _ g1);rw[q1]at w1;rw[q2]at w2;have v1:x'=x:=df w1;have v2:z'=z:=df w2;subst v1 v2;have ex:qI K H (upd H p (.tup [x',z'])):=.new hp;exact⟨.tup (.of qa) (.cons (hx.mono (e1.trans ex)) (.cons (hz.mono (e1.trans ex)) .nil)),hm.add hp,ex⟩
 stop:=λH M hm ok e1=>⟨xs,ys,e1.t _ _ h1,e1.t _ _ g1,by rw[Ez,h2.length,g2.length]⟩
def UP(t:w9):NY:=λU M R=>t U M λds M1=>match ds with
 | [.tup a,.tup b]=>R (AA a b) (λ_=>True) M1
 | _=>False
def Si{a b:Expr}{ta:w9}(hg:Gl X "zip")(hm:X.mg "zip"=none)(ha:A3 X [a,b] ta)(hs:starEach [a,b] X.env=[(false,eval a X.env),(false,eval b X.env)]:=by rfl)(Yg:starEach [b] X.env=[(false,eval b X.env)]:=by rfl):
  I3 X (.Tuple XF n tp) (.Call (.Name "zip" p) [a,b] [] pos) (UP ta):=
 PI.mono (R7 hg hm ha hs Yg) λY H R' zz=>x7 zz λU M R hs hm ht k=>⟨U,M,_,hs,hm,ht,λvs H1 ds M1 hd W7 e1 q1=>by
  split at q1
  .obtain⟨v,u,rfl,hv,hw⟩:=A9 hd;obtain⟨l,xs,rfl,h1,h2⟩:=hv.mL;obtain⟨m,ys,rfl,g1,g2⟩:=hw.mL;exact⟨l,m,rfl,⟨xs,h1⟩,⟨ys,g1⟩,k _ H1 _ _ M1 (Pz h1 h2 g1 g2) W7 e1 trivial q1⟩
  .exact q1.elim⟩
def qp(M M':Mp):Prop:=∀a c,M a=some c->M' a=some c
def qp.refl:qp M M:=λ_ _ h=>h
def qp.trans{M M1 M2:Mp}(a:qp M M1)(b:qp M1 M2):qp M M2:=λx c h=>b x c (a x c h)
def qp.new{M:Mp}{p:Addr}{c:uK}(h:M p=none):qp M (pB M p c):=λx d q=>by rw[tW (Tp q h)];exact q
def qp.lst{ds:T0 D}(s:qp M M')(h:oR M a=some ds):oR M' a=some ds:=by
 unfold oR at h ⊢;cases e:M a with
 | none=>rw[e]at h;cases h
 | some c=>rw[s a c e];rw[e]at h;exact h
def HM.sub{K:qh}(h:HM K H M')(s:qp M M'):HM K H M:=λa c q=>h a c (s a c q)
def Tu{st:Stmt}{sp:qY}(F:P4 K x qual st f fd)(S:sW N ps (pZ st))(len:∀ds M Q,sp ds M Q->ds.length=ps.length) (Xr:∀(Xd:Vl) (A:Ar) (outer:T0 Env) (s:Sd) (H:Hp) (E:XK),rO k (A.deeper (envOfC qual (pZ st) s.heap.objs.size f Xd))->
   ∃t,HC (vc NW P w K mg base N qual (pZ st) f Xd A outer s H E).om (rG st) t/\∀ds M Q,sp ds M Q->t {nx:=λ_ M'=>∃W9,qp W9 M'/\Q .mG W9,rt:=λd M'=>∃W9,qp W9 M'/\Q d W9} (wI N ds) M):Tn P w K mg base (k+1) f fd ps sp:=by
 refine F.ok S (λvs H Q E h=>?_) (λXd A outer s H vs Q' E hr h=>?_)
 .obtain⟨ds,M,Q,hd,_,hs,_⟩:=h;rw[<-hd.length];exact len ds M Q hs
 .obtain⟨ds,M,Q,hd,hm,hs,k⟩:=h;obtain⟨t,ht,hb⟩:=Xr Xd A outer s H E hr;exact⟨_,ht,wI N ds,M,_,DV hd,hm,hb ds M Q hs,λσ' H' δ' M' _ x2 x3 _ ⟨W9,y1,y2⟩=>k .mG H' .mG W9 .mG (x2.sub y1) x3 y2,λv H' d M' x1 x2 x3 ⟨W9,y1,y2⟩=>k v H' d W9 x1 (x2.sub y1) x3 y2,λ_ _ _ _ _ _ _ _ z=>z,λ_ _ _ _ _ _ _ _ z=>z⟩
theorem BS{g:D9}{te:T3}{ok:Mp->Prop}{Q:DK}{f:D->D}{M:Mp}(J:uY->Prop)(mM:ok M):∀(ds acc:T0 D) (U:uY),J U->acc.length+ds.length<=sizeLine->
  (∀d∈ds,∀U,J U->∀k:uY->DK,(∀δ',J δ'->k δ' (f d) M)->g d U M λδ2 M2=>te δ2 M2 (k δ2))->(∀p,M p=none->Q (.ref p) (pB M p (.lst (acc++ds.map f))))->uO g Bt te ok Q ds acc U M
 | [],acc,U,_,hl,_,hq=>⟨by simpa using hl,by simpa using hq⟩
 | d::r,acc,U,hj,hl,ht,hq=>by
  rw[eh]at hl;refine⟨by omega,?_⟩;refine ht d dG U hj (λδ2 y M4=>ok M4/\uO g Bt te ok Q r (acc++[y]) δ2 M4) λδ' hj'=>⟨mM,BS (f:=f) J mM r (acc++[f d]) δ' hj' ?_ (λe he=>ht e (dA _ he)) ?_⟩
  .rw[cW,dN];omega
  .simpa using hq
def rh{te:T3}{ok:Mp->Prop}{Q:DK}{f:D->D}{M:Mp}(mM:ok M):∀(ds acc:T0 D) (U:uY),acc.length+ds.length<=sizeLine->(∀d∈ds,∀k:DK,k (f d) M->te (U.set i (some d)) M k)->
  (∀p,M p=none->Q (.ref p) (pB M p (.lst (acc++ds.map f))))->uO (uw i) Bt te ok Q ds acc U M:=λds acc U hl ht hq=>
 BS (f:=f) (λδ'=>∀d,δ'.set i (some d)=U.set i (some d)) mM ds acc U (λ_=>rfl) hl (λd hd δ' hj k hk=>by
  show te (δ'.set i (some d)) M (k (δ'.set i (some d)));rw[hj d];exact ht d hd _ (hk _ λe=>by rw[iR])) hq
theorem x8{α:Type}(f:α->Bool):∀l:List α,GR (l.map λx=>D.bl (f x))=some (l.map f)
 | []=>rfl
 | x::r=>by show(GR (r.map λx=>D.bl (f x))).map (f x::·)=_;rw[x8 f r];rfl
def pA{p:Addr}{ds:T0 D}:oR (pB M p (.lst ds)) p=some ds:=by unfold oR;rw[pL]
def i'{α:Type}{o:Option α}{P:α->Prop}{x:α}(e:o=some x)(h:P x):o.elim False P:=by rw[e];exact h
def oW{l:T0 D}(h:decide (l.length<=100)=true):l.length<=sizeLine:=by have z:=dH;have:=fO h;omega
theorem Bh{g:D9}{tb:xG}{ok:Mp->Prop}{E:GD}(J:uY->Mp->Prop)(mM:∀U M,J U M->ok M):∀(ds:T0 D) (U:uY) (M:Mp),J U M->
  (∀d∈ds,∀U M,J U M->∀nx:uY->Mp->Prop,(∀δ' M',J δ' M'->nx δ' M')->g d U M λδ2 M2=>tb {E with nx:=nx,ct:=nx,bk:=E.nx} δ2 M2)->(∀U M,J U M->E.nx U M)->ES g tb ok E ds U M
 | [],U,M,j,_,hn=>hn U M j
 | d::r,U,M,j,ht,hn=>ht d dG U M j (λδ' M'=>ok M'/\ES g tb ok E r δ' M') λδ' M' j'=>⟨mM δ' M' j',Bh J mM r δ' M' j' (λe he=>ht e (dA _ he)) hn⟩
theorem wG{g:D9}{tb:xG}{ok:Mp->Prop}{E:GD}(all:T0 D)(J:T0 D->uY->Mp->Prop)(mM:∀p U M,J p U M->ok M):∀(ds pre:T0 D) (U:uY) (M:Mp),pre++ds=all->J pre U M->
  (∀pre d post,pre++d::post=all->∀U M,J pre U M->∀nx:uY->Mp->Prop,(∀δ' M',J (pre++[d]) δ' M'->nx δ' M')->g d U M λδ2 M2=>tb {E with nx:=nx,ct:=nx,bk:=E.nx} δ2 M2)->(∀U M,J all U M->E.nx U M)->ES g tb ok E ds U M
 | [],pre,U,M,e,j,_,hn=>hn U M (by rw[<-e,eY];exact j)
 | d::r,pre,U,M,e,j,ht,hn=>ht pre d r e U M j (λδ' M'=>ok M'/\ES g tb ok E r δ' M') λδ' M' j'=>⟨mM _ δ' M' j',wG all J mM r (pre++[d]) δ' M' (by rw[<-e,fk];rfl) j' ht hn⟩
def K0{c:Bool}{A B:Prop}(h:c=false)(hb:B):if c=true then A else B:=by subst h;exact J5 hb
def AF{c:Bool}{A B:Prop}(h:c=true)(ha:A):if c=true then A else B:=by subst h;exact O9 ha
def Pf{t u:xG}{E:GD}{U:uY}{M:Mp}(R:uY->Mp->Prop)(h2:∀nx:uY->Mp->Prop,(∀δ' M',R δ' M'->nx δ' M')->t {E with nx:=nx} U M)(h1:∀δ' M',R δ' M'->u E δ' M'):uq t u E U M:=h2 (u E) h1
def UU{K:qh}{ns:T0 Int}(hO:Ll H)(hS:yU K H a (ns.map V.int)):rE K H (.rl (ns.map D.int)) (.ref a):=by
 have r:Qh K H a (ns.map V.int):=by
  rcases hS with h|h
  .rcases h with h|⟨o,h⟩
   .rcases hO a with z|⟨o,xs,z⟩<;>(rw[h]at z;cases z)
   .exact .inl ⟨o,h⟩
  .exact .inr h
 unfold rE;exact⟨a,_,rfl,r,.ints⟩
def Rt{K:qh}{sp:qY}{ns:T0 Int}(hO:Ll H)(hS:yU K H a (ns.map V.int))(h:sp [.rl (ns.map D.int)] (λ_=>none) λd _=>d=.bl true):N0 K sp [.ref a] H (λv _=>v=.bl true) λ_ _ _=>False:=
 ⟨_,λ_=>none,_,.cons (UU hO hS) .nil,λ_ _ z=>(by cases z),h,λv H' d M' x1 _ _ x4=>by subst x4;exact x1.mI⟩
def L1{l:W.OpenLaw}{q:Pg}{XU:QQQ}{XP:(QQZ)->Heap->Prop}{YP:Wo->Heap->Prop}{d:DefRec}{K:Params->qh}{x:Str}{sp:qY}(hn:l.most=some 63)(Zu:d.params.defaults=[])(hr:rO k callerA) (hY:∀(w:Wo) (h:Heap),YP w h->(K w.params).In h) (YB:∀ns:T0 Int,ns.length<=63->sp [.rl (ns.map D.int)] (λ_=>none) λd _=>d=.bl true) (F:∀(w:Wo) (mg:QQZ) (fa:Addr) (h:Heap),(K w.params).In h->h.Ns mainGlobals mg->mg d.name=some (.ref fa)->
   ∃fd:FuncData,(∀(s:Sd) (u:Vl),BindsTo s fd ⟨[u],[]⟩ [(x,u)])/\∀base:Heap,(K w.params).In base->base.Ns mainGlobals mg->Tn l.prog w (K w.params) mg base k fa fd [x] sp):
  W.WalkO q XU XP YP l.row.toRowW d [] (λf vs=>PySem.call f vs):=
 L2.P8 (n:=63) (k:=k) (x:=x) (CX:=λ_=>NW) (sp:=λw=>N0 (K w.params) sp) hn (by decide) Zu hr hY F (λ_ _ a ns hl hO hS=>Rt hO hS (YB ns hl)) λ_ _ _ _ _ z=>z
def KD(K:qh)(mg:QQZ)(x:Str)(d:D):Prop:=A8 λv u=>mg x=some u/\qC v u/\∀H,rE K H d v
def SA{K:qh}{mg:QQZ}{x y:Str}{t:Tok}(h:mg x=some (.str y t)):KD K mg x (.str y):=⟨.str y,_,h,⟨t,rfl⟩,λ_=>.str⟩
def vQ{K:qh}{mg:QQZ}{x:Str}{y:Int}{t:Tok}(h:mg x=some (.int y t)):KD K mg x (.int y):=⟨.int y,_,h,⟨t,rfl⟩,λ_=>.int⟩
def uc{K:qh}{a:Addr}{ss:QQQ}{us:T0 Vl}{n:Nat}{sl:Array (Option Vl)}(h:K.lookup a=some ⟨.type "tuple",none,.seq us.toArray n,sl⟩)(r:qx (ss.map V.str) us)(hz:us.length<=1000):uU K (λ_=>none) a (ss.map V.str):=
 .inr ⟨_,us.toArray,n,h,rfl,rfl,rfl,by rw[dh,dH];omega,by simpa using r⟩
theorem Ag{K:qh}:∀{ss:QQQ},qe K H (ss.map D.str) (ss.map V.str)
 | []=>.nil
 | _::_=>.cons .str Ag
def OF{K:qh}{mg:QQZ}{x:Str}{a:Addr}{ss:QQQ}(h:mg x=some (.ref a))(q:uU K (λ_=>none) a (ss.map V.str)):KD K mg x (.tup (ss.map D.str)):=
 ⟨.ref a,_,h,rfl,λ_=>.tup (Jf q) Ag⟩
variable {d:D}{i:Expr}{td tk:T3}{F:T0 (Str × QQQ)}
def sE(hg:Gl X x)(h:KD X.K X.mg x d)(hd:zu x:=by decide):E3 X (.Name x pos) (c3 d):=by obtain⟨v,u,hm,r,hh⟩:=h;exact PE.mono (Fh hg hm r hd) λY H Q' zz=>x7 zz λU M Q hs hm ht k=>k _ H _ M (hh H) hm .refl ht
def Wf(F:T0 (Str×QQQ))(ta:T3):T3:=λU M Q=>ta U M λx M1=>match x with|.str k=>Q (.bl (KTD.datumAt k F).isSome) M1|_=>False
def Uo(F:T0 (Str×QQQ))(ta:T3):T3:=λU M Q=>ta U M λx M1=>match x with|.str k=>(KTD.datumAt k F).elim False λss=>Q (.tup (ss.map D.str)) M1|_=>False
def Ms(T:NM X.K X.mg x F)(hg:Gl X x)(he:E3 X e ta)(hd:zu x:=by decide)(hmk:behindInMarks .In (.Name x p)=false:=by rfl):E3 X (.Compare e [.In] [.Name x p] pos) (Wf F ta):=by
 obtain⟨a,hm,T⟩:=F1 T;refine PE.mono (Jr (r:=λy z H Q=>∃k,y=.str k/\z=.ref a/\Q (.bl (KTD.datumAt k F).isSome) H) (λW5 s Y H y z v u Q I ry rz ⟨k,e1,e2,q⟩=>?_) he (Fh (v:=.ref a) hg hm rfl hd) hmk) λY H Q' zz=>x7 zz λU M Q hs hm ht k=>⟨U,M,_,hs,hm,ht,λv H1 d M1 hd W7 e1 q1=>?_⟩
 .subst e1 e2;obtain⟨t,rfl⟩:=ry;obtain rfl:u=Value.ref a:=rz;exact S' (T s.heap I.nj) ⟨.bl (KTD.datumAt k F).isSome,H,I.tok _,rfl,q⟩
 .cases d with
  | str k'=>exact⟨k',hd.str_inv,rfl,k _ _ _ _ .bl W7 e1 q1⟩
  | _=>exact q1.elim
def KC(T:NM X.K X.mg x F)(hg:Gl X x)(he:E3 X e ta)(hd:zu x:=by decide)(hs:Bc e:=by exact λ_ _=>rfl):E3 X (.Subscript (.Name x p) e pos) (Uo F ta):=by
 obtain⟨a,hm,T⟩:=F1 T;refine PE.mono (Mh (r:=λz y H Q=>∃k ss,y=.str k/\z=.ref a/\KTD.datumAt k F=some ss/\∀t,uU X.K H t (ss.map V.str)->Q (.ref t) H) (λvalue Xe W5 s Y H z y o i Q I rz ry ⟨k,ss,e1,e2,e3,q⟩ hs=>?_) (Fh (v:=.ref a) hg hm rfl hd) he hs) λY H Q' zz=>x7 zz λU M Q hs hm ht k=>⟨U,M,_,hs,hm,ht,λv H1 d M1 hd W7 e1 q1=>?_⟩
 .subst e1 e2;obtain⟨t,rfl⟩:=ry;obtain rfl:o=Value.ref a:=rz;have hT:=yN (s:=s) (T s.heap I.nj);have h2:wpAny (model X.prog X.w) X.A (getItem (.ref a) (.str k t)) (EP X W5 Y Q) X.xe s:=NL (T s.heap I.nj) e3 λv ⟨t',e4,q4⟩=>⟨.ref t',H,I.tok _,e4,q t' (Jf q4)⟩;unfold subscriptTail;refine cT ?_;rw[j5 hT.not_modules];refine cT (jT hT jt.lookup ?_);have Xa:wpAny (model X.prog X.w) X.A (subscripted Xe false (.ref a) (.str k t)) (λr s₃=>wpAny (model X.prog X.w) X.A (letTemporaryGo value (.ref a) r>>=λ_=>pure r) (EP X W5 Y Q) X.xe s₃) X.xe s:=by rw[hs];exact wpAny_operating (dZ h2 (λr s₃ h₃=>cT (km (c9 h₃))) λ_ _ x=>x)
  first
   | exact c9 (cT Xa)
   | exact cT (c9 (cT Xa))
   | exact cT Xa
 .cases d with
  | str k'=>obtain⟨ss,e4,q2⟩:=qW q1;exact⟨k',ss,hd.str_inv,rfl,e4,λt qt=>k _ _ _ _ (.tup qt Ag) W7 e1 q2⟩
  | _=>exact q1.elim
def zd(M:Mp)(a:Addr):Option (T0 (qS×D)):=match M a with
 | some (.dk kvs)=>some kvs
 | _=>none
def vn(kvs:T0 (qS×D))(k:qS):Option D:=(kvs.find? λp=>decide (p.1=k)).map (·.2)
def zt{K:qh}{kvs:T0 (qS×D)}(hm:HM K H M)(h:zd M a=some kvs):∃vs,H a=some (.dK vs)/\vs.map (·.1)=kvs.map (·.1)/\qe K H (kvs.map (·.2)) (vs.map (·.2)):=by
 unfold zd at h;cases e:M a with
 | none=>rw[e]at h;cases h
 | some c=>
  rw[e]at h;have ok:=hm a c e;cases c with
  | dk es=>cases h;exact ok
  | ins _ _=>cases h
  | lst _=>cases h
  | exc _=>cases h
theorem Fv{K:qh}{k:qS}:∀{kvs:T0 (qS×D)} {vs:T0 (qS×V)},vs.map (·.1)=kvs.map (·.1)->qe K H (kvs.map (·.2)) (vs.map (·.2))->(∀d,vn kvs k=some d->∃v,wk vs k=some v/\rE K H d v)/\(vn kvs k=none->wk vs k=none)
 | [],[],_,_=>⟨λd z=>(by cases z),λ_=>rfl⟩
 | [],_::_,e,_=>by cases e
 | _::_,[],e,_=>by cases e
 | (j,d)::kvs,(j',v)::vs,e,h=>by
  have e1:j'=j:=by simpa using(gk e).1
  subst e1;obtain⟨x,r,e2,h1,h2⟩:=h.inv;obtain⟨e3,e4⟩:=gk e2;subst e3 e4;have ih:=Fv (k:=k) (kvs:=kvs) (vs:=vs) (gk e).2 h2;by_cases hk:j'=k
  .have g:vn ((j',d)::kvs) k=some d:=by simp[vn,hk]
   have g':wk ((j',v)::vs) k=some v:=by simp[wk,hk]
   rw[g,g'];exact⟨λd' z=>by cases z;exact⟨v,rfl,h1⟩,λz=>by cases z⟩
  .have g:vn ((j',d)::kvs) k=vn kvs k:=by simp[vn,hk]
   have g':wk ((j',v)::vs) k=wk vs k:=by simp[wk,hk]
   rw[g,g'];exact ih
def Nh(x y:D)(M:Mp)(Q:DK):Prop:=match x,y with
 | .ref a,.str k=>(zd M a).elim False λkvs=>(vn kvs (.inr k)).elim False λd=>Q d M
 | _,_=>False
def T7(td tk:T3):T3:=λU M Q=>td U M λx M1=>tk U M1 λy M2=>Nh x y M2 Q
def zp(hu:X.A.units+9<cLine)(ho:E3 X o td)(hi:E3 X i tk)(hs:Bc i:=by exact λ_ _=>rfl):E3 X (.Subscript o i pos) (T7 td tk):=by
 refine PE.mono (Mh (r:=R3 X.K Nh) (λvalue Xe W5 s Y H vx vy v u Q' I rx ry h hs=>?_) ho hi hs) Ih;obtain⟨x,y,M,Q,hx,hy,hm,q,k⟩:=h;unfold Nh at q;split at q
 .rename_i a0 k0;obtain⟨kvs,e1,q⟩:=qW q;obtain⟨d,e2,q⟩:=qW q;cases hx.mE;cases hy.str_inv;obtain⟨vs,h1,h2,h3⟩:=zt hm e1;obtain⟨w,e3,hw⟩:=(Fv h2 h3).1 d e2;refine QB (by omega) value Xe W5 s Y H _ _ v u Q' I rx ry ⟨_,w,rfl,?_,k _ _ _ _ hw hm .refl q⟩ hs;have g:=EM.k (k:=Sum.inr k0) h1;rw[e3]at g;exact g
 .exact q.elim
def SC(YH:Bool)(x y:D)(M:Mp)(Q:DK):Prop:=match x,y with
 | .str k,.ref a=>(zd M a).elim False λkvs=>Q (.bl (if YH then !(vn kvs (.inr k)).isSome else(vn kvs (.inr k)).isSome)) M
 | _,_=>False
def KS{K:qh}{k:qS}{kvs:T0 (qS×D)}{vs:T0 (qS×V)}(h2:vs.map (·.1)=kvs.map (·.1))(h3:qe K H (kvs.map (·.2)) (vs.map (·.2))):(wk vs k).isSome=(vn kvs k).isSome:=by
 obtain⟨a,b⟩:=Fv (k:=k) h2 h3;cases e:vn kvs k with
 | none=>rw[b e];rfl
 | some d=>obtain⟨v,e3,_⟩:=a d e;rw[e3];rfl
def VF(YH:Bool)(tk td:T3):T3:=λU M Q=>tk U M λx M1=>td U M1 λy M2=>SC YH x y M2 Q
def Uj(hu:X.A.units+9<cLine):xk X (compareOp .In) (R3 X.K (SC false)):=λW5 s Y H vx vy v u Q' I rx ry h=>by
 obtain⟨x,y,M,Q,hx,hy,hm,q,k⟩:=h;unfold SC at q;split at q
 .obtain⟨kvs,e1,q⟩:=qW q;cases hy.mE;cases hx.str_inv;obtain⟨vs,h1,h2,h3⟩:=zt hm e1;refine Sf (by omega) W5 s Y H _ _ v u Q' I rx ry ⟨_,_,rfl,EM.k (k:=Sum.inr _) h1,?_⟩;rw[KS h2 h3];exact k _ _ _ _ .bl hm .refl q
 .exact q.elim
def NJ(hu:X.A.units+9<cLine)(hi:E3 X i tk)(ho:E3 X o td)(hm:behindInMarks .In o=false:=by first|exact HN _|with_unfolding_all rfl):B3 X (.Compare i [.In] [o] pos) (b3 (VF false tk td)):=PT.mono (IL (Uj hu) hi ho hm) λY H Q' zz=>x7 zz λU M Q hs hm ht k=>
 Ih Y H _ ⟨U,M,_,hs,hm,ht,λv H1 d M1 hd W7 e1 q1=>by
  cases d with
  | bl c=>exact⟨c,hd.mI,k c H1 M1 W7 e1 q1⟩
  | _=>exact q1.elim⟩
def wH:T0 D->Option (T0 (qS×D))
 | []=>some []
 | .tup [.str k,d]::r=>(wH r).map ((.inr k,d)::·)
 | _::_=>none
theorem DF{K:qh}:∀{es:T0 D} {kvs:T0 (qS×D)} {xs:T0 V},wH es=some kvs->qe K H es xs->∃(ts:QXQ) (vs:T0 (qS×V)),xs=ts.map V.ref/\ts.length=vs.length/\vs.map (·.1)=kvs.map (·.1)/\qe K H (kvs.map (·.2)) (vs.map (·.2))/\
  ∀(j:Nat) (t:Addr) (p:qS×V),ts[j]?=some t->vs[j]?=some p->uU K H t [kV p.1,p.2]
 | [],_,_,e,h=>by cases e;exact⟨[],[],h.nil_inv,rfl,rfl,.nil,λj t p z=>by simp at z⟩
 | d::es,kvs,xs,e,h=>by
  obtain⟨x,r,rfl,h1,h2⟩:=h.inv;unfold wH at e;split at e
  .rename_i z;cases z
  .rename_i k d' r' z;cases z;cases q:wH es with
   | none=>rw[q]at e;cases e
   | some kvs'=>
    rw[q]at e;cases e;obtain⟨ts,vs,e1,e2,e3,e4,e5⟩:=DF q h2;obtain⟨a,ys,rfl,g1,g2⟩:=h1.mL;obtain⟨y,r1,rfl,g3,g4⟩:=g2.inv;obtain⟨w,r2,rfl,g5,g6⟩:=g4.inv;cases g6.nil_inv;cases g3.str_inv;refine⟨a::ts,(.inr k,w)::vs,by rw[e1];rfl,by simpa using e2,by rw[dR,dR,e3],.cons g5 e4,λj t p z1 z2=>?_⟩;cases j with
    | zero=>
     have z1':a=t:=by simpa using z1
     have z2':(Sum.inr k,w)=p:=by simpa using z2
     subst z1' z2';exact g1
    | succ j=>exact e5 j t p (by simpa using z1) (by simpa using z2)
  .cases e
def QI(ds:T0 D)(M:Mp)(Q:DK):Prop:=match ds with
 | [.ref a]=>(oR M a).elim False λes=>(wH es).elim False λkvs=>(kvs.map (·.1)).Nodup/\∀p,M p=none->Q (.ref p) (pB M p (.dk kvs))
 | _=>False
def EB(hc:X.calm=true):C3 X (.type "dict") QI:=by
 intro W5 s Y H vs us Q' I rv h;obtain⟨ds,M,Q,hd,hm,q,k⟩:=h;unfold QI at q;split at q
 .obtain⟨es,e1,q⟩:=qW q;obtain⟨kvs,e2,hnd,q⟩:=qW q;obtain⟨v,rfl,hv⟩:=r6 hd;cases hv.mE;obtain⟨xs,h1,h2,_⟩:=qr hm e1;obtain⟨ts,ws,rfl,f2,f3,f4,f5⟩:=DF e2 h2;refine Hh hc W5 s Y H _ us Q' I rv ⟨_,ts,ws,rfl,h1,f2,f5,by rw[f3];exact hnd,λd hd=>?_⟩;have e:qI X.K H (upd H d (.dK ws)):=.new hd;exact k _ _ _ _ .ref (hm.new (c:=.dk kvs) hd ⟨_,qa,f3,f4.mono e⟩) e (q d (hm.fresh hd))
 .exact q.elim
def Q9:bootBuiltins "set"=some (.type "set"):=by decide+kernel
def B5:T0 D->Option (QQQ)
 | []=>some []
 | .str x::r=>(B5 r).map (x::·)
 | _::_=>none
theorem B0:∀ss:QQQ,B5 (ss.map D.str)=some ss
 | []=>rfl
 | x::r=>by show(B5 (r.map D.str)).map (x::·)=_;rw[B0 r];rfl
theorem GU{K:qh}:∀{ds:T0 D} {ss:QQQ} {xs:T0 V},B5 ds=some ss->qe K H ds xs->xs=ss.map V.str
 | [],_,_,e,h=>by cases e;exact h.nil_inv
 | d::ds,_,_,e,h=>by
  obtain⟨x,r,rfl,h1,h2⟩:=h.inv;cases d with
  | str z=>
   unfold B5 at e;cases q:B5 ds with
   | none=>rw[q]at e;cases e
   | some ss=>rw[q]at e;cases e;rw[h1.str_inv,GU q h2];rfl
  | _=>cases e
def UT(ta:T3):T3:=λU M Q=>ta U M λx M1=>(Lo M1 x).elim False λes=>(B5 es).elim False λss=>ss.length<4000/\Q (.int (sT ss).length) M1
def Kj(hc:X.calm=true)(he:E3 X e ta)(hg1:Gl X "len")(W7:X.mg "len"=none)(hg2:Gl X "set")(Xm:X.mg "set"=none)(b1:bootBuiltins "len"=some (.builtin "len"))(b2:bootBuiltins "set"=some (.type "set")) (hs:starEach [e] X.env=[(false,eval e X.env)]:=by rfl):E3 X (.Call (.Name "len" p) [.Call (.Name "set" p2) [e] [] YV] [] pos) (UT ta):=
 PE.mono (Kl hc he hg1 W7 hg2 Xm b1 b2 hs) λY H Q' zz=>x7 zz λU M Q hs hm ht k=>⟨U,M,_,hs,hm,ht,λv H1 d M1 hd W7 e1 q1=>by
  obtain⟨es,e2,q1⟩:=qW q1;obtain⟨ss,e3,hz,q1⟩:=qW q1;obtain⟨a,xs,rfl,h1,h2⟩:=FC W7 hd e2;rw[GU e3 h2]at h1;have z:scanBound=4096:=rfl;exact⟨a,ss,rfl,h1,by omega,k _ _ _ _ .int W7 e1 q1⟩⟩
def Rg(x:D)(ds:T0 D)(M:Mp)(Q:DK):Prop:=match x,ds with
 | .ref a,[y]=>(oR M a).elim False λes=>es.length<sizeLine/\Q .mG (pB M a (.lst (es++[y])))
 | _,_=>False
def pU{es:T0 D}(h:oR M a=some es):M a=some (.lst es):=by
 unfold oR at h;split at h
 .rename_i e;rw[e];cases h;rfl
 .cases h
def E7{K:qh}{es:T0 D}(hm:HM K H M)(h:oR M a=some es):∃xs,H a=some (.lst xs)/\qe K H es xs:=hm a _ (pU h)
def JX:M3 X "list.append" Rg:=by
 intro W5 s Y H vx vs v us Q' I rx rv h;obtain⟨x,ds,M,Q,hx,hd,hm,q,k⟩:=h;unfold Rg at q;split at q
 .obtain⟨es,e1,hz,q⟩:=qW q;obtain⟨w,rfl,hw⟩:=r6 hd;cases hx.mE;obtain⟨xs,h1,h2⟩:=E7 hm e1;refine JO W5 s Y H _ _ v us Q' I rx rv ⟨_,xs,w,rfl,rfl,h1,by rw[<-h2.length];exact hz,?_⟩;obtain⟨Xm,ex⟩:=hm.put (c:=.lst (es++[_])) (pU e1) λex=>⟨_,qa,(h2.mono ex).snoc (hw.mono ex)⟩;exact k _ _ _ _ .mG Xm ex q
 .exact q.elim
def rJ(ho:E3 X o ta)(ha:A3 X (e::es) t)(Xi:attributeBase o "append" X.env (eval o X.env)=eval o X.env:=by rfl)
  (Yl:((backTo pos (starEach (e::es) X.env)).all (λx=>!x.1)&&(backToKw pos (keywordEach [] X.env)).all (λx=>x.1.isSome)&&decide ((e::es).length+([]:T0 Keyword).length+(if ([]:T0 Keyword).isEmpty then 0 else 1)<30))=true:=by rfl)
  (Xs:(W8.endLine==pos.line)=true:=by rfl) (hs:A7 X e es:=by rfl) (Xn:CP X pos es:=by rfl):
  E3 X (.Call (.Attribute o "append" W8) (e::es) [] pos) (Vx Rg ta t):=QZ PySem.F.slot_list_append PySem.F.type_list_append JX ho ha Xi Yl Xs hs Xn
def qp.none{M M2:Mp}{q:Addr}(s:qp M M2)(h:M2 q=none):M q=none:=by
 cases e:M q with
 | none=>rfl
 | some c=>rw[s q c e]at h;cases h
def qp.upd{M M2:Mp}{c:uK}(s:qp M M2):qp (pB M q c) (pB M2 q c):=λx d h=>by
 by_cases e:x=q
 .subst e;rw[pL]at h ⊢;exact h
 .rw[tW e]at h ⊢;exact s x d h
def qp.dk{ds:T0 (qS×D)}(s:qp M M')(h:zd M a=some ds):zd M' a=some ds:=by
 unfold zd at h ⊢;cases e:M a with
 | none=>rw[e]at h;cases h
 | some c=>rw[s a c e];rw[e]at h;exact h
def sd(p:Addr)(M M':Mp):Prop:=∀b c,b≠p->M b=some c->M' b=some c
def qp.keep{p:Addr}(s:qp M M'):sd p M M':=λb c _ h=>s b c h
def sd.trans{M M1 M2:Mp}{p:Addr}(a:sd p M M1)(b:sd p M1 M2):sd p M M2:=λx c n h=>b x c n (a x c n h)
def sd.put{p:Addr}{c:uK}:sd p M (pB M p c):=λb d n h=>by rw[tW n];exact h
def sd.lst{p a:Addr}{ds:T0 D}(k:sd p M M')(n:a≠p)(h:oR M a=some ds):oR M' a=some ds:=by have:=k a _ n (pU h);unfold oR;rw[this]
def sd.dk{p a:Addr}{ds:T0 (qS×D)}(k:sd p M M')(n:a≠p)(h:zd M a=some ds):zd M' a=some ds:=by
 unfold zd at h ⊢;cases e:M a with
 | none=>rw[e]at h;cases h
 | some c=>rw[k a c n e];rw[e]at h;exact h
def pP{a p C:Addr}{ds:T0 D}{fs:T0 (Str×D)}(h:oR M a=some ds)(hp:M p=some (.ins C fs)):a≠p:=λz=>by subst z;rw[pU h]at hp;cases hp
def CA{a p C:Addr}{ds:T0 (qS×D)}{fs:T0 (Str×D)}(h:zd M a=some ds)(hp:M p=some (.ins C fs)):a≠p:=λz=>by subst z;unfold zd at h;rw[hp]at h;cases h
def rM{M:Mp}{p:Addr}{ds:T0 D}(h:M p=some (.lst ds)):oR M p=some ds:=by unfold oR;rw[h]
def Ck{M:Mp}{p:Addr}{ds:T0 (qS×D)}(h:M p=some (.dk ds)):zd M p=some ds:=by unfold zd;rw[h]
def sX{N:Mp}{p q C:Addr}{fs fs':T0 (Str×D)}{c:uK}(hp:N p=some (.ins C fs))(hq:N q=none):
  q≠p/\pB N q c p=some (.ins C fs)/\sd p N (pB (pB N q c) p (.ins C fs'))/\pB (pB N q c) p (.ins C fs') q=some c/\pB (pB N q c) p (.ins C fs') p=some (.ins C fs'):=by
 have n:p≠q:=Tp hp hq;refine⟨dI n,by rw[tW n];exact hp,(qp.new hq).keep.trans .put,by rw[tW (dI n),pL],pL⟩
theorem Bp{g:D9}{te:T3}{ok:Mp->Prop}{Q:DK}(all:T0 D)(J:T0 D->T0 D->uY->Mp->Prop)(mM:∀p acc U M,J p acc U M->ok M):∀(ds pre acc:T0 D) (U:uY) (M:Mp),pre++ds=all->acc.length+ds.length<=sizeLine->J pre acc U M->
  (∀pre d post,pre++d::post=all->∀acc U M,J pre acc U M->∀k:uY->DK,(∀δ2 y M4,J (pre++[d]) (acc++[y]) δ2 M4->k δ2 y M4)->g d U M λδ2 M2=>te δ2 M2 (k δ2))->
  (∀acc U M,J all acc U M->∀p,M p=none->Q (.ref p) (pB M p (.lst acc)))->uO g Bt te ok Q ds acc U M
 | [],pre,acc,U,M,e,hl,j,_,hq=>⟨by simpa using hl,hq acc U M (by rw[<-e,eY];exact j)⟩
 | d::r,pre,acc,U,M,e,hl,j,ht,hq=>by rw[eh]at hl;refine⟨by omega,?_⟩;refine ht pre d r e acc U M j (λδ2 y M4=>ok M4/\uO g Bt te ok Q r (acc++[y]) δ2 M4) λδ2 y M4 j'=>⟨mM _ _ _ _ j',Bp all J mM r (pre++[d]) (acc++[y]) δ2 M4 (by rw[<-e,fk];rfl) ?_ j' ht hq⟩;rw[cW,dN];omega
def sI:Nat->D->Bool
 | _,.mG=>true
 | _,.bl _=>true
 | _,.int _=>true
 | _,.str _=>true
 | n+1,.tup ds=>ds.all (sI n)
 | _,_=>false
theorem yw{f:D->D->Option Bool}:∀ds:T0 D,(∀d∈ds,f d d=some true)->sF f ds ds=some true
 | [],_=>rfl
 | d::r,h=>by show(f d d).bind (λp=>(sF f r r).map λq=>p&&q)=some true;rw[h d dG,yw r λe he=>h e (dA _ he)];rfl
theorem xj:∀(n:Nat) (d:D),sI n d=true->ym M (n+1) d d=some true
 | _,.mG,_=>rfl
 | _,.bl _,_=>by simp[ym]
 | _,.int _,_=>by simp[ym]
 | _,.str _,_=>by simp[ym]
 | n+1,.tup ds,h=>by have h:ds.all (sI n)=true:=h;show(sF (ym M (n+1)) ds ds).map (λp=>p&&ds.length==ds.length)=some true;rw[yw ds λd hd=>xj n d (eC.mp h d hd)];simp
 | 0,.tup _,h=>by cases h
 | 0,.ref _,h=>by cases h
 | _+1,.ref _,h=>by cases h
 | 0,.ty _,h=>by cases h
 | _+1,.ty _,h=>by cases h
 | 0,.rl _,h=>by cases h
 | _+1,.rl _,h=>by cases h
def Aa{ds:T0 D}(ha:oR M a=some ds)(hb:oR M b=some ds)(h:∀d∈ds,ym M n d d=some true):ym M (n+1) (.ref a) (.ref b)=some true:=by show(oR M a).bind (λi=>(oR M b).bind λj=>if i.length=j.length then sF (ym M n) i j else some false)=some true;rw[ha,hb];show(if ds.length=ds.length then sF (ym M n) ds ds else some false)=some true;rw[cZ rfl];exact yw ds h
def RL(tc:Ay)(tb:xG):xG:=λE U M=>∃W:Nat->uY->Mp->Prop,(∃m,W m U M)/\∀m U M,W m U M->
 tc U M λb M1=>if b=true then tb {E with nx:=λδ' M'=>∃m',m'<m/\W m' δ' M',ct:=λδ' M'=>∃m',m'<m/\W m' δ' M',bk:=E.nx} U M1 else E.nx U M1
def LN{tc:Ay}{tb:xG}(hp:PassesOwn (model X.prog X.w) X.A X.env X.xe)(hc:B3 X c tc)(hb:HC X body tb):S3 X (.While c body [] pos) (RL tc tb):=
 PS.mono (Mb hp hc hb) λD' Y H ⟨U,M,E,hs,hm,⟨W,⟨m0,w0⟩,turn⟩,k1,k2,k3,k4⟩=>by
 refine⟨λm σ' H'=>∃δ' M',yP X.K H' σ' δ'/\HM X.K H' M'/\qI X.K H H'/\σ'.length=Y.length/\W m δ' M',⟨m0,U,M,hs,hm,.refl,rfl,w0⟩,?_⟩
 rintro m σ1 H1 ⟨δ1,M1,Z6,W7,e1,l1,w1⟩
 refine⟨δ1,M1,_,Z6,W7,turn m δ1 M1 w1,λb H2 M2 Xm e2 q2=>?_⟩;cases b with
 | false=>rw[cX dw]at q2 ⊢;exact k1 σ1 H2 δ1 M2 (Z6.mono e2) Xm (e1.trans e2) l1 q2
 | true=>
  rw[cZ rfl]at q2 ⊢;refine⟨λσ' H'=>∃δ' M',yP X.K H' σ' δ'/\HM X.K H' M'/\qI X.K H H'/\σ'.length=Y.length/\∃m',m'<m/\W m' δ' M',?_,δ1,M2,_,Z6.mono e2,Xm,q2,?_,?_,?_,?_⟩
  .rintro σ' H' ⟨δ',M',a1,a2,a3,a4,m',lt,w⟩
   exact⟨m',lt,δ',M',a1,a2,a3,a4,w⟩
  .exact λσ' H' δ' M' y1 y2 y3 y4 y5=>⟨δ',M',y1,y2,e1.trans (e2.trans y3),by rw[y4,l1],y5⟩
  .exact λv H' d M' y1 y2 y3 y4=>k2 v H' d M' y1 y2 (e1.trans (e2.trans y3)) y4
  .exact λσ' H' δ' M' y1 y2 y3 y4 y5=>k1 σ' H' δ' M' y1 y2 (e1.trans (e2.trans y3)) (by rw[y4,l1]) y5
  .exact λσ' H' δ' M' y1 y2 y3 y4 y5=>⟨δ',M',y1,y2,e1.trans (e2.trans y3),by rw[y4,l1],y5⟩
def RG(op:Operator)(x y:D):Option D:=match op,x,y with
 | .Add,.int i,.int j=>some (.int (i+j))
 | .Sub,.int i,.int j=>some (.int (i - j))
 | _,_,_=>none
def RP(op:Operator):V->V->Hp->VK->Prop:=λvx vy H Q=>match op,vx,vy with
 | .Add,.int i,.int j=>Q (.int (i+j)) H
 | .Sub,.int i,.int j=>Q (.int (i - j)) H
 | _,_,_=>False
def R0:QD X op (RP op):=by
 intro W5 s Y H x y u v Q I rx ry h;unfold RP at h;split at h
 .exact SW W5 s Y H _ _ u v Q I rx ry ⟨_,_,rfl,rfl,h⟩
 .exact RT W5 s Y H _ _ u v Q I rx ry ⟨_,_,rfl,rfl,h⟩
 .exact h.elim
def Pd{K:qh}{x y z:D}{Q:VK}(hx:rE K H x vx)(hy:rE K H y vy)(e:RG op x y=some z)(k:∀vz,rE K H z vz->Q vz H):RP op vx vy H Q:=by
 unfold RG at e;split at e
 .cases e;cases hx.int_inv;cases hy.int_inv;exact k _ .int
 .cases e;cases hx.int_inv;cases hy.int_inv;exact k _ .int
 .cases e
def TQ(K:qh)(f:Str)(op:Operator)(ta tv:T3):xG:=λE U M=>ta U M λx M1=>match x with
 | .ref a=>Ah (M1 a) λC fs=>tZ K C f/\(fs.lookup f).elim False λd=>tv U M1 λy M2=>(RG op d y).elim False λz=>Ah (M2 a) λC' fs'=>C'=C/\fs'.length<1000/\E.nx U (pB M2 a (.ins C (vJ f z fs')))
 | _=>False
def D8{f:Str}(ha:E3 X o ta)(hv:E3 X value tv):S3 X (.AugAssign (.Attribute o f Zd) op value pos) (TQ X.K f op ta tv):=
 PS.mono (KP ha hv R0) λD' Y H zz=>KR zz λU M E hs hm ht k1 k2 k3 k4=>
 ⟨U,M,_,hs,hm,ht,λv H1 d M1 hd W7 e1 q1=>by
  cases d with
  | ref a=>
   cases hd.mE;obtain⟨C,fs,e,q1⟩:=xF q1;obtain⟨na,q1⟩:=q1;obtain⟨d,ed,q1⟩:=qW q1;obtain⟨dx,vs,h1,cl,nn,fo⟩:=W7 a _ e;obtain⟨w,ew,hw⟩:=(wF fo).1 d ed;refine⟨a,C,dx,vs,w,rfl,h1,cl,na,ew,U,M1,_,hs.mono e1,W7,q1,λu H2 y M2 hy Xm e2 q2=>?_⟩;obtain⟨z,ez,q2⟩:=qW q2;obtain⟨C',fs',e',q2⟩:=xF q2;obtain⟨rfl,hl,q2⟩:=q2;refine Pd (hw.mono e2) hy ez λvz hz=>?_;obtain⟨ZP,vs',XN,cl',nn',fo'⟩:=Xm a _ e';have Xb:vs'.length=fs'.length:=by have:=eO List.length fo'.1;simpa using this
   refine⟨ZP,vs',XN,by omega,?_⟩;obtain⟨X4,e3⟩:=Xm.put (p:=a) (o:=.ins C' ZP (vm f vz vs')) (c:=.ins C' (vJ f z fs')) e' λx=>⟨ZP,_,qa,cl',λg hg=>by
    rcases BR hg with q|q
    .rw[q];exact na
    .exact nn' g q,El (hz.mono x) (fo'.mono x)⟩
   exact k1 Y _ U _ (hs.mono (e1.trans (e2.trans e3))) X4 (e1.trans (e2.trans e3)) rfl q2
  | _=>exact q1.elim⟩
theorem tM{i:Nat}{tt:Ay}{te:T3}{ok:Mp->Prop}{Q:DK}{f:D->D}{t:D->Bool}{M:Mp}(mM:ok M):∀(ds acc:T0 D) (U:uY),acc.length+ds.length<=sizeLine->
  (∀d∈ds,∀k:Bool->Mp->Prop,k (t d) M->tt (U.set i (some d)) M k)->(∀d∈ds,t d=true->∀k:DK,k (f d) M->te (U.set i (some d)) M k)->
  (∀p,M p=none->Q (.ref p) (pB M p (.lst (acc++(ds.filter t).map f))))->uO (uw i) tt te ok Q ds acc U M
 | [],acc,U,hl,_,_,hq=>⟨by simpa using hl,by simpa using hq⟩
 | d::r,acc,U,hl,ht,he,hq=>by
  rw[eh]at hl;refine⟨by omega,?_⟩;show tt (U.set i (some d)) M _;refine ht d dG _ ?_;have z:∀e:D,(U.set i (some d)).set i (some e)=U.set i (some e):=λe=>by rw[iR]
  cases q:t d with
  | true=>
   rw[cZ rfl];refine he d dG q _ ⟨mM,tM (f:=f) (t:=t) mM r (acc++[f d]) _ ?_ (λe m k h=>?_) (λe m h0 k h=>?_) ?_⟩
   .rw[cW,dN];omega
   .rw[z];exact ht e (dA _ m) k h
   .rw[z];exact he e (dA _ m) h0 k h
   .intro p hp;have:=hq p hp;rw[iz q]at this
    simpa using this
  | false=>
   rw[cX dw];refine⟨mM,tM (f:=f) (t:=t) mM r acc _ (by omega) (λe m k h=>?_) (λe m h0 k h=>?_) ?_⟩
   .rw[z];exact ht e (dA _ m) k h
   .rw[z];exact he e (dA _ m) h0 k h
   .intro p hp;have:=hq p hp;rw[iA (by rw[q];exact dw)]at this;exact this
section
variable {a:Expr}
def VT(ta:T3):T3:=λU M Q=>ta U M λx M1=>match x with|.int i=>Q (.int (-i)) M1|_=>False
def E1(ha:E3 X a ta):E3 X (.UnaryOp .USub a pos) (VT ta):=PE.mono (Uy Sm ha) λY H Q' zz=>x7 zz λU M Q hs hm ht k=>
 ⟨U,M,_,hs,hm,ht,λv H1 d M1 hd W7 e1 q1=>by
  cases d with
  | int i=>cases hd.int_inv;exact⟨i,rfl,k _ H1 _ M1 .int W7 e1 q1⟩
  | _=>exact q1.elim⟩
end
end L3
namespace L2
open PySem.W
def BB{α:Type}(lt:Nat->Nat->Bool):KasT α->α
 | .ret a=>a
 | .ask i j k=>BB lt (k (lt i j))
def vj(n:Nat):KasT (Array Nat)->Bool
 | .ret p=>p.size==n&&p.toList.all λi=>decide (i<n)
 | .ask i j k=>decide (i<n)&&decide (j<n)&&vj n (k true)&&vj n (k false)
def Ga{n i j:Nat}{k:Bool->KasT (Array Nat)}(h:vj n (.ask i j k)=true):i<n/\j<n/\∀b,vj n (k b)=true:=by simp only[vj,dQ,d6]at h;exact⟨h.1.1.1,h.1.1.2,λb=>by cases b;exact h.2;exact h.1.2⟩
theorem GJ{cmp:Nat->Nat->(Bool->Sd->Prop)->Sd->Prop}{lt:Nat->Nat->Bool}{n:Nat}{Q:Array Nat->Sd->Prop}(hc:∀i j (C:Bool->Sd->Prop),i<n->j<n->C (lt i j) s->cmp i j C s):
  ∀t:KasT (Array Nat),vj n t=true->Q (BB lt t) s->t.kasWp cmp Q s
 | .ret _,_,q=>q
 | .ask i j k,hb,q=>by obtain⟨h1,h2,h3⟩:=Ga hb;exact hc i j _ h1 h2 (GJ hc (k (lt i j)) (h3 _) q)
theorem Iy:∀t:KasT (Array Nat),vj n t=true->(BB lt t).size=n/\∀i∈(BB lt t).toList,i<n
 | .ret p,hb=>by simp only[vj,dQ,fh,eC,d6]at hb;exact hb
 | .ask i j k,hb=>Iy (k (lt i j)) ((Ga hb).2.2 _)
def tQ(lt:Nat->Nat->Bool)(n:Nat):T0 Nat:=if n<2 then List.range n else(BB lt (kas_sort n)).toList
def VN:vj 2 (kas_sort 2)=true:=by decide+kernel
def VS:vj 3 (kas_sort 3)=true:=by decide+kernel
def Ui{n:Nat}(h2:2<=n)(h3:n<=3):vj n (kas_sort n)=true:=by
 have:n=2\/n=3:=by omega
 rcases this with rfl|rfl
 .exact VN
 .exact VS
def xM{n:Nat}(h3:n<=3):(tQ lt n).length=n/\∀i∈tQ lt n,i<n:=by
 unfold tQ;by_cases h:n<2
 .rw[cZ h,eB];exact⟨rfl,λi hi=>gc.mp hi⟩
 .rw[cX h];obtain⟨h1,h2⟩:=Iy (lt:=lt) (kas_sort n) (Ui (by omega) h3);exact⟨by rw[ig];exact h1,h2⟩
variable {prog:Pg}{w:Wo}{A:Ar}{E:QQX}{s:Sd}
def CT{a:Addr}{vs:T0 Vl}{n:Nat}{κ:SortKind}{lt:Nat->Nat->Bool}{P:PySem.Fin->Sd->Prop}(ho:s.heap.get? a=some (seqObj "list" vs.toArray n))(h3:vs.length<=3) (hk:∀h' (Q:SortKind->Sd->Prop),0<vs.length->(∀b o,b≠a->s.heap.get? b=some o->h'.get? b=some o)->Q κ {s with heap:=h'}->wpAny (model prog w) A (keyKind' vs.toArray) Q (λ_ _=>False) {s with heap:=h'})
  (Xg:∀h' i j (C:Bool->Sd->Prop),(∀b o,b≠a->s.heap.get? b=some o->h'.get? b=some o)->i<vs.length->j<vs.length->C (lt i j) {s with heap:=h'}->wpAny (model prog w) A (keyLt' κ (vs.getD i .none) (vs.getD j .none)) C (λ_ _=>False) {s with heap:=h'})
  (h:P (.done (.ret .none)) {s with heap:=sortedHeap s.heap a vs (List.toArray ((tQ lt vs.length).map λi=>vs.getD i Value.none))}):
  wpAny (model prog w) A (Builtin.«list.sort» ⟨[.ref a],[]⟩) P E s:=by
 rw[list_sort_plain];have hz:=dH;have ha:a<s.heap.objs.size:=dq ho;refine cT (listItems_at ho rfl ?_);refine cT (ky ho rfl ?_ (by rw[dh];omega) (eD _));obtain⟨e1,ZX⟩:∃e1,(s.heap.update a (Obj.mapSeq λ_=>#[])).get? a=some (seqObj "list" #[] e1):=⟨_,get?_update_seq ho (λ_=>#[])⟩;refine cT (lA ZX rfl ?_);refine cT (wpAny_newTuple ?_ (by show vs.length<=_;omega));refine cT (wpAny_newList ?_ (eD _));refine eK ?_;have ho6:(((s.heap.update a (Obj.mapSeq λ_=>#[])).push (seqObj "tuple" vs.toArray 0)).push (seqObj "list" #[] 0)).get? a=some (seqObj "list" #[] e1):=by rw[iD _ _ _ (by rw[lX,iJ];exact dC (fT ha)),iD _ _ _ (by rw[iJ];exact dC ha)];exact ZX
 have keep:∀b o,b≠a->s.heap.get? b=some o->(((s.heap.update a (Obj.mapSeq λ_=>#[])).push (seqObj "tuple" vs.toArray 0)).push (seqObj "list" #[] 0)).get? b=some o:=λb o hb q=>by have Xg:b<s.heap.objs.size:=dq q;rw[iD _ _ _ (by rw[lX,iJ];exact dC (fT Xg)),iD _ _ _ (by rw[iJ];exact dC Xg),iZ _ _ _ _ hb];exact q
 show wpAny (model prog w) A _ P E {s with heap:=((s.heap.update a (Obj.mapSeq λ_=>#[])).push (seqObj "tuple" vs.toArray 0)).push (seqObj "list" #[] 0)};dsimp only;have hsz:vs.toArray.size=vs.length:=by simp
 by_cases h2:vs.toArray.size<2
 .rw[cZ h2,cZ h2];refine cT (c9 ?_);rw[StateT.run_pure];refine cT (c9 ?_);dsimp only;refine cT (lA ho6 rfl ?_);have eo:(arrOf (SortSt.mk' general' (vs.toArray.zip vs.toArray) #[] 7 none)).map (·.2)=List.toArray ((tQ lt vs.length).map λi=>vs.getD i Value.none):=by
   unfold tQ;rw[cZ (by omega)];show((vs.toArray.zip vs.toArray).map (·.2))=_
   match vs,hsz,h2 with
   | [],_,_=>simp
   | [_],_,_=>simp[iS]
   | _::_::_,_,h2=>simp at h2;omega
  rw[eo];refine cT (ky ho6 rfl ?_ (eD _) (by rw[dh,cS,(xM h3).1];omega));simp only[lw,kT,kg];exact c9 h
 .rw[cX h2,cX h2];have g2:2<=vs.length:=by omega
  refine cT (dZ (hk _ (λκ' s'=>κ'=κ/\s'={s with heap:=((s.heap.update a (Obj.mapSeq λ_=>#[])).push (seqObj "tuple" vs.toArray 0)).push (seqObj "list" #[] 0)}) (by omega) keep ⟨rfl,rfl⟩) ?_ λ_ _ x=>x.elim)
  rintro κ' s' ⟨rfl,rfl⟩
  refine cT (dZ (kat_run (ks:=vs) (vs:=vs) (Q:=λXX s'=>∃p:Array Nat,arrOf XX=p.map (kas_item (vs.toArray.zip vs.toArray))/\failedOf XX=none/\p.toList=tQ lt vs.length/\s'={s with heap:=((s.heap.update a (Obj.mapSeq λ_=>#[])).push (seqObj "tuple" vs.toArray 0)).push (seqObj "list" #[] 0)})
   (G:=λp s'=>p.toList=tQ lt vs.length/\s'={s with heap:=((s.heap.update a (Obj.mapSeq λ_=>#[])).push (seqObj "tuple" vs.toArray 0)).push (seqObj "list" #[] 0)})
   rfl g2 (by omega) (λp' XX s' a1 a2 a3 a4=>⟨p',a2,a3,a4⟩) (GJ (n:=vs.length) (lt:=lt) (λi j C hi hj hC=>Xg _ i j C keep hi hj hC) _ (Ui g2 h3) ⟨by unfold tQ;rw[cX (by omega)],rfl⟩)) ?_ λ_ _ e=>e)
  rintro ⟨⟨⟩,XX⟩ s' ⟨p,har,hf,hp,rfl⟩
  dsimp only;have hout:=kat_snds rfl har;rw[hp]at hout;refine cT (lA ho6 rfl ?_);rw[hout];refine cT (ky ho6 rfl ?_ (eD _) (by rw[dh,cS,(xM h3).1];omega));rw[hf];simp only[lw,kT,kg];exact c9 h
def Vh(a b:Str×Int):Bool:=if a.1==b.1 then(if a.2==b.2 then false else decide (a.2<b.2))else decide (a.1.cps.toList<b.1.cps.toList)
def PL{x y:Addr}{ox oy:Obj}{n k:Nat}{a b:Str×Int}{t1 t2 t3 t4:Tok}{C:Bool->Sd->Prop}(hx:s.heap.get? x=some ox)(dx:ox.data=.seq #[.str a.1 t1,.int a.2 t2] n)(hy:s.heap.get? y=some oy)(dy:oy.data=.seq #[.str b.1 t3,.int b.2 t4] k)(h:C (Vh a b) s):
  wpAny (model prog w) A (keyLt' (tuples' true) (.ref x) (.ref y)) C E s:=by
 refine kat_lt hx dx hy dy ?_;show KatLex prog w A true _ C [(Value.str a.1 t1,Value.str b.1 t3),(Value.int a.2 t2,Value.int b.2 t4)] 0 s;unfold Vh at h;refine kat_cons (eqBool_str ?_);cases e:a.1==b.1 with
 | true=>
  rw[e,cZ rfl]at h;refine kat_yes (kat_cons (lC ?_));cases e2:a.2==b.2 with
  | true=>rw[e2,cZ rfl]at h;exact kat_yes (kat_nil h)
  | false=>rw[e2,cX dw]at h;exact kat_no (kat_one _ _ (PyProof.Rows.lt_int h))
 | false=>rw[e,cX dw]at h;exact kat_no (oneLt_str h)
def Dd{x:Str}(h:Bx (.inr x) v=true):∃t,v=.str x t:=by
 rcases rK h with⟨i,t,e,_⟩|⟨y,t,e,e2⟩
 .cases e
 .cases e;exact⟨t,e2⟩
def EN(ps:T0 (Str×Int))(i j:Nat):Bool:=Vh (ps.getD i ("",0)) (ps.getD j ("",0))
def tF(ps:T0 (Str×Int)):T0 (Str×Int):=(tQ (EN ps) ps.length).map λi=>ps.getD i ("",0)
def DJ{ps:T0 (Str×Int)}(h:ps.length<=3):(tF ps).length=ps.length:=by unfold tF;rw[cS];exact(xM h).1
def Pr(h:Heap)(a:Addr)(p:Str×Int):Prop:=A8 λt1 t2=>h.get? a=some {cls:=.type "tuple",data:=.seq #[.str p.1 t1,.int p.2 t2]}
def Pr.inj{p q:Str×Int}(x:Pr h a p)(y:Pr h a q):p=q:=by obtain⟨t1,t2,e1⟩:=x;obtain⟨u1,u2,e2⟩:=y;rw[e1]at e2;have:=df e2;simp only[Obj.mk.injEq,Data.seq.injEq,Array.mk.injEq,List.cons.injEq,Value.str.injEq,Value.int.injEq]at this;exact mi (by simp_all) (by simp_all)
theorem IM:∀(as:QXQ) (ps:T0 (Str×Int)),as.length=ps.length->(∀(j:Nat) (a:Addr) (p:Str×Int),as[j]?=some a->ps[j]?=some p->Pr h a p)->∃fs,KatTups h (as.map Value.ref) fs/\fs.length=as.length/\∀v∈fs,∃x t,v=Value.str x t
 | [],[],_,_=>⟨[],.nil,rfl,λv hv=>nomatch hv⟩
 | [],_::_,e,_=>by cases e
 | _::_,[],e,_=>by cases e
 | a::as,p::ps,e,hp=>by
  obtain⟨fs,h1,h2,h3⟩:=IM as ps (by simpa using e) λj a' p' e1 e2=>hp (j+1) a' p' (by simpa using e1) (by simpa using e2);obtain⟨t1,t2,ea⟩:=hp 0 a p rfl rfl;refine⟨.str p.1 t1::fs,.cons ea rfl rfl rfl h1,by simp[h2],λv hv=>?_⟩;rcases de.mp hv with z|z
  .exact⟨_,_,z⟩
  .exact h3 v z
def GX{r d:Addr}{kvs:T0 (qS×Vl)}{ep:Nat}{ps:T0 (Str×Int)}{Q:QQX}(hh:A.handled=none)(hv:s.heap.IsItemsView r d)(hm:s.heap.DictAt (rg prog w) d kvs ep)(h3:ps.length<=3) (hp:kvs.length=ps.length) (hps:∀(j:Nat) (k:qS) (x:Vl),kvs[j]?=some (k,x)->∃p t,ps[j]?=some p/\k=Sum.inr p.1/\x=.int p.2 t) (h:∀(h':Heap) (tk:Nat) (S:Addr) (ws:QXQ) (e:Nat),(∀b o,s.heap.get? b=some o->h'.get? b=some o)->r<S->h'.get? S=some (seqObj "list" (ws.map Value.ref).toArray e)->ws.length=ps.length->
    (∀(j:Nat) (a:Addr) (p:Str×Int),ws[j]?=some a->(tF ps)[j]?=some p->r<a/\a≠S/\Pr h' a p)->Q (.ref S) {s with heap:=h',toks:=tk}):
  wpAny (model prog w) A (call (.builtin "sorted") [.ref r]) Q E s:=by
 have hz:=dH;have hr:r<s.heap.objs.size:=by obtain⟨o,ho,_⟩:=hv;exact dq ho
 refine Calls.call_function_entry kind_sorted plain_sorted entry_sorted (args_sorted1 _) ?_;unfold Builtin.«sorted»;refine cT (m:=checkCount "sorted" 1 1 _) (c9 ?_);refine cT (kdx_collect (A:=A.in1) hh hv hm (by omega) λh1 tk as hk hl hG=>?_);refine cT (wpAny_newList ?_ (by rw[cS];omega));have hl':as.length=ps.length:=by omega
 have pr:∀(j:Nat) (a:Addr) (p:Str×Int),as[j]?=some a->ps[j]?=some p->Pr h1 a p:=λj a p e1 e2=>by obtain⟨key,k,x,f1,f2,f3⟩:=hG.pairs j a e1;obtain⟨p',t,g1,g2,g3⟩:=hps j k x f1;rw[e2]at g1;cases g1;subst g2 g3;obtain⟨t',rfl⟩:=Dd f2;exact⟨t',t,f3⟩
 have hoL:(h1.push (seqObj "list" (as.map Value.ref).toArray 0)).get? h1.objs.size=some (seqObj "list" (as.map Value.ref).toArray 0):=dE _ rfl;have pr2:∀h',(∀b o,b≠h1.objs.size->(h1.push (seqObj "list" (as.map Value.ref).toArray 0)).get? b=some o->h'.get? b=some o)->∀(j:Nat) (a:Addr) (p:Str×Int),as[j]?=some a->ps[j]?=some p->Pr h' a p:=λh' kp j a p e1 e2=>by obtain⟨t1,t2,e3⟩:=pr j a p e1 e2;exact⟨t1,t2,kp _ _ (dC (dq e3)) (cY _ e3)⟩
 have gd:∀i,i<as.length->∃a p,as[i]?=some a/\ps[i]?=some p/\(as.map Value.ref).getD i Value.none=.ref a/\ps.getD i ("",0)=p:=λi hi=>by
  have X1:i<ps.length:=by omega
  refine⟨as[i],ps[i],cV hi,cV X1,?_,?_⟩
  .simp[hi]
  .simp[X1]
 have hll:(as.map Value.ref).length=ps.length:=by rw[cS];exact hl'
 show wpAny _ _ _ _ _ {s with heap:=h1.push (seqObj "list" (as.map Value.ref).toArray 0),toks:=tk};refine cT (eK (fR slot_list_sort ⟨_,hoL,rfl⟩ entry_list_sort (CT (κ:=tuples' true) (lt:=EN ps) (s:={s with heap:=h1.push (seqObj "list" (as.map Value.ref).toArray 0),toks:=tk}) hoL (by rw[hll];exact h3) (λh' Q' Xt kp hq=>?_) (λh' i j C kp hi hj hC=>?_) ⟨_,rfl,?_⟩) (args_list_sort _)))
 .obtain⟨fs,k1,k2,k3⟩:=IM as ps hl' (pr2 h' kp);refine kat_kind (T:=Value.type "str") k1 (by rw[k2];rw[cS]at Xt;exact Xt) (λv hv=>?_) (by decide) hq;obtain⟨x,t,rfl⟩:=k3 v hv;exact Looks.now
 .rw[cS]at hi hj;obtain⟨a,p,a1,a2,a3,a4⟩:=gd i hi;obtain⟨b,q,b1,b2,b3,b4⟩:=gd j hj;rw[a3,b3];obtain⟨t1,t2,e1⟩:=pr2 h' kp i a p a1 a2;obtain⟨t3,t4,e2⟩:=pr2 h' kp j b q b1 b2;refine PL (s:={s with heap:=h',toks:=tk}) e1 rfl e2 rfl ?_;show C (Vh p q) _;rw[<-a4,<-b4];exact hC
 .obtain⟨e,he⟩:=sortedHeap_at (h:=h1.push (seqObj "list" (as.map Value.ref).toArray 0)) (a:=h1.objs.size) (vs:=as.map Value.ref) (out:=List.toArray ((tQ (EN ps) (as.map Value.ref).length).map λi=>(as.map Value.ref).getD i Value.none)) hoL;have old:∀b o,h1.get? b=some o->(sortedHeap (h1.push (seqObj "list" (as.map Value.ref).toArray 0)) h1.objs.size (as.map Value.ref) (List.toArray ((tQ (EN ps) (as.map Value.ref).length).map λi=>(as.map Value.ref).getD i Value.none))).get? b=some o:=λb o q=>by have hb:=dq q;rw[sortedHeap_old (dC hb) (by rw[lX];exact fT hb)];exact cY _ q
  have ix:=xM (lt:=EN ps) h3;have eo:((tQ (EN ps) (as.map Value.ref).length).map λi=>(as.map Value.ref).getD i Value.none)=((tQ (EN ps) ps.length).map λi=>as.getD i 0).map Value.ref:=by
   rw[hll,dX];refine gq λi hi=>?_;have:=ix.2 i hi;have YJ:i<as.length:=by omega
   simp[YJ]
  refine c9 ⟨_,rfl,h _ tk h1.objs.size ((tQ (EN ps) ps.length).map λi=>as.getD i 0) e (λb o q=>old b o (hk b o q)) ?_ ?_ ?_ λj a p e1 e2=>?_⟩
  .obtain⟨o,ho,_⟩:=hv;exact dq (hk _ _ ho)
  .rw[he,eo]
  .rw[cS];exact ix.1
  .unfold tF at e2;rw[dz]at e1 e2;cases ei:(tQ (EN ps) ps.length)[j]? with
   | none=>rw[ei]at e1;cases e1
   | some i=>
    rw[ei]at e1 e2;have hi:=ix.2 i (fm ei);obtain⟨a',p',a1,a2,a3,a4⟩:=gd i (by omega);have ea:a=a':=by have:as.getD i 0=a:=df e1;rw[<-this];simp[fZ,a1]
    have ep:p=p':=by have:ps.getD i ("",0)=p:=df e2;rw[<-this,a4]
    subst ea ep;have P1:=pr i a p a1 a2;obtain⟨t1,t2,e3⟩:=P1;exact⟨il hr (hG.above a (fm a1)),dC (dq e3),t1,t2,old _ _ e3⟩
def Inv.many{W5:QQY}{H H':Hp}{h':Heap}{t':Nat}(I:Inv X W5 Y H s)(k:∀b o,s.heap.get? b=some o->h'.get? b=some o)(hs:∀b,b<s.heap.objs.size->H' b=H b) (new:∀b o,s.heap.objs.size<=b->H' b=some o->sJ X.prog X.w H' h' b o):Inv X W5 Y H' {s with heap:=h',toks:=t'}:=by
 have sm:∀b o,H b=some o->H' b=some o:=λb o e=>by rw[hs b (I.mM.lt e)];exact e
 refine I.step (g':=s.gens) (d':=s.drawn) (ch:=[]) (λb hb=>nomatch hb) (λb o _ _ _ e _=>k b o e) (λb o _ _ _ e _=>⟨o.slots,k b o e⟩) (λb o _ e n=>by rw[hs b (dq e)];exact n)
  (λb o _ e=>⟨o,k b o e⟩) (λb xs e=>sm b _ e) (λb o u e=>sm b _ e) (λb ps e=>⟨#[],by rw[sm b _ e];simp⟩) (λm hm=>?_) (λb u e=>?_) I.bare
 .obtain⟨o,es,ep,ho,r⟩:=hm;exact⟨o,es,ep,k _ o ho,r⟩
 .by_cases hb:b<s.heap.objs.size
  .rw[hs b hb]at e;exact(I.mM b u e).ni (λc v _ q=>k c v q) (λc q=>sm c _ q) λc xs q=>sm c _ q
  .exact new b u (jD hb) e
def SN(te:TE):TE:=λY H Q=>te Y H λv H1=>∃a kvs ps,v=.ref a/\H1 a=some (.dK kvs)/\kvs=(ps:T0 (Str×Int)).map (λp=>((Sum.inr p.1:qS),V.int p.2))/\ps.length<=3/\
 ∀(S:Addr) (H2:Hp) (ws:QXQ),H1 S=none->(∀b o,H1 b=some o->H2 b=some o)->H2 S=some (.lst (ws.map V.ref))->ws.length=ps.length->(∀(j:Nat) (a:Addr) (p:Str×Int),ws[j]?=some a->(tF ps)[j]?=some p->H2 a=some (.tup [.str p.1,.int p.2]))->
  (∀b o,H1 b=none->H2 b=some o->b=S\/∃p:Str×Int,o=.tup [.str p.1,.int p.2])->Q (.ref S) H2
def Ki:bootBuiltins "sorted"=some (.builtin "sorted"):=by decide+kernel
theorem Jn:∀{ps:T0 (Str×Int)} {vs:T0 (qS×Vl)},KV (ps.map (λp=>((Sum.inr p.1:qS),V.int p.2))) vs->vs.length=ps.length/\∀(j:Nat) (k:qS) (x:Vl),vs[j]?=some (k,x)->∃p t,ps[j]?=some p/\k=Sum.inr p.1/\x=.int p.2 t
 | [],_,.nil=>⟨rfl,λj k x e=>by simp at e⟩
 | p::ps,_,.cons r rs=>by
  obtain⟨h1,h2⟩:=Jn rs;refine⟨by simp[h1],λj k x e=>?_⟩;cases j with
  | zero=>have e:=df e;obtain⟨r1,t,r2⟩:=r;subst e;exact⟨p,t,rfl,r1.symm,r2⟩
  | succ j=>exact h2 j k x e
def FO{X:Cx}{te:TE}{p pos W8 Xc:Pos}(hc:X.calm=true)(he:PE X o te)(hg:Gl X "sorted")(hm:X.mg "sorted"=none) (Xi:attributeBase o "items" X.env (eval o X.env)=eval o X.env:=by rfl) (Xs:(W8.endLine==Xc.line)=true:=by rfl):
  PE X (.Call (.Name "sorted" p) [.Call (.Attribute o "items" W8) [] [] Xc] [] pos) (SN te):=by
 intro W5 s Y H Q I h;refine fP (wB I hg hm Ki ?_);refine gN ?_ rfl rfl;show wpAny _ _ (spliced ((false,eval (.Call (.Attribute o "items" W8) [] [] Xc) X.env)::backTo pos (starEach [] X.env))) _ _ s;refine ik ?_;refine wpAny_Call_method0_late Xi Xs (sf (he W5 s Y H _ I h) λv s1 zz=>?_);obtain⟨x,H1,I1,r1,a,kvs,ps,ex,ea,ek,h3,q⟩:=zz;subst ex;obtain rfl:v=Value.ref a:=r1;obtain⟨h1,h2⟩:=K2 (T:="dict") (x:=.ref a) I1 rfl (.inr (.inr (.inl ⟨rfl,.inl ⟨_,ea⟩⟩)));refine⟨"dict","dict.items",PySem.F.plainAttrs_dict,jO,PySem.F.type_dict_items,h1,h2,jY rfl (PySem.evalArgs_none ?_)⟩;obtain⟨hz,hS,vs,rk,hD⟩:=I1.mM a _ ea;refine call_meetsIn jO h1 PySem.F.entry_dict_items (PySem.F.args_dict_items_1 _) (meets_dict_items (rg X.prog X.w) a hS) ⟨⟨vs,hD⟩,?_⟩;refine iC ?_;obtain⟨ep,Zz⟩:=hD.dictAt;subst ek;obtain⟨g1,g2⟩:=Jn rk;refine GX (ps:=ps) (s:={s1 with heap:=s1.heap.push {cls:=.type "dict_items",data:=.fields #[.ref a]}}) (I1.ok.hd hc) ⟨_,dE _ rfl,rfl,rfl⟩ (Zz.push _) h3 g1 g2 λh' tk S ws e k hrS YT hl hw=>?_;have k':∀b o,s1.heap.get? b=some o->h'.get? b=some o:=λb o z=>k b o (cY _ z);have hsl:(tF ps).length=ws.length:=by rw[DJ h3,hl]
 let H2:Hp:=λb=>if b=S then some (.lst (ws.map V.ref))else match (ws.zip (tF ps)).lookup b with
  | some p=>some (.tup [.str p.1,.int p.2])
  | none=>H1 b
 have at1:∀b p,(ws.zip (tF ps)).lookup b=some p->s1.heap.objs.size<b/\b≠S/\Pr h' b p:=λb p z=>by
  have:(b,p)∈ws.zip (tF ps):=by
   have go:∀l:T0 (Addr×(Str×Int)),l.lookup b=some p->(b,p)∈l:=λl=>by
    induction l with
    | nil=>intro z;cases z
    | cons c r ih=>
     intro z;rw[eE]at z;cases q:b==c.1 with
     | true=>
      rw[q]at z;have hb:b=c.1:=by simpa using q
      have:c=(b,p):=mi hb.symm (df z);rw[this];exact dG
     | false=>rw[q]at z;exact dA _ (ih z)
   exact go _ z
  obtain⟨j,hj⟩:=List.mem_iff_getElem?.mp this;obtain⟨e1,e2⟩:=ij.mp hj;exact hw j b p e1 e2
 have lowS:s1.heap.objs.size<S:=hrS;have low:∀b,b<s1.heap.objs.size->H2 b=H1 b:=λb hb=>by
  show(if b=S then _ else _)=_;rw[cX (dC (il hb lowS))];cases z:(ws.zip (tF ps)).lookup b with
  | none=>rfl
  | some p=>exact absurd (at1 b p z).1 (Nat.not_lt_of_lt hb)
 have eS:H2 S=some (.lst (ws.map V.ref)):=cZ rfl;have fr:∀b,s1.heap.objs.size<=b->H1 b=none:=λb hb=>I1.mM.fresh hb;have tupAt:∀(j:Nat) (b:Addr) (p:Str×Int),ws[j]?=some b->(tF ps)[j]?=some p->H2 b=some (.tup [.str p.1,.int p.2]):=λj b p e1 e2=>by
  obtain⟨_,n2,n3⟩:=hw j b p e1 e2;show(if b=S then _ else _)=_;rw[cX n2];have mem:(b,p)∈ws.zip (tF ps):=fm (ij.mpr ⟨e1,e2⟩);cases z:(ws.zip (tF ps)).lookup b with
  | none=>
   have go:∀l:T0 (Addr×(Str×Int)),(b,p)∈l->l.lookup b≠none:=λl=>by
    induction l with
    | nil=>intro z;cases z
    | cons c r ih=>
     intro z;rw[eE];cases q:b==c.1 with
     | true=>simp
     | false=>
      rcases de.mp z with y|y
      .rw[<-y]at q;simp at q
      .exact ih y
   exact absurd z (go _ mem)
  | some p'=>rw[(at1 b p' z).2.2.inj n3]
 have ZA:∀b u,s1.heap.objs.size<=b->H2 b=some u->sJ X.prog X.w H2 h' b u/\(b=S\/∃p:Str×Int,u=.tup [.str p.1,.int p.2]):=λb u hb z=>by
  by_cases eb:b=S
  .subst eb;rw[eS]at z;cases z;refine⟨⟨by rw[cS,hl,dH];omega,ws.map Value.ref,e,?_,YT⟩,.inl rfl⟩;have go:∀l:QXQ,qx (l.map V.ref) (l.map Value.ref):=λl=>by
    induction l with
    | nil=>exact .nil
    | cons c r ih=>exact .cons rfl ih
   exact go ws
  .have z':(match (ws.zip (tF ps)).lookup b with|some p=>some (HO.tup [.str p.1,.int p.2])|none=>H1 b)=some u:=by have:H2 b=_:=cX eb;rw[this]at z;exact z
   cases y:(ws.zip (tF ps)).lookup b with
   | none=>rw[y,fr b hb]at z';cases z'
   | some p=>rw[y]at z';cases z';obtain⟨_,_,t1,t2,e3⟩:=at1 b p y;exact⟨⟨by show 2<=sizeLine;rw[dH];decide,[.str p.1 t1,.int p.2 t2],.cons ⟨_,rfl⟩ (.cons ⟨_,rfl⟩ .nil),⟨_,e3,rfl,⟨_,rfl⟩,rfl⟩⟩,.inr ⟨p,rfl⟩⟩
 refine⟨.ref S,H2,I1.many (t':=tk) k' low λb u hb z=>(ZA b u hb z).1,rfl,q S H2 ws (fr S (jy lowS)) (λb u z=>by rw[low b (I1.mM.lt z)];exact z) eS hl tupAt λb u z1 z2=>?_⟩;by_cases hb:b<s1.heap.objs.size
 .rw[low b hb,z1]at z2;cases z2
 .exact(ZA b u (jD hb) z2).2
end L2
namespace L3
open L2
def Au(p:Str×Int):D:=.tup [.str p.1,.int p.2]
def S8(ta:T3):T3:=λU M Q=>ta U M λx M1=>match x with
 | .ref a=>∃ps:T0 (Str×Int),zd M1 a=some (ps.map λp=>((Sum.inr p.1:qS),D.int p.2))/\ps.length<=3/\∀S,M1 S=none->Q (.ref S) (pB M1 S (.lst ((tF ps).map Au)))
 | _=>False
theorem BF{K:qh}:∀{ps:T0 (Str×Int)} {vs:T0 (qS×V)},vs.map (·.1)=(ps.map λp=>((Sum.inr p.1:qS),D.int p.2)).map (·.1)->qe K H ((ps.map λp=>((Sum.inr p.1:qS),D.int p.2)).map (·.2)) (vs.map (·.2))->vs=ps.map (λp=>((Sum.inr p.1:qS),V.int p.2))
 | [],[],_,_=>rfl
 | [],_::_,e,_=>by cases e
 | _::_,[],e,_=>by cases e
 | p::ps,(k,v)::vs,e,h=>by obtain⟨x,r,e2,h1,h2⟩:=h.inv;obtain⟨e3,e4⟩:=gk e2;obtain⟨f1,f2⟩:=gk e;subst e3 e4;have hk:k=Sum.inr p.1:=f1;have hv:v=V.int p.2:=rE.int_inv h1;rw[BF f2 h2,hk,hv];rfl
def FL{X:Cx}{p pos W8 Xc:Pos}(hc:X.calm=true)(he:E3 X o ta)(hg:Gl X "sorted")(hm:X.mg "sorted"=none) (Xi:attributeBase o "items" X.env (eval o X.env)=eval o X.env:=by rfl) (Xs:(W8.endLine==Xc.line)=true:=by rfl):
  E3 X (.Call (.Name "sorted" p) [.Call (.Attribute o "items" W8) [] [] Xc] [] pos) (S8 ta):=PE.mono (FO hc he hg hm Xi Xs) λY H Q' zz=>x7 zz λU M Q hs hm ht k=>
 ⟨U,M,_,hs,hm,ht,λv H1 d M1 hd W7 e1 q1=>by
  cases d with
  | ref a=>
   cases hd.mE;obtain⟨ps,f1,f2,q⟩:=q1;obtain⟨vs,h1,h2,h3⟩:=zt W7 f1;refine⟨a,vs,ps,rfl,h1,BF h2 h3,f2,λS H2 ws n1 kp eS hl hw hn=>?_⟩;have ex:qI X.K H1 H2:=⟨λb xs z=>by
    rcases z with(z|⟨u,z⟩)|z
    .exact .inl (.inl (kp _ _ z))
    .exact .inl (.inr ⟨u,kp _ _ z⟩)
    .exact .inr z,λb u xs z=>kp _ _ z⟩
   have Z1:(tF ps).length=ws.length:=by rw[DJ f2,hl]
   have hasW:∀(l:T0 (Str×Int)) (us:QXQ),l.length=us.length->(∀(j:Nat) (a:Addr) (p:Str×Int),us[j]?=some a->l[j]?=some p->H2 a=some (.tup [.str p.1,.int p.2]))->qe X.K H2 (l.map Au) (us.map V.ref):=λl=>by
    induction l with
    | nil=>intro us e _;cases us with
     | nil=>exact .nil
     | cons _ _=>cases e
    | cons c r ih=>intro us e hu;cases us with
     | nil=>cases e
     | cons b us=>exact .cons (.tup (.of (hu 0 b c rfl rfl)) (.cons .str (.cons .int .nil))) (ih us (by simpa using e) λj a p e1 e2=>hu (j+1) a p e1 e2)
   refine k _ _ _ _ .ref (λb c z=>?_) (e1.trans ex) (q S (W7.fresh n1));by_cases eb:b=S
   .subst eb;rw[pL]at z;cases z;exact⟨_,eS,hasW _ _ Z1 hw⟩
   .rw[tW eb]at z;have ok:=W7 b c z;obtain⟨u,eu,_⟩:=ok.there;exact ok.keep ex (by rw[eu,kp _ _ eu])
  | _=>exact q1.elim⟩
variable {X:Cx}{pos:Pos}{a b o i:Expr}{ta tb ti to:T3}
def Ur(to ti:T3):D9:=λd U M Q=>to U M λx M1=>ti U M1 λy M2=>match x,y with
 | .ref p,.int k=>(oR M2 p).elim False λes=>(G7 es.length k).elim False λj=>Q U (pB M2 p (.lst (es.set j d)))
 | _,_=>False
theorem qe.set{K:qh}(hv:rE K H d v):∀{ds:T0 D} {xs:T0 V} (j:Nat),qe K H ds xs->qe K H (ds.set j d) (xs.set j v)
 | [],_,j,h=>by rw[h.nil_inv];simp only[List.set_nil];exact .nil
 | e::ds,_,0,h=>by obtain⟨x,r,rfl,h1,h2⟩:=h.inv;exact .cons hv h2
 | e::ds,_,j+1,h=>by obtain⟨x,r,rfl,h1,h2⟩:=h.inv;exact .cons h1 (qe.set hv j h2)
def SM(ho:E3 X o to)(hi:E3 X i ti) (ha:∀v,assign (.Subscript o i pos) X.env v=(do
   let ov<-holding [v] (eval o X.env);let iv<-holding [v,ov] (eval i X.env)
   standAt pos
   holding [v,ov,iv] (setItem ov iv v)
   release [v,ov,iv] []):=by intro _;rfl):G3 X (.Subscript o i pos) (Ur to ti):=
 PG.mono (Sh ho hi MS ha) λv Y H Q' ⟨d,U,M,Q,hd,hs,hm,ht,k⟩=>
 ⟨U,M,_,hs,hm,ht,λvx H1 x M1 hx W7 e1 q1=>⟨U,M1,_,hs.mono e1,W7,q1,λvy H2 y M2 hy Xm e2 q2=>by
  cases x with
  | ref p=>
   cases y with
   | int j0=>obtain⟨es,f1,q2⟩:=qW q2;obtain⟨j,f2,q2⟩:=qW q2;cases(hx.mono e2).mE;cases hy.int_inv;obtain⟨xs,h1,h2⟩:=E7 Xm f1;refine⟨p,xs,j0,j,rfl,rfl,h1,by rw[<-h2.length];exact f2,?_⟩;have hd2:=hd.mono (e1.trans e2);obtain⟨X4,e3⟩:=Xm.put (o:=.lst (xs.set j v)) (c:=.lst (es.set j d)) (pU f1) λex=>⟨_,qa,(h2.mono ex).set (hd2.mono ex) j⟩;exact k Y _ U _ (hs.mono (e1.trans (e2.trans e3))) X4 (e1.trans (e2.trans e3)) rfl q2
   | _=>exact q2.elim
  | _=>exact q2.elim⟩⟩
end L3
namespace L2
variable {prog:Pg}{w:Wo}{A:Ar}{E:QQX}{s:Sd}{X:Cx}
end L2
namespace L3
open L2
variable {X:Cx}{pos W8 p:Pos}{a b o e i value:Expr}{es:T0 Expr}{ta tb ti to tv td tk:T3}{t:w9}
def Ri(x y:D)(M:Mp)(Q:DK):Prop:=match x,y with
 | .ref a,.int k=>(oR M a).elim False λes=>(0<=k/\k<=1000/\es.length<=1000)/\∀p,M p=none->Q (.ref p) (pB M p (.lst (List.replicate k.toNat es).flatten))
 | _,_=>False
theorem IU{K:qh}(h:qe K H ds xs):∀n:Nat,qe K H (List.replicate n ds).flatten (List.replicate n xs).flatten
 | 0=>.nil
 | n+1=>by rw[eF,eF,fN,fN];exact h.append (IU h n)
def SH:xk X (binaryOp .Mult) (R3 X.K Ri):=λW5 s Y H vx vy v u Q' I rx ry h=>by
 obtain⟨x,y,M,Q,hx,hy,hm,q,k⟩:=h;unfold Ri at q;split at q
 .obtain⟨es,e1,⟨q1,q2,q3⟩,q⟩:=qW q;cases hx.mE;cases hy.int_inv;obtain⟨xs,h1,h2⟩:=E7 hm e1;have hz:=dH;have hl:=h2.length;refine RZ W5 s Y H _ _ v u Q' I rx ry ⟨_,_,xs,rfl,rfl,h1,by omega,by omega,?_,λpp hp=>?_⟩
  .exact dW (j6 (show xs.length<=1000 by omega) (show Int.toNat _<=1000 by omega)) (by rw[hz];decide)
  .exact k _ _ _ _ .ref (hm.new (c:=.lst _) hp ⟨_,qa,(IU h2 _).mono (.new hp)⟩) (.new hp) (q pp (hm.fresh hp))
 .exact q.elim
def Va(ta tb:T3):T3:=λU M Q=>ta U M λx M1=>tb U M1 λy M2=>Ri x y M2 Q
def BN(ha:E3 X a ta)(hb:E3 X b tb):E3 X (.BinOp a .Mult b pos) (Va ta tb):=PE.mono (Q1 SH ha hb) Ih
def Ci(kvs:T0 (qS×D))(k:qS)(v:D):T0 (qS×D):=if (kvs.any λkv=>decide (kv.1=k))=true then kvs.map (λkv=>if kv.1=k then(kv.1,v)else kv)else kvs++[(k,v)]
theorem G1{κ α β:Type}{k:κ}[DecidableEq κ]:∀{xs:T0 (κ×α)} {ys:T0 (κ×β)},xs.map (·.1)=ys.map (·.1)->(xs.any λkv=>decide (kv.1=k))=ys.any λkv=>decide (kv.1=k)
 | [],[],_=>rfl
 | [],_::_,e=>by cases e
 | _::_,[],e=>by cases e
 | x::xs,y::ys,e=>by obtain⟨e1,e2⟩:=gk e;rw[fY,fY,G1 e2];have e1:x.1=y.1:=e1;rw[e1]
def JR{K:qh}{k:qS}(hv:rE K H d v){kvs:T0 (qS×D)}{vs:T0 (qS×V)}(h1:vs.map (·.1)=kvs.map (·.1))(h2:qe K H (kvs.map (·.2)) (vs.map (·.2))):
  (yI vs k v).map (·.1)=(Ci kvs k d).map (·.1)/\qe K H ((Ci kvs k d).map (·.2)) ((yI vs k v).map (·.2)):=by
 have go:∀{kvs:T0 (qS×D)} {vs:T0 (qS×V)},vs.map (·.1)=kvs.map (·.1)->qe K H (kvs.map (·.2)) (vs.map (·.2))->
   (vs.map (λkv=>if kv.1=k then(kv.1,v)else kv)).map (·.1)=(kvs.map (λkv=>if kv.1=k then(kv.1,d)else kv)).map (·.1)/\qe K H ((kvs.map (λkv=>if kv.1=k then(kv.1,d)else kv)).map (·.2)) ((vs.map (λkv=>if kv.1=k then(kv.1,v)else kv)).map (·.2)):=λ{kvs}=>by
  induction kvs with
  | nil=>intro vs e h;cases vs with
   | nil=>exact⟨rfl,.nil⟩
   | cons _ _=>cases e
  | cons c r ih=>intro vs e h;cases vs with
   | nil=>cases e
   | cons w ws=>
    obtain⟨e1,e2⟩:=gk e;obtain⟨x,xr,e3,g1,g2⟩:=h.inv;obtain⟨e4,e5⟩:=gk e3;subst e4 e5;obtain⟨i1,i2⟩:=ih e2 g2;have e1:w.1=c.1:=e1;by_cases hk:c.1=k
    .have w1:(if w.1=k then(w.1,v)else w)=(w.1,v):=cZ (e1.trans hk);have w2:(if c.1=k then(c.1,d)else c)=(c.1,d):=cZ hk;simp only[dR,w1,w2];exact⟨by rw[i1,e1],.cons hv i2⟩
    .have w1:(if w.1=k then(w.1,v)else w)=w:=cX λz=>hk (e1.symm.trans z);have w2:(if c.1=k then(c.1,d)else c)=c:=cX hk;simp only[dR,w1,w2];exact⟨by rw[i1,e1],.cons g1 i2⟩
 unfold yI Ci;rw[G1 (k:=k) h1];by_cases hk:(kvs.any λkv=>decide (kv.1=k))=true
 .rw[cZ hk,cZ hk];exact go h1 h2
 .rw[cX hk,cX hk];exact⟨by rw[dP,dP,h1];rfl,by rw[dP,dP];exact h2.append (.cons hv .nil)⟩
def T5(td tk tv:T3):xG:=λD U M=>tv U M λv M1=>td U M1 λx M2=>tk U M2 λy M3=>match x,y with
 | .ref a,.str k=>(zd M3 a).elim False λkvs=>kvs.length<sizeLine/\D.nx U (pB M3 a (.dk (Ci kvs (.inr k) v)))
 | _,_=>False
def xX{a:Addr}{kvs:T0 (qS×D)}(h:zd M a=some kvs):M a=some (.dk kvs):=by
 unfold zd at h;split at h
 .rename_i e;rw[e];cases h;rfl
 .cases h
def Qa(hu:X.A.units+9<cLine)(ho:E3 X o td)(hi:E3 X i tk)(hv:E3 X value tv)(hs:swapsWith value (some (.Subscript o i Xh)) pos.line X.env=pure false:=by rfl):S3 X (.Assign [.Subscript o i Xh] value pos) (T5 td tk tv):=
 PS.mono (Pj (by omega) ho hi hv hs) λD' Y H zz=>KR zz λU M D hs hm ht k1 k2 k3 k4=>
 ⟨U,M,_,hs,hm,ht,λv H1 d M1 hd W7 e1 q1=>⟨U,M1,_,hs.mono e1,W7,q1,λvx H2 x M2 hx Xm e2 q2=>⟨U,M2,_,hs.mono (e1.trans e2),Xm,q2,λvy H3 y M3 hy X4 e3 q3=>by
  split at q3
  .rename_i a0 k0;obtain⟨kvs,f1,f2,q3⟩:=qW q3;cases(hx.mono e3).mE;cases hy.str_inv;obtain⟨vs,h1,h2,h3⟩:=zt X4 f1;have hl:vs.length=kvs.length:=by have:=eO List.length h2;simpa using this
   refine⟨_,_,rfl,KW.k (k:=Sum.inr k0) h1 (by omega),?_⟩;have hd3:=hd.mono (e2.trans e3);obtain⟨hm4,e4⟩:=X4.put (o:=.dK (yI vs (Sum.inr k0) v)) (c:=.dk (Ci kvs (.inr k0) d)) (xX f1) λex=>by obtain⟨g1,g2⟩:=JR (k:=Sum.inr k0) (hd3.mono ex) h2 (h3.mono ex);exact⟨_,qa,g1,g2⟩
   exact k1 Y _ U _ (hs.mono (e1.trans (e2.trans (e3.trans e4)))) hm4 (e1.trans (e2.trans (e3.trans e4))) rfl q3
  .exact q3.elim⟩⟩⟩
variable {W5:T0 (Addr × Obj)}{Y:St}{H:Hp}{s:Sd}{tp:Pos}{XF:T0 Expr}{n:Nat}
end L3
namespace L2
open Builtin Builtin.Str
variable {prog:Pg}{w:Wo}{A:Ar}{E:QQX}{s:Sd}{X:Cx}
end L2
namespace L3
open L2 Builtin Builtin.Str
variable {X:Cx}{pos W8:Pos}{o e:Expr}{es:T0 Expr}{ta:T3}{t:w9}
@[irreducible] def SsI (X:Cx) (st:T0 Stmt) (t:xG):Prop:=HC X st t
@[irreducible] def SI (X:Cx) (st:Stmt) (t:xG):Prop:=S3 X st t
@[irreducible] def EI (X:Cx) (e:Expr) (t:T3):Prop:=E3 X e t
@[irreducible] def AI (X:Cx) (es:T0 Expr) (t:w9):Prop:=A3 X es t
variable {prog:Pg}{w:Wo}{A:Ar}{E:QQX}{s:Sd}{W5:T0 (Addr × Obj)}{Y:St}{H:Hp}{p tp:Pos}{XF:T0 Expr}{n:Nat}
theorem xW{g:D9}{tt:Ay}{te:T3}{ok:Mp->Prop}{Q:DK}(all:T0 D)(J:T0 D->T0 D->uY->Mp->Prop)(mM:∀p acc U M,J p acc U M->ok M):∀(ds pre acc:T0 D) (U:uY) (M:Mp),pre++ds=all->acc.length+ds.length<=sizeLine->J pre acc U M->
  (∀pre d post,pre++d::post=all->∀acc U M,J pre acc U M->∀(k:uY->DK) (k2:uY->Mp->Prop),(∀δ2 y M4,J (pre++[d]) (acc++[y]) δ2 M4->k δ2 y M4)->(∀δ2 M3,J (pre++[d]) acc δ2 M3->k2 δ2 M3)->g d U M λδ2 M2=>tt δ2 M2 λb M3=>if b=true then te δ2 M3 (k δ2)else k2 δ2 M3)->
  (∀acc U M,J all acc U M->∀p,M p=none->Q (.ref p) (pB M p (.lst acc)))->uO g tt te ok Q ds acc U M
 | [],pre,acc,U,M,e,hl,j,_,hq=>⟨by simpa using hl,hq acc U M (by rw[<-e,eY];exact j)⟩
 | d::r,pre,acc,U,M,e,hl,j,ht,hq=>by rw[eh]at hl;refine⟨by omega,?_⟩;refine ht pre d r e acc U M j (λδ2 y M4=>ok M4/\uO g tt te ok Q r (acc++[y]) δ2 M4) (λδ2 M3=>ok M3/\uO g tt te ok Q r acc δ2 M3) (λδ2 y M4 j'=>⟨mM _ _ _ _ j',xW all J mM r (pre++[d]) (acc++[y]) δ2 M4 (by rw[<-e,fk];rfl) ?_ j' ht hq⟩) λδ2 M3 j'=>⟨mM _ _ _ _ j',xW all J mM r (pre++[d]) acc δ2 M3 (by rw[<-e,fk];rfl) (by omega) j' ht hq⟩;rw[cW,dN];omega
end L3
namespace L2
def Cx.nO(X:Cx)(E:QQX):Cx:={X with xe:=E}
def Inv.nO{E:QQX}{W5:QQY}(I:Inv X W5 Y H s):Inv (X.nO E) W5 Y H s:=
 ⟨⟨I.ok.mod,I.ok.kind,I.ok.glob,I.ok.blt,I.ok.above,I.ok.inj,I.ok.has,I.ok.oz,I.ok.hd,I.ok.frames,I.ok.oE,I.ok.oU,I.ok.bs,I.ok.nV,I.ok.nL,I.ok.nP,I.ok.ny,I.ok.n9⟩,I.os,I.bare,I.base,I.loc,I.cell,I.free,I.mT,I.pin,I.mM,I.len⟩
def Inv.xeOf{X:Cx}{E:QQX}{W5:QQY}(I:Inv (X.nO E) W5 Y H s):Inv X W5 Y H s:=
 ⟨⟨I.ok.mod,I.ok.kind,I.ok.glob,I.ok.blt,I.ok.above,I.ok.inj,I.ok.has,I.ok.oz,I.ok.hd,I.ok.frames,I.ok.oE,I.ok.oU,I.ok.bs,I.ok.nV,I.ok.nL,I.ok.nP,I.ok.ny,I.ok.n9⟩,I.os,I.bare,I.base,I.loc,I.cell,I.free,I.mT,I.pin,I.mM,I.len⟩
end L2
namespace L3
open L2
end L3
namespace L2
end L2
namespace L3
open L2
variable {X:Cx}{pos p tp kpos:Pos}{XF:T0 Expr}{n:Nat}
end L3
namespace L2
variable {prog:Pg}{w:Wo}{A:Ar}{E:QQX}{s:Sd}{a:Addr}{U:Type}{k:Str}{tk:Tok}
section
variable {R:U→Vl→Prop}{D:T0 (Str × U)}
end
end L2
namespace L3
open L2
variable {X:Cx}{pos p:Pos}{x:Str}{d:D}{e o i:Expr}{ta tb td tk:T3}{F:T0 (Str × QQQ)}
end L3
namespace L2
def Ni(h:Heap)(e:Addr)(cls:Vl)(dx tb:Option Addr)(F:Vl):Prop:=
 ∃oe vs,h.get? e=some oe/\oe.cls=cls/\oe.dict=dx/\oe.data=.fields vs/\1<vs.size/\vs[1]?=some (tb.elim Value.none Value.ref)/\∀T,tb=some T->T≠e/\∃oT ts,h.get? T=some oT/\oT.data=.fields ts/\3<ts.size/\ts[3]?=some F
def O7(h:Heap)(e:Addr)(cls:Vl)(dx tb:Option Addr):Prop:=Ni h e cls dx tb Value.none
theorem B1{h base:Heap}:∀{l:T0 Env} {b:Addr},h.FunFrames base l->b∈vS l->∃o,h.get? b=some o/\∀vs,o.data≠.fields vs
 | [],b,_,hb=>by cases hb
 | env::r,b,hF,hb=>by
  obtain⟨_,⟨L,o,hL,_,ho,hd⟩,hr⟩:=hF;have e:vS (env::r)=L::vS r:=by unfold vS;rw[fV,hL]
  rw[e]at hb;rcases de.mp hb with z|z
  .rw[z];exact⟨o,ho,hd⟩
  .exact B1 hr z
def DZ{h base:Heap}{l:T0 Env}{b:Addr}{o:Obj}{vs:Array Vl}(hF:h.FunFrames base l)(ho:h.get? b=some o)(hd:o.data=.fields vs):b∉vS l:=λhb=>by obtain⟨o',XJ,hn⟩:=B1 hF hb;rw[ho]at XJ;cases XJ;exact hn vs hd
variable {M:Model}{A:Ar}{s:Sd}{base:Heap}{env:Env}{outer:T0 Env}{L e:Addr}{cls:Vl}{dx:Option Addr}{Q:Unit→Sd→Prop}
section
variable {E:QQX}
def Ou{Yo:Vl}{Zm:Bool}{oe:Obj}{vs:Array Vl}{XM:Env}(hcf:XM.frame=some L)(Y7:A.frames=some (env::outer))(hF:s.heap.FunFrames base (env::outer))(hL:env.frame=some L)(ho:s.heap.get? e=some oe)(hd:oe.data=.fields vs)(h1:1<vs.size) (k:∀(h':Heap) (T:Addr),s.heap.get? T=none->(∀b o,s.heap.get? b=some o->b∉vS (env::outer)->b≠e->h'.get? b=some o)->(∀b o,s.heap.get? b=some o->b∈vS (env::outer)->∃sl,h'.get? b=some {o with slots:=sl})->
   (∃oe',h'.get? e=some oe'/\oe'.cls=oe.cls/\oe'.dict=oe.dict/\oe'.data=.fields (vs.setIfInBounds 1 (.ref T)))->(∃oT ts,h'.get? T=some oT/\oT.data=.fields ts/\3<ts.size/\ts[3]?=some (rawInt ↑L))->Q () {s with heap:=h'}):
  wpAny M A (do
   let a<-PySem.frameOf XM;let pl<-entryPlaceOf L Zm;let b<-EntryCells.newEntry Yo a Value.none (rawInt ↑L) Value.none pl
   setField (Value.ref e) 1 b) Q E s:=by
 have ne:=DZ hF ho hd;unfold PySem.frameOf;refine cT (cT (wpAny_frameEnvs Y7 (cT ?_)));have ed:List.dropWhile (λx=>x.frame != XM.frame) (env::outer)=env::outer:=by rw[List.dropWhile_cons,cX (by rw[hL,hcf];simp)]
 rw[ed];unfold frameObject;refine cT (wpAny_readyFrames_fun hF λXN hs=>?_);obtain⟨z1,z2,z3⟩:=hs;rw[hL];refine c9 (c9 ?_);refine cT (wpAny_entryPlaceOf λpl hp=>?_);refine cT ?_;unfold EntryCells.newEntry newFields;have Xb:([Yo,Value.ref L,Value.none,rawInt ↑L,Value.none]++if pl.isEmpty=true then List.replicate 6 Value.none else pl).length=11:=by rw[cW];rcases hp with rfl|⟨_,_,_,_,_,_,_,rfl⟩<;>rfl
 have hfl:([Yo,Value.ref L,Value.none,rawInt ↑L,Value.none]++if pl.isEmpty=true then List.replicate 6 Value.none else pl)[3]?=some (rawInt ↑L):=rfl;generalize ([Yo,Value.ref L,Value.none,rawInt ↑L,Value.none]++if pl.isEmpty=true then List.replicate 6 Value.none else pl)=fs at Xb hfl ⊢;refine fS ?_ (by
  show fs.toArray.size<=_;rw[dh,Xb];decide)
 have e1:XN.get? e=some oe:=by rw[z2 e ne];exact ho
 have e2:(XN.push {cls:=.type "traceback",data:=.fields fs.toArray}).get? e=some oe:=cY _ e1;refine gZ e2 hd h1 ?_;have tn:s.heap.get? XN.objs.size=none:=gF (by rw[z1];exact dg _);have te:XN.objs.size≠e:=λz=>by rw[z,ho]at tn;cases tn
 obtain⟨oc,od,odt,X3⟩:=oe;obtain rfl:odt=.fields vs:=hd;have up:∀b,e≠b->((XN.push {cls:=.type "traceback",data:=.fields fs.toArray}).update e (Obj.mapFields λx=>x.setIfInBounds 1 (.ref XN.objs.size))).get? b=(XN.push {cls:=.type "traceback",data:=.fields fs.toArray}).get? b:=λb z=>fX _ _ z;refine k _ XN.objs.size tn (λb o hb nf ne'=>?_) (λb o hb hf=>?_) ⟨_,fF _ e2 rfl,rfl,rfl,rfl⟩ ⟨_,fs.toArray,(up _ (dI te)).trans (dE _ rfl),rfl,by rw[dh,Xb];decide,by rw[iL];exact hfl⟩
 .rw[up b (dI ne')];exact cY _ (by rw[z2 b nf];exact hb)
 .obtain⟨sl,q⟩:=z3 b o hb;refine⟨sl,?_⟩;rw[up b (λz=>ne (z ▸ hf))];exact cY _ q
def R4{E₁:QQX}{tb:Option Addr}{F:Vl}{XM:Env}(hcf:XM.frame=some L)(Y7:A.frames=some (env::outer))(hF:s.heap.FunFrames base (env::outer))(hL:env.frame=some L)(hx:Ni s.heap e cls dx tb F)(hFL:(F==rawInt ↑L)=false) (k:∀(h':Heap) (T:Addr),s.heap.get? T=none->(∀b o,s.heap.get? b=some o->b∉vS (env::outer)->b≠e->tb≠some b->h'.get? b=some o)->(∀b o,s.heap.get? b=some o->b∈vS (env::outer)->∃sl,h'.get? b=some {o with slots:=sl})->
   (∀b,h'.get? b=none->s.heap.get? b=none)->Ni h' e cls dx (some T) (rawInt ↑L)->Q () {s with heap:=h'}):wpAny M A (noteFrame (.ref e) XM) Q E₁ s:=by
 obtain⟨oe,vs,ho,hc,YY,hd,h1,hv,hT⟩:=hx;have ne:=DZ hF ho hd;unfold noteFrame;rw[hcf];refine cT (fi ho hd hv ?_);have Xa:∀(s1:Sd) (oe1:Obj),s1.gens=s.gens->s1.drawn=s.drawn->s1.toks=s.toks->s1.os=s.os->s1.heap.FunFrames base (env::outer)->s1.heap.get? e=some oe1->oe1.cls=cls->oe1.dict=dx->oe1.data=.fields vs->(∀b o,s.heap.get? b=some o->b∉vS (env::outer)->b≠e->tb≠some b->s1.heap.get? b=some o)->
   (∀b o,s.heap.get? b=some o->b∈vS (env::outer)->s1.heap.get? b=some o)->(∀b,s1.heap.get? b=none↔s.heap.get? b=none)->∀(Yo:Vl) (Zm:Bool),wpAny M A (do
   let a<-PySem.frameOf XM;let pl<-entryPlaceOf L Zm;let b<-EntryCells.newEntry Yo a Value.none (rawInt ↑L) Value.none pl
   setField (Value.ref e) 1 b) Q E₁ s1:=by
  intro s1 oe1 g1 g2 g3 g4 hF1 ZX hc1 hdx1 hd1 kb kf kn Yo Zm;refine Ou hcf Y7 hF1 hL ZX hd1 h1 λh' T tn k1 k2 ⟨oe',he',hce,hdxe,hde⟩ ⟨oT,ts,Yi,YK,h3,h3v⟩=>?_;have te:T≠e:=λz=>by rw[z,ZX]at tn;cases tn
  have:=k h' T ((kn T).mp tn) (λb o hb nf nb nt=>k1 b o (kb b o hb nf nb nt) nf nb) (λb o hb hf=>k2 b o (kf b o hb hf) hf) (λb hb=>?_) ⟨oe',vs.setIfInBounds 1 (.ref T),he',hce.trans hc1,hdxe.trans hdx1,hde,by rw[jI];exact h1,by rw[ie h1];rfl,λT' eT=>?_⟩
  .show Q () {heap:=_,gens:=s1.gens,drawn:=s1.drawn,toks:=s1.toks,os:=s1.os};rw[g1,g2,g3,g4];exact this
  .refine(kn b).mp ?_;cases q:s1.heap.get? b with
   | none=>rfl
   | some o=>
    by_cases z:b=e
    .rw[z,he']at hb;cases hb
    .by_cases zf:b∈vS (env::outer)
     .obtain⟨sl,q2⟩:=k2 b o q zf;rw[q2]at hb;cases hb
     .rw[k1 b o q zf z]at hb;cases hb
  .cases eT;exact⟨te,oT,ts,Yi,YK,h3,h3v⟩
 cases tb with
 | none=>rw[cX (show ¬((none:Option Addr).elim Value.none Value.ref != Value.none)=true by decide+kernel)];exact Xa s oe rfl rfl rfl rfl hF ho hc YY hd (λb o hb _ _ _=>hb) (λb o hb _=>hb) (λb=>.rfl) _ _
 | some T=>
  obtain⟨nTe,oT,ts,Yi,YK,h3,hn⟩:=hT T rfl;rw[cZ (show((some T:Option Addr).elim Value.none Value.ref != Value.none)=true by rfl)];refine cT (fi Yi YK hn ?_);rw[cX (by rw[hFL];exact dw)];refine cT (gZ Yi YK h3 ?_);have up:∀b,T≠b->(s.heap.update T (Obj.mapFields λx=>x.setIfInBounds 3 .none)).get? b=s.heap.get? b:=λb z=>fX _ _ z;have nf:∀b o,s.heap.get? b=some o->(∀vs,o.data≠.fields vs)->T≠b:=λb o hb hn z=>by rw[<-z,Yi]at hb;cases hb;exact hn ts YK
  have sz:∀b,(s.heap.update T (Obj.mapFields λx=>x.setIfInBounds 3 .none)).get? b=none↔s.heap.get? b=none:=λb=>by
   by_cases z:T=b
   .rw[<-z];obtain⟨oc,od,odt,X3⟩:=oT;obtain rfl:odt=.fields ts:=YK;rw[fF _ Yi rfl,Yi];exact⟨(λq=>by cases q),(λq=>by cases q)⟩
   .rw[up b z]
  exact Xa {s with heap:=s.heap.update T (Obj.mapFields λx=>x.setIfInBounds 3 .none)} oe rfl rfl rfl rfl (mx (λb o hb hn=>⟨o,(up b (nf b o hb hn)).trans hb,rfl⟩) hF) ((up e nTe).trans ho) hc YY hd
   (λb o hb _ _ nt=>(up b λz=>nt (by rw[z])).trans hb) (λb o hb hf=>by
    obtain⟨o',XJ,hn⟩:=B1 hF hf;rw[hb]at XJ;cases XJ;exact(up b (nf b o hb hn)).trans hb) sz _ _
def MN{T:Addr}{F:Vl}(x:Option Addr)(hx:Ni s.heap e cls dx (some T) F)(k:∀h':Heap,(∀b,T≠b->h'.get? b=s.heap.get? b)->(∀b,h'.get? b=none↔s.heap.get? b=none)->Ni h' e cls dx (some T) (x.elim .none λf=>rawInt f)->Q () {s with heap:=h'}):wpAny M A (setFlight (.ref e) x) Q E s:=by
 obtain⟨oe,vs,ho,hc,YY,hd,h1,hv,hT⟩:=hx;obtain⟨nTe,oT,ts,Yi,YK,h3,hn⟩:=hT T rfl;unfold setFlight;refine cT (fi ho hd hv ?_);rw[cZ (by rfl)];refine gZ Yi YK h3 ?_;obtain⟨oc,od,odt,X3⟩:=oT;obtain rfl:odt=.fields ts:=YK;have up:∀b,T≠b->(s.heap.update T (Obj.mapFields λy=>y.setIfInBounds 3 (x.elim .none λf=>rawInt f))).get? b=s.heap.get? b:=λb z=>fX _ _ z;refine k _ up (λb=>?_) ⟨oe,vs,(up e nTe).trans ho,hc,YY,hd,h1,hv,λT' eT=>?_⟩
 .by_cases z:T=b
  .rw[<-z,fF _ Yi rfl,Yi];exact⟨(λq=>by cases q),(λq=>by cases q)⟩
  .rw[up b z]
 .cases eT;exact⟨nTe,_,ts.setIfInBounds 3 (x.elim .none λf=>rawInt f),fF _ Yi rfl,rfl,by rw[jI];exact h3,by rw[ie h3]⟩
def IY{E₁ E₂:QQX}{tb:Option Addr}(Y7:A.frames=some (env::outer))(hF:s.heap.FunFrames base (env::outer))(hL:env.frame=some L)(hx:O7 s.heap e cls dx tb) (k:∀(h':Heap) (T:Addr),s.heap.get? T=none->(∀b o,s.heap.get? b=some o->b∉vS (env::outer)->b≠e->tb≠some b->h'.get? b=some o)->(∀b o,s.heap.get? b=some o->b∈vS (env::outer)->∃sl,h'.get? b=some {o with slots:=sl})->
   O7 h' e cls dx (some T)->Q () {s with heap:=h'}):wpAny M A (noteFrame (.ref e) env) (λ_ s₂=>wpAny M A (setFlight (.ref e) none) Q E₂ s₂) E₁ s:=by
 refine R4 hL Y7 hF hL hx (dF.mpr λz=>by have:=fh.mp z;cases this) λh' T tn k1 k2 _ x'=>?_;refine MN none x' λh2 up _ x2=>k h2 T tn (λb o hb nf nb nt=>?_) (λb o hb hf=>?_) x2
 .have tb:T≠b:=λz=>by rw[z,hb]at tn;cases tn
  exact(up b tb).trans (k1 b o hb nf nb nt)
 .have tb:T≠b:=λz=>by rw[z,hb]at tn;cases tn
  obtain⟨sl,q⟩:=k2 b o hb hf;exact⟨sl,(up b tb).trans q⟩
def OQ{tb:Option Addr}(Y7:A.frames=some (env::outer))(hF:s.heap.FunFrames base (env::outer))(hL:env.frame=some L)(hx:O7 s.heap e cls dx tb) (k:∀(h':Heap) (T:Addr),s.heap.get? T=none->(∀b o,s.heap.get? b=some o->b∉vS (env::outer)->b≠e->tb≠some b->h'.get? b=some o)->(∀b o,s.heap.get? b=some o->b∈vS (env::outer)->∃sl,h'.get? b=some {o with slots:=sl})->
   O7 h' e cls dx (some T)->Q () {s with heap:=h'}):wpAny M A (leaving env (.ref e)) Q E s:=cT (IY Y7 hF hL hx k)
end
def CB(P:Pg)(w:Wo):KQ:=λouter H s E ev s'=>F0 λe C dx H' tb=>ev=.ref e/\E (.ref C) dx H'/\s'.os=s.os/\AllBare s'.gens/\Un (vS outer) [] H H' s.heap s'.heap/\yc P w H' s'.heap/\
 O7 s'.heap e (.ref C) dx (some tb)/\s.heap.get? e=none/\s.heap.get? tb=none/\H' e=none/\H' tb=none
def xN{o:HO}(x:sJ P w H h a o):∃ob,h.get? a=some ob:=by
 cases o with
 | lst xs=>obtain⟨_,_,_,_,e⟩:=x;exact⟨_,e⟩
 | tup xs=>obtain⟨_,_,_,o,e,_⟩:=x;exact⟨_,e⟩
 | dK kvs=>obtain⟨_,_,_,_,o,_,_,e,_⟩:=x;exact⟨_,e⟩
 | dT kvs=>obtain⟨_,_,_,_,o,_,_,e,_⟩:=x;exact⟨_,e⟩
 | set S n=>obtain⟨o,_,_,_,e,_⟩:=x;exact⟨_,e⟩
 | ins C dx fs=>obtain⟨_,_,_,e,_⟩:=x;exact⟨_,e⟩
 | own y=>exact x
 | xd fs=>obtain⟨_,⟨_,_,_,e,_⟩,_⟩:=x;exact⟨_,e⟩
 | rng lo hi=>obtain⟨_,_,_,e⟩:=x;exact⟨_,e⟩
 | frz ob u=>obtain⟨e,_⟩:=x;exact⟨_,e⟩
 | tbl ps=>exact⟨_,x⟩
 | met f y=>exact⟨_,x⟩
 | ext φ=>obtain⟨_,e,_⟩:=x;exact e
def zh{T:Addr}(mM:yc P w H h)(tn:h.get? T=none):H T=none:=by
 cases z:H T with
 | none=>rfl
 | some o=>obtain⟨ob,hob⟩:=xN (mM T o z);rw[hob]at tn;cases tn
variable {P:Pg}{w:Wo}{K:qh}{mg:QQZ}{N:QQQ}{qual:Str}{scope:Scope}{f:Addr}{cd:Vl}{s0:Sd}{H0:Hp}
section
variable {E:XK}
def G9(u:Un fs ex H H' h h')(hex:ex=[]){b:Addr}(hb:h'.get? b=none):h.get? b=none:=by
 cases q:h.get? b with
 | none=>rfl
 | some o=>obtain⟨o',e⟩:=u.there b o q (by rw[hex];simp);rw[e]at hb;cases hb
def MF{W5:QQY}{e C T:Addr}{tb dx:Option Addr}{h':Heap}(I:Inv (vc (CB P w) P w K mg base N qual scope f cd A outer s0 H0 E) W5 Y H s)(he:s0.heap.get? e=none)(old:∀T,tb=some T->s0.heap.get? T=none/\H T=none)(hn:H e=none)(q:E (.ref C) dx H)(hT:s0.heap.get? T=none/\H T=none) (k1:∀b o,s.heap.get? b=some o->b∉vS (envOfC qual scope s0.heap.objs.size f cd::outer)->b≠e->tb≠some b->h'.get? b=some o) (k2:∀b o,s.heap.get? b=some o->b∈vS (envOfC qual scope s0.heap.objs.size f cd::outer)->∃sl,h'.get? b=some {o with slots:=sl}) (x':O7 h' e (.ref C) dx (some T)):
  CB P w outer H0 s0 E (.ref e) {s with heap:=h'}:=by
 have XS:=I.nB;have Xk:∀b o,H b=some o->∀u,s.heap.get? b=some u->h'.get? b=some u:=λb o hb u hu=>k1 b u hu (λz=>by rw[XS b z]at hb;cases hb) (λz=>by rw[z,hn]at hb;cases hb) (λz=>by rw[(old b z).2]at hb;cases hb);have oldf:∀b o,s0.heap.get? b=some o->b∉vS [envOfC qual scope s0.heap.objs.size f cd]:=λb o hb z=>by
  have:b=s0.heap.objs.size:=by have hz:b∈[s0.heap.objs.size]:=z;exact dv.mp hz
  rw[this]at hb;exact absurd (dq hb) (e9 _)
 have fr:∀b,b∈vS (envOfC qual scope s0.heap.objs.size f cd::outer)->b∈vS [envOfC qual scope s0.heap.objs.size f cd]\/b∈vS outer:=λb hb=>by
  have hb:b∈s0.heap.objs.size::vS outer:=hb;rcases de.mp hb with z|z
  .exact .inl (by rw[z];exact dG)
  .exact .inr z
 have Xw:Un (vS outer) [] H0 H s0.heap s.heap:=I.base;refine⟨e,C,dx,H,T,rfl,q,I.os,I.bare,⟨λb o hb h0 nf ne=>?_,λb o hb h0 hf ne=>?_,Xw.free,λb o hb ne=>?_,Xw.nk,Xw.m9,Xw.nz⟩,λb o hb=>?_,x',he,hT.1,hn,hT.2⟩
 .have hs:=Xw.keep b o hb h0 nf ne;refine k1 b o hs (λz=>?_) (λz=>by rw[z,he]at hb;cases hb) λz=>by rw[(old b z).1]at hb;cases hb
  rcases fr b z with z|z
  .exact oldf b o hb z
  .exact nf z
 .obtain⟨sl,hs⟩:=Xw.slot b o hb h0 hf ne;have:b∈vS (envOfC qual scope s0.heap.objs.size f cd::outer):=dA _ hf;obtain⟨YA,h2⟩:=k2 b _ hs this;exact⟨YA,h2⟩
 .obtain⟨o',hs⟩:=Xw.there b o hb ne;by_cases z:b∈vS (envOfC qual scope s0.heap.objs.size f cd::outer)
  .obtain⟨sl,h2⟩:=k2 b o' hs z;exact⟨_,h2⟩
  .exact⟨o',k1 b o' hs z (λz=>by rw[z,he]at hb;cases hb) λz=>by rw[(old b z).1]at hb;cases hb⟩
 .refine(I.mM b o hb).ni (λb' u X0 hu=>?_) (λ_ q=>q) λ_ _ q=>q;rcases X0 with z|z
  .subst z;exact Xk b' o hb u hu
  .exact Xk b' _ z u hu
def TJ{W5:QQY}{e C:Addr}{tb dx:Option Addr}(I:Inv (vc (CB P w) P w K mg base N qual scope f cd A outer s0 H0 E) W5 Y H s)(hx:O7 s.heap e (.ref C) dx tb)(he:s0.heap.get? e=none)(hT:∀T,tb=some T->s0.heap.get? T=none/\H T=none)(hn:H e=none)(q:E (.ref C) dx H):
  (vc (CB P w) P w K mg base N qual scope f cd A outer s0 H0 E).xe (.ref e) s:=
 OQ (base:=base) (outer:=outer) I.ok.frames I.stack rfl hx λh' T tn k1 k2 x'=>MF I he hT hn q ⟨G9 (show Un (vS outer) [] H0 H s0.heap s.heap from I.base) rfl tn,zh I.mM tn⟩ k1 k2 x'
end
section
variable {E:XK}
end
def NZ(d:Addr)(f:Str)(v:V)(h:Heap):Prop:=∃u,h.Ns1 d (λy=>if y=f then some u else none)/\qC v u
end L2
namespace L3
open L2
abbrev XR:=Addr->Option (Str×D)->Mp->Prop
abbrev Hd:=T0 D->Mp->DK->XR->Prop
def T4(K:qh)(H:Hp)(dx:Option Addr)(y:Option (Str×D)):Prop:=(dx=none/\y=none)\/Bg λd f z v=>dx=some d/\y=some (f,z)/\H d=some (.ext (NZ d f v))/\rE K H z v
def T8(K:qh)(R:XR)(E:XK):Prop:=∀C dx H M y,HM K H M->T4 K H dx y->R C y M->E (.ref C) dx H
def VW(K:qh)(sp:Hd):Sp:=λvs H Q' E=>Bg λds M Q R=>qe K H ds vs/\HM K H M/\sp ds M Q R/\Up K H Q' Q/\T8 K R E
abbrev Tc(P:Pg)(w:Wo)(K:qh)(mg:QQZ)(base:Heap)(k:Nat)(f:Addr)(fd:FuncData)(ps:QQQ)(sp:Hd):Prop:=wZ P w K mg base (CB P w) k f fd ps (VW K sp)
variable {X:Cx}{x:Str}{p pos np Xc:Pos}{e:Expr}{es:T0 Expr}{t:w9}{k:Nat}{f C:Addr}{fd:FuncData}{ps:QQQ}{sp:Hd}{R:XR}{E:XK}{P:Pg}{w:Wo}{K:qh}{mg:QQZ}{base:Heap}{N:QQQ}{qual:Str}{scope:Scope}{cd:Vl}{A:Ar}{outer:T0 Env}{s0:Sd}{H0:Hp}{ta:w9}
def UY{st:Stmt}{sp:Hd}(F:P4 K x qual st f fd)(S:sW N ps (pZ st))(len:∀ds M Q R,sp ds M Q R->ds.length=ps.length) (Xr:∀(Xd:Vl) (A:Ar) (outer:T0 Env) (s:Sd) (H:Hp) (E:XK) (R:XR),rO k (A.deeper (envOfC qual (pZ st) s.heap.objs.size f Xd))->T8 K R E->
   ∃t,HC (vc (CB P w) P w K mg base N qual (pZ st) f Xd A outer s H E) (rG st) t/\∀ds M Q,sp ds M Q R->t {nx:=λ_ M'=>∃W9,qp W9 M'/\Q .mG W9,rt:=λd M'=>∃W9,qp W9 M'/\Q d W9} (wI N ds) M):Tc P w K mg base (k+1) f fd ps sp:=by
 obtain⟨oc,od,kV,XI,pm,an,Xd,ct,X3,rfl,lk,X8⟩:=F.ex;refine Ma lk X8 S (λvs H Q E h=>?_) λA outer s H vs Q' E hr h=>?_
 .obtain⟨ds,M,Q,R,hd,_,hs,_⟩:=h;rw[<-hd.length];exact len ds M Q R hs
 .obtain⟨ds,M,Q,R,hd,hm,hs,k,hR⟩:=h;obtain⟨t,ht,hb⟩:=Xr Xd A outer s H E R hr hR;exact⟨_,ht,wI N ds,M,_,DV hd,hm,hb ds M Q hs,λσ' H' δ' M' _ x2 x3 _ ⟨W9,y1,y2⟩=>k .mG H' .mG W9 .mG (x2.sub y1) x3 y2,λv H' d M' x1 x2 x3 ⟨W9,y1,y2⟩=>k v H' d W9 x1 (x2.sub y1) x3 y2,λ_ _ _ _ _ _ _ _ z=>z,λ_ _ _ _ _ _ _ _ z=>z⟩
end L3
namespace L2
def TKept(H H':Hp):Prop:=(∀b xs,H b=some (.tup xs)->H' b=some (.tup xs))/\∀b o u,H b=some (.frz o u)->H' b=some (.frz o u)
def VM(X:Cx)(W5:QQY)(Y:St)(J:Hp->Prop)(E:XK)(ev:Vl)(s':Sd):Prop:=A8 λH s=>J H/\Inv X W5 Y H s/\CB X.prog X.w X.stack H s E ev s'
def U6(X:Cx)(W5:QQY)(Y:St)(J:Hp->Prop)(E:XK)(ev:Vl)(s':Sd):Prop:=To λa C dx H' tb H1 s1=>ev=.ref a/\E (.ref C) dx H'/\Inv X W5 Y H' s'/\O7 s'.heap a (.ref C) dx (some tb)/\H' a=none/\H' tb=none/\J H1/\TKept H1 H'/\Inv X W5 Y H1 s1/\s1.heap.get? a=none
def S6{M:Model}{E₁ E₂:QQX}{W5:QQY}{E:XK}{outer:T0 Env}{L:Addr}(h:VM X W5 Y J E ev s')(Xu:X.stack=X.env::outer)(hL:X.env.frame=some L):
  wpAny M X.A (noteFrame ev X.env) (λ_ s₂=>wpAny M X.A (setFlight ev none) (λ_ s₃=>U6 X W5 Y J E ev s₃) E₂ s₂) E₁ s':=by
 obtain⟨H,s,jH,I,e,C,dx,H',tb,rfl,q,os,bare,un,mM,x,he,ht,ne,nt⟩:=h;obtain⟨hh,g,d,t,ZQ⟩:=s';obtain rfl:ZQ=s.os:=os;have I':=I.call (h':=hh) (g':=g) (d':=d) (t':=t) (ch:=[]) un mM bare (λb z=>absurd z (by simp));have hF:=I'.stack;have XS:=I'.nB;have Y7:=I.ok.frames;rw[Xu]at hF Y7;refine IY (base:=X.base) (outer:=outer) Y7 hF hL x λh' T tn k1 k2 x'=>?_;have Xk:∀b o,H' b=some o->∀u,hh.get? b=some u->h'.get? b=some u:=λb o hb u hu=>k1 b u hu (λz=>by rw[XS b (by rw[Xu];exact z)]at hb;cases hb) (λz=>by rw[z,ne]at hb;cases hb) (λz=>by cases z;rw[nt]at hb;cases hb);have un':Un (vS X.stack) [] H H' s.heap h':=by
  refine⟨λb o hb h0 nf nx=>?_,λb o hb h0 hf nx=>?_,un.free,λb o hb nx=>?_,un.nk,un.m9,un.nz⟩
  .exact k1 b o (un.keep b o hb h0 nf nx) (λz=>nf (by rw[Xu];exact z)) (λz=>by rw[z,he]at hb;cases hb) λz=>by cases z;rw[ht]at hb;cases hb
  .obtain⟨sl,hs⟩:=un.slot b o hb h0 hf nx;obtain⟨YA,h2⟩:=k2 b _ hs (by rw[<-Xu];exact hf);exact⟨YA,h2⟩
  .obtain⟨o',hs⟩:=un.there b o hb nx;by_cases z:b∈vS (X.env::outer)
   .obtain⟨sl,h2⟩:=k2 b o' hs z;exact⟨_,h2⟩
   .exact⟨o',k1 b o' hs z (λz=>by rw[z,he]at hb;cases hb) λz=>by cases z;rw[ht]at hb;cases hb⟩
 have ZV:yc X.prog X.w H' h':=λb o hb=>(mM b o hb).ni (λb' u X0 hu=>by
  rcases X0 with z|z
  .subst z;exact Xk b' o hb u hu
  .exact Xk b' _ z u hu) (λ_ q=>q) λ_ _ q=>q
 have I3:Inv X W5 Y H' {heap:=h',gens:=g,drawn:=d,toks:=t,os:=s.os}:=Inv.call (s:=s) (ch:=[]) I un' ZV bare (λb z=>absurd z (by simp));refine⟨e,C,dx,H',T,H,s,rfl,q,I3,x',ne,?_,jH,⟨un.nk,un.m9⟩,I,he⟩;cases z:H' T with
 | none=>rfl
 | some o=>obtain⟨ob,hob⟩:=xN (mM T o z);have tn:hh.get? T=none:=tn;rw[hob]at tn;cases tn
variable {X:Cx}{W5:T0 (Addr × Obj)}{Y σ':St}{H H1:Hp}{s s1:Sd}{ev:Vl}{E':QQX}{a:Addr}
def Inv.adopt{o:HO}(I:Inv X W5 Y H s)(I1:Inv X W5 σ' H1 s1)(n1:s1.heap.get? a=none)(hn:H a=none)(ok:sJ X.prog X.w (upd H a o) s.heap a o):Inv X W5 Y (upd H a o) s:=by
 have ne:∀b ob,s1.heap.get? b=some ob->b≠a:=λb ob e z=>by rw[z,n1]at e;cases e
 have nh:∀b ob,H b=some ob->b≠a:=λb ob e z=>by rw[z,hn]at e;cases e
 refine⟨I.ok,I.os,I.bare,⟨I.base.keep,I.base.slot,λb o' e h0 hb=>?_,I.base.there,λb xs e=>?_,λb o' u e=>?_,λb ps e=>?_⟩,I.loc,I.cell,?_,λx c e=>?_,λp hp=>?_,λb ob e=>?_,I.len⟩
 .obtain⟨o2,e2⟩:=I1.base.there b o' e hb;rw[pQ (ne b o2 e2)];exact I.base.free b o' e h0 hb
 .have:=I.base.nk b xs e;rw[pQ (nh b _ this)];exact this
 .have:=I.base.m9 b o' u e;rw[pQ (nh b _ this)];exact this
 .obtain⟨more,this⟩:=I.base.nz b ps e;exact⟨more,by rw[pQ (nh b _ this)];exact this⟩
 .obtain⟨m,⟨o2,_,_,e2,_⟩,_⟩:=I1.loc;rw[pQ (ne _ o2 e2)];exact I.free
 .obtain⟨v,o2,e2,_⟩:=I1.cell x c e;rw[pQ (ne _ o2 e2)];exact I.mT x c e
 .obtain⟨e1,e2,e3,e4,e5⟩:=I.pin p hp;exact⟨e1,by rw[pQ (ne _ _ (I1.pin p hp).1)];exact e2,e3,e4,e5⟩
 .by_cases z:b=a
  .subst z;rw[qa]at e;cases e;exact ok
  .rw[pQ z]at e;exact(I.mM b ob e).ni (λ_ _ _ q=>q) (λb' q=>by rw[pQ (nh b' _ q)];exact q) λb' xs q=>by rw[pQ (nh b' _ q)];exact q
def Inv.locs{h':Heap}{m':QQZ}(I:Inv X W5 Y H s)(hn:h'.Ns X.env.locals m')(hs:Heap.SameBut X.env.locals s.heap h')(hl:σ'.length=X.N.length) (hm:∀m,s.heap.Ns X.env.locals m->(∀(i:Nat) (x:Str) (v:V),X.N[i]?=some x->Y[i]?=some (some v)->Rj X.env.scope x->∃u,qC v u/\U8 X.env s.heap m x u)->∀(i:Nat) (x:Str) (v:V),X.N[i]?=some x->σ'[i]?=some (some v)->Rj X.env.scope x->∃u,qC v u/\((X.env.kindOf x=some .local/\m' x=some u)\/((X.env.kindOf x=some .cell\/X.env.kindOf x=some .free)/\∃c,X.env.cells.lookup x=some c/\s.heap.IsCell c (some u)))):Inv X W5 σ' H {s with heap:=h'}:=by
 obtain⟨m,hn0,hl0⟩:=id I.loc;obtain⟨oL,_,_,hoL,_⟩:=id hn0;have oS:=I.oS;refine⟨I.ok,I.os,I.bare,⟨λb o e n hb hx=>?_,λb o e n hb hx=>?_,I.base.free,λb o e hx=>?_,I.base.nk,I.base.m9,I.base.nz⟩,⟨_,hn,λj y v' e1 e2 e3=>?_⟩,λy c e=>?_,I.free,I.mT,λp hp=>?_,λb ob e=>?_,hl⟩
 .exact(hs.2 b (dC (dJ (dq e) I.ok.above))).trans (I.base.keep b o e n hb hx)
 .obtain⟨sl,e1⟩:=I.base.slot b o e n hb hx;exact⟨sl,(hs.2 b (dC (dJ (dq e) I.ok.above))).trans e1⟩
 .obtain⟨o',e1⟩:=I.base.there b o e hx;exact⟨o',(hs.2 b (dC (dJ (dq e) I.ok.above))).trans e1⟩
 .obtain⟨u,r,q⟩:=hm m hn0 hl0 j y v' e1 e2 e3;refine⟨u,r,?_⟩;rcases q with q|⟨k,c,e,z⟩
  .exact .inl q
  .exact .inr ⟨k,c,e,z.sameBut hs (oS y c e)⟩
 .obtain⟨w',z⟩:=I.cell y c e;exact⟨w',z.sameBut hs (oS y c e)⟩
 .obtain⟨e,n,ne,nf,d⟩:=I.pin p hp;exact⟨(hs.2 p.1 ne).trans e,n,ne,nf,d⟩
 .refine(I.mM b ob e).ni (λc w' hc q=>(hs.2 c ?_).trans q) (λ_ q=>q) λ_ _ q=>q
  rintro rfl
  rcases hc with hc|hc
  .rw[<-hc,I.free]at e;cases e
  .rw[I.free]at hc;cases hc
def xT{M:Model}{A:Ar}{E:QQX}{i:Nat}{n:Str}{pos:Pos}{Q:Unit->Sd->Prop}(I:Inv X W5 Y H s)(hN:X.N.Nodup)(hi:X.N[i]?=some n)(hk:X.env.scope.names.lookup n=some .local) (h:∀s',Inv X W5 (Y.set i none) H s'->Q () s'):wpAny M A (do
   bindName X.env n Value.none
   unbindBehindTheSuite X.env n pos) Q E s:=by
 have hiσ:i<Y.length:=by rw[I.len];exact(cU.mp hi).1
 refine cT (wpAny_bindName (zx (v:=.mG) I hN hi (.inl hk) rfl (λs1 I1=>?_) (.inr hk)));have ZM:(X.env.scope.kind==.class||(X.env.scope.kind==.module&&X.env.locals != X.env.globals))=false:=by rw[I.ok.kind];rfl
 obtain⟨m,hn,hl⟩:=id I1.loc;obtain⟨u,ru,lk⟩:=hl i n .mG hi (by rw[eJ hiσ]) (.inl hk);have em:m n=some u:=by
  rcases lk with⟨_,e⟩|⟨k,_⟩
  .exact e
  .have ZW:X.env.kindOf n=some .local:=hk;rw[ZW]at k;rcases k with k|k<;>cases k
 unfold unbindBehindTheSuite;refine iH (wpAny_unbindName_local hk hn em ZM λh' u' YG hs=>h _ ?_);refine I1.locs YG hs (by simpa using I.len) λm2 Xm Z1 j y v' e1 e2 e3=>?_;have hj:j≠i:=λz=>by subst z;rw[eJ hiσ]at e2;cases e2
 rw[eN (dI hj)]at e2;obtain⟨u2,r2,q2⟩:=hl j y v' e1 (by rw[eN (dI hj)];exact e2) e3;refine⟨u2,r2,?_⟩;rcases q2 with⟨k,e⟩|q2
 .refine .inl ⟨k,?_⟩;have:y≠n:=λe=>hj (BI hN e1 (e ▸ hi));simp[this,e]
 .exact .inr q2
def Cx.marked(X:Cx)(ev:Vl)(E:QQX):Cx:={X with A:=X.A.mark (some ev),calm:=false,xe:=E}
def Inv.mark(I:Inv X W5 Y H s):Inv (X.marked ev E') W5 Y H s:=
 ⟨⟨I.ok.mod,I.ok.kind,I.ok.glob,I.ok.blt,I.ok.above,I.ok.inj,I.ok.has,I.ok.oz,(λz=>by cases z),I.ok.frames,I.ok.oE,I.ok.oU,I.ok.bs,I.ok.nV,I.ok.nL,I.ok.nP,I.ok.ny,I.ok.n9⟩,I.os,I.bare,I.base,I.loc,I.cell,I.free,I.mT,I.pin,I.mM,I.len⟩
def Inv.unmark(ok:X.Ok)(I:Inv (X.marked ev E') W5 Y H s):Inv X W5 Y H s:=⟨ok,I.os,I.bare,I.base,I.loc,I.cell,I.free,I.mT,I.pin,I.mM,I.len⟩
def SP.unmark(ok:X.Ok){D:FE}{f:Flow}(h:SP (X.marked ev E') W5 D f s):SP X W5 D f s:=by
 cases f with
 | next=>obtain⟨a,b,I,q⟩:=h;exact⟨a,b,I.unmark ok,q⟩
 | brk=>obtain⟨a,b,I,q⟩:=h;exact⟨a,b,I.unmark ok,q⟩
 | cont=>obtain⟨a,b,I,q⟩:=h;exact⟨a,b,I.unmark ok,q⟩
 | ret v=>obtain⟨a,b,c,I,q⟩:=h;exact⟨a,b,c,I.unmark ok,q⟩
def BM{M:Model}{h:Heap}{a:Addr}{o:Obj}(ho:h.get? a=some o):W.Looks M h (typeOf (.ref a)) o.cls:=by intro A Q E s k q;unfold typeOf;exact cT (wpAny_load (k a o ho) (c9 q))
def Hf{M:Model}{A:Ar}{E:QQX}{a C T:Addr}{Q:Unit->Sd->Prop}(x:O7 s.heap a (.ref C) dx (some T))(h:∀h':Heap,(∀b,h'.get? b=s.heap.get? b)->Q () {s with heap:=h'}):wpAny M A (setFlight (.ref a) none) Q E s:=by
 obtain⟨oe,vs,ho,hc,_,hd,h1,hv,hT⟩:=x;obtain⟨nTe,oT,ts,Yi,YK,h3,hn⟩:=hT T rfl;unfold setFlight;refine cT (fi ho hd hv ?_);rw[cZ (by rfl)];refine gZ Yi YK h3 (h _ λb=>?_);by_cases z:T=b
 .subst z;obtain⟨oc,od,odt,X3⟩:=oT;obtain rfl:odt=.fields ts:=YK;rw[fF _ Yi rfl,Yi];show some (Obj.mk oc od (.fields (ts.setIfInBounds 3 .none)) X3)=_;have:ts.setIfInBounds 3 .none=ts:=by
   apply Array.ext
   .simp
   .intro i h1 h2;rw[Array.getElem_setIfInBounds];split
    .rename_i e;subst e;rw[Array.getElem?_eq_getElem h3]at hn;exact(df hn).symm
    .rfl
  rw[this]
 .exact fX _ _ z
def RW(X:Cx)(e:Expr)(t:St->Hp->VK->(Hp->Prop)->XK->Prop):Prop:=∀(W5:QQY) (s:Sd) (Y:St) (H:Hp) (Q:VK) (J:Hp->Prop) (E:XK),Inv X W5 Y H s->t Y H Q J E->wpAny (model X.prog X.w) X.A (eval e X.env) (EP X W5 Y Q) (VM X W5 Y J E) s
def WG(X:Cx)(st:Stmt)(t:FE->St->Hp->(Hp->Prop)->XK->Prop):Prop:=∀(W5:QQY) (s:Sd) (Y:St) (H:Hp) (D:FE) (J:Hp->Prop) (E:XK),Inv X W5 Y H s->t D Y H J E->wpAny (model X.prog X.w) X.A (exec st X.env) (SP X W5 D) (VM X W5 Y J E) s
variable {k:Nat}{f C:Addr}{fd:FuncData}{ps:QQQ}{sp:Sp}{XT:T0 V}{ds:T0 Vl}{m:Str}{p pos W8:Pos}{e o:Expr}{es:T0 Expr}{t:TA}
section
variable {x:Str}
def K4(F:wZ X.prog X.w X.K X.mg X.base (CB X.prog X.w) k f fd ps sp)(hr:rO k X.A)(hg:Gl X x)(hm:X.mg x=some (.ref f))(hk:W.keepIn X.K (.ref f)=true)(hb:uG X.K fd ps ds)(hd:qx XT ds) (ha:PA (X.nO λ_ _=>False) (e::es) t) (Xp:zu x:=by decide) (he:A7 X e es:=by rfl) (Xl:CP X pos es:=by rfl):
  RW X (.Call (.Name x p) (e::es) [] pos) (λY H Q J E=>t Y H λvs H1=>J H1/\sp (vs++XT) H1 Q E):=by
 intro W5 s Y H Q J E I h;refine fP (wD I hg hm ?_ Xp);refine iN (h₀:=X.base) I.ok.mod.oi hk (dZ (ha pos W5 s Y H _ I.nO h) (λus s1 ⟨vs,H1,I1,r,jH,q⟩=>⟨I1.nj,?_⟩) λ_ _ z=>z.elim) he Xl;have I1:=I1.xeOf;have r2:qx (vs++XT) (us++ds):=r.append hd;have hl:(us++ds).length=ps.length:=by rw[<-r2.length];exact F.len _ _ _ _ q
 refine hJ (gh (F.run X.A X.stack s1 H1 ⟨us,[]⟩ (us++ds) (vs++XT) Q E hr I1.nX (hb s1 us I1.nj hl) r2 q) λr s' hq=>?_);cases r with
 | error e=>exact⟨H1,s1,jH,I1,hq⟩
 | ok fl=>
  cases fl with
  | ret u=>exact I1.after hq
  | next=>exact False.elim hq
  | brk=>exact False.elim hq
  | cont=>exact False.elim hq
end
structure Lb(K:qh)(C:Addr):Prop where
 hd:(W.clsIn K C).isSome=true
 ga:W.findIn K (.ref C) "__getattribute__"=some (some (.builtin "BaseException.__getattribute__"))
 gt:W.findIn K (.ref C) "__getattr__"=some none
 ha:W.findIn K (.ref C) "__class__"=some (some (.builtin "object.__class__"))
 hn:W.specialIn K (.builtin "object.__class__") "__get__"=some (some (.builtin "getset_descriptor.__get__"))
 htk:W.takesIn K (.builtin "object.__class__")=some true
 hm:W.mroIn K C (.type "object")=some true
 hb:W.mroIn K C (.type "BaseException")=some true
def OR:builtinKind "BaseException.__getattribute__"=some Manifest.AttrKind.slot:=by decide+kernel
def LI:splitId "BaseException.__getattribute__"=some ("BaseException","__getattribute__"):=by decide+kernel
variable {prog:Pg}{w:Wo}{A:Ar}{E:QQX}{K:qh}{ox:Obj}
section
variable {x:Addr}
def Nt{ZC:Vl}{Q:Unit->Sd->Prop}{M:Model}(c:Lb K C)(X:K.In s.heap)(hx:s.heap.get? x=some ox)(hc:ox.cls=.ref C)(hq:Q () s):wpAny M A (checkBuiltinCall "BaseException.__getattribute__" {pos:=[Value.ref x,ZC]}) Q E s:=by
 unfold checkBuiltinCall;simp only[OR,LI];unfold isInstance;refine cT (cT ?_);refine(BM hx).at ?_;rw[hc];refine(W.looks_mroIn X c.hb).at ?_;rw[cX (by decide)];have ha:=F.args_bexc_ga (Value.ref x) ZC;unfold argsOk at ha;have:∀t:Sem Unit,t=pure ()->wpAny M A t Q E s:=λt z=>by rw[z];exact c9 hq
 exact this _ ha
end
end L2
namespace L3
open L2
theorem _root_.L2.TKept.ext{K:qh}(h:TKept H H'):qI K H H':=⟨λa xs q=>by
 rcases q with(q|⟨u,q⟩)|q
 .exact .inl (.inl (h.1 a xs q))
 .exact .inl (.inr ⟨u,h.2 a u _ q⟩)
 .exact .inr q,λa o xs q=>h.2 a o _ q⟩
abbrev Rk:=uY->Mp->DK->XR->Prop
def WO(K:qh)(t:Rk):St->Hp->VK->(Hp->Prop)->XK->Prop:=λY H Q' J E=>Bg λU M Q R=>yP K H Y U/\HM K H M/\t U M Q R/\(∀v H' d M',rE K H' d v->HM K H' M'->qI K H H'->Q d M'->Q' v H')/\(∀H1,qI K H H1->J H1)/\T8 K R E
def Wx(X:Cx)(e:Expr)(t:Rk):Prop:=RW X e (WO X.K t)
def RW.mono{t t':St->Hp->VK->(Hp->Prop)->XK->Prop}(h:RW X e t)(m:∀Y H Q J E,t' Y H Q J E->t Y H Q J E):RW X e t':=λW5 s Y H Q J E I q=>h W5 s Y H Q J E I (m Y H Q J E q)
variable {X:Cx}{x:Str}{p pos np Xc:Pos}{e:Expr}{es:T0 Expr}{t:w9}{k:Nat}{f C:Addr}{fd:FuncData}{ps:QQQ}{sp:Hd}
def My(F:Tc X.prog X.w X.K X.mg X.base k f fd ps sp)(hr:rO k X.A)(hg:Gl X x)(hm:X.mg x=some (.ref f))(hk:W.keepIn X.K (.ref f)=true)(hb:uG X.K fd ps [])(ha:A3 (X.nO λ_ _=>False) (e::es) t) (Xp:zu x:=by decide) (he:A7 X e es:=by rfl) (Xl:CP X pos es:=by rfl):
  Wx X (.Call (.Name x p) (e::es) [] pos) (λU M Q R=>t U M λds M1=>sp ds M1 Q R):=RW.mono (K4 F hr hg hm hk hb .nil ha Xp he Xl) λY H Q' J E ⟨U,M,Q,R,hs,hm,ht,k,kJ,kR⟩=>
 ⟨U,M,_,hs,hm,ht,λvs H1 ds M1 hd W7 e1 q1=>⟨kJ H1 e1,ds,M1,Q,R,by rw[eY];exact hd,W7,q1,vG e1 k,kR⟩⟩
variable {b₀:Stmt}{Yw:T0 Stmt}{cn n:Str}{cnp Yp W8 xpos:Pos}{Cc L:Addr}{outer:T0 Env}{i ix:Nat}{te:Rk}{th:xG}
def yP.unset{K:qh}{i:Nat}(h:yP K H Y U):yP K H (Y.set i none) (U.set i none):=λj e q=>by
 by_cases hj:j=i
 .subst hj;by_cases hl:j<U.length
  .rw[eJ hl]at q;cases q
  .rw[gA (by simpa using hl)]at q;cases q
 .rw[eN (dI hj)]at q ⊢;exact h j e q
end L3
namespace L2
def BH(es:Array DictEntry):Bool:=es.toList.all λe=>match e.key with|.str _ _=>true|_=>false
def BA{es:Array DictEntry}(h:BH es=true):StrKeys es:=λe he=>by
 have:=eC.mp h e (ke.mpr he);cases z:e.key with
 | str n t=>exact⟨n,t,rfl⟩
 | _=>rw[z]at this;cases this
abbrev Le:T0 Vl:=[.type "ValueError",.type "Exception",.type "BaseException",.type "object"]
def Pn{K:qh}{t:Vl}{C:Addr}{cd:ClassData}{b:Bool}(q0:W.subIn K (.ref C) (.type "BaseException")=some true)(q1:W.clsIn K C=some cd)(q2:W.typeIn K (.ref C)=some (.type "type"))(s:W.subIn K t (.ref C)=some b):W.exmOne K t (.ref C)=some b:=by unfold W.exmOne;rw[q0,cZ (by rfl)];unfold W.kitCls;simp only;rw[q1,q2,cZ (by rfl)];exact s
end L2
namespace L3
open L2
end L3
namespace L2
theorem CD(self:Vl):∀own:QXQ,refuseLoop self "__setattr__" (own.map Value.ref++Le)=pure ()
 | []=>jJ.passes self
 | c::r=>by show refuseLoop self "__setattr__" (.ref c::(r.map Value.ref++Le))=pure ();rw[refuseLoop_ref];exact CD self r
variable {prog:Pg}{w:Wo}{A:Ar}{s:Sd}{K:qh}{x C:Addr}{ox:Obj}{own:QXQ}{name:Str}{v:Vl}
section
variable {E:QQX}{cd:ClassData}
def Qy{Q:Unit->Sd->Prop}(X:K.In s.heap)(I:W.InstAt s.heap x ox C none)(hs:W.findIn K (.ref C) "__setattr__"=some (some (.builtin "object.__setattr__")))(hc:W.clsIn K C=some cd)(hm:cd.mro=own.map Value.ref++Le)(ht:W.takerIn K C name=some none)(hd:cd.hasDict=true) (h:∀h' d t,(∀b o,b≠x->s.heap.get? b=some o->h'.get? b=some o)->h'.get? x=some {ox with dict:=some d}->s.heap.get? d=none->d≠x->h'.Ns1 d (λy=>if y=name then some v else none)->Q () {s with heap:=h',toks:=t}):wpAny (model prog w) A (setAttr (.ref x) name v) Q E s:=by
 refine W.set_plain X I hs ?_;have SF:=jJ;have ne:cd.mro.isEmpty=false:=by rw[hm];cases own<;>rfl
 have has:cd.mro.contains (.type "object")=true:=by
  rw[hm,List.contains_eq_any_beq,lY];have:Le.any (Value.type "object"==·)=true:=by decide+kernel
  rw[this,kU]
 have sub:W.Looks (model prog w) s.heap (isInstance (.ref x) (.type "object")) true:=I.type.andThen (W.looks_mroIn X (by unfold W.mroIn;rw[hc,lQ,cX (by rw[ne];decide),has]));refine hW SF.slot.plain SF.entry (@PySem.W.check_slot (model prog w) _ _ {s with toks:=s.toks+1} "object.__setattr__" "object" "__setattr__" (.ref x) [.str name s.toks,v] [] _ SF.kind SF.split sub (SF.args (.ref x) (.str name s.toks) v) ?_);obtain⟨attr,ha,hr⟩:=Option.bind_eq_some_iff.mp ht;have Z2:W.Looks (model prog w) s.heap (mroOf (.ref C)) cd.mro:=(kr X hc).andThen .now;have L3':W.Looks (model prog w) s.heap (Builtin.ObjectAttr.storeTaker? attr) none:=by
  cases attr with
  | none=>exact .now
  | some a=>
   obtain⟨b,hb,hr⟩:=iE.mp hr;refine(W.looks_takesIn X hb).andThen ?_;cases b
   .exact .now
   .cases hr
 rw[W.osa_eq,refuse_eq];refine cT (cT (I.type.here (s:={s with toks:=s.toks+1}) (cT (Z2.here (s:={s with toks:=s.toks+1}) ?_))));rw[hm,CD];refine c9 (cT (I.type.here (s:={s with toks:=s.toks+1}) (cT ((ja X ha).here (s:={s with toks:=s.toks+1}) (cT (L3'.here (s:={s with toks:=s.toks+1}) ?_))))));obtain⟨hx,Zy,hn,YY⟩:=I;obtain⟨oc,odi,oda,X3⟩:=ox;dsimp only at Zy YY;subst Zy;cases odi with
 | some _=>exact YY.elim
 | none=>
  refine cT (c9 (cT (cT (wpAny_loadPart hx (cT (mf (s:={s with toks:=s.toks+1}) (kr X hc) ?_))))));rw[hd];rw[cX (by decide)];obtain⟨hh,g,dr,tk,os⟩:=s;dsimp only at hx h ⊢;rw[cX (by simp[typeHasDict])];split
  .cases hn
  .have y1:(hh.push W.emptyDict).get? x=some ⟨.ref C,none,oda,X3⟩:=cY _ hx;have nx:x≠hh.objs.size:=λz=>e9 _ (z ▸ dq hx);refine cT (wpAny_alloc' (cT (wpAny_update' y1 (c9 ?_))));have e0:((hh.push W.emptyDict).update x λo=>{o with dict:=some hh.objs.size}).Ns hh.objs.size (λ_=>none):=⟨W.emptyDict,#[],_,(iZ _ _ _ _ nx.symm).trans (dE hh rfl),rfl,λe he=>absurd he (by simp),λ_=>rfl⟩;refine cT (c9 (cT (wpAny_nsSet1 (k9 e0) λh' n1 sb=>?_)));obtain⟨oD,esD,epD,g1,g2,g3⟩:=n1.count (Within.cons name v Within.nil);refine cT (lE g1 (g2 ▸ lF (dW g3 (by rw[dH,dN];decide))) (c9 (h h' hh.objs.size _ (λb o hb z=>?_) ?_ (gF (dg _)) nx.symm n1)))
   .exact(sb.2 b λy=>e9 _ (y ▸ dq z)).trans ((iZ _ _ _ _ hb).trans (cY _ z))
   .refine(sb.2 x nx).trans (fF _ y1 ?_);have fr:=(Heap.get?_some_iff.mp hx).2;cases oda with
    | _=>first|rfl|exact fr
end
variable {nm q:Str}{bs bm Yx:T0 Vl}{hdct:Bool}{sn:QQQ}{sub:T0 Vl}{ab:Bool}{col:Option Bool}{dd:Option Addr}{k0 k1 k2 k3 k5:Option Vl}{B Bn newId nid XA yW:String}{bmN:T0 Vl}{h:Heap}{g:Array GenState}{d:Drawn}{t:Nat}{os:OsState}
section
variable {E:QQX}{N:Addr}
abbrev PZ(C t:Addr):Obj:={cls:=.ref C,data:=.fields #[.ref t,.none,.none,.none,.bool false,.none]}
def AG(Fn:ExcBaseFacts Bn newId yW bmN)(hBn:Yx.contains (.type Bn)=true)(F:ExcBaseFacts B nid XA Yx)(T:OwnTail h Yx bm){mN:QQZ}{us:T0 Vl}{fI:Addr}{oI:Obj}{Q:PySem.Fin->Sd->Prop} (hC:h.get? C=some (excClassObj nm q C N bs bm hdct sn sub ab col dd k0 k1 k2 k3 k5 newId)) (hn:h.Ns N mN) (hi:mN "__init__"=some (.ref fI)) (hf:h.get? fI=some oI) (hfc:oI.cls=.type "function") (Xb:us.length<=sizeLine) (hq:∀h' e,Heap.MadeExcOf h h' e (.ref C) us->wpAny (model prog w) A (call (.ref fI) (.ref e::us)) (λr s'=>r=.none/\Q (.done (.ret (.ref e))) s') E ⟨h',g,d,t,os⟩):
  wpAny (model prog w) A (Builtin.«type.__call__» ⟨.ref C::us,[]⟩) Q E ⟨h,g,d,t,os⟩:=by
 repeat (first|with_reducible refine gW hC ?_|with_reducible refine wpAny_madeBy_exc hC ?_|wp_step)
 refine codeAny_call_builtin_code (iq _ Fn.quiet) (wpAny_check_new_subU Fn hBn T hC (codeAny_exc_new_subU Fn hBn F T hC ?_ Xb));have kp:∀b o,h.get? b=some o->((h.push {cls:=.type "tuple",data:=.seq us.toArray}).push (PZ C h.objs.size)).get? b=some o:=λb o z=>cY _ (cY _ z);have gE:((h.push {cls:=.type "tuple",data:=.seq us.toArray}).push (PZ C h.objs.size)).get? (h.objs.size+1)=some (PZ C h.objs.size):=by heap_get
 have hC2:=kp _ _ hC;have ZO:((h.push {cls:=.type "tuple",data:=.seq us.toArray}).push (PZ C h.objs.size)).Ns N mN:=let⟨o,es,ep,e,r⟩:=hn;⟨o,es,ep,kp _ _ e,r⟩;have cC:(Value.ref C::bm).contains (.ref C)=true:=by rw[iu,fA,gY]
 have T2:=T.keeps kp;show wpAny _ _ _ _ _ _;unfold isInstance
 repeat (first|with_reducible refine gW gE ?_|(with_reducible refine kC hC2 ?_;rw[cC])|wp_step)
 show wpAny _ _ (typeLookup (.ref C) _) _ _ _;refine wpAny_typeLookup_tail hC2 ZO T2 F.mroIs F.init.lookup ?_;rw[hi];refine eK (cT ?_);unfold bindSpecial;refine cT (jC (T:="function") ⟨_,kp _ _ hf,hfc⟩ ?_);rw[cZ (by decide)];refine c9 (cT (dZ (hq _ (h.objs.size+1) ⟨kp,gF (gS _),h.objs.size,gE,gF (dg _),cY _ (Heap.get?_push_at rfl rfl)⟩) (λr s' hr=>?_) λ_ _ z=>z));obtain⟨rfl,hQ⟩:=hr
 wp_walk
 exact hQ
def Hq(Fn:ExcBaseFacts Bn newId yW bmN)(hBn:Yx.contains (.type Bn)=true)(F:ExcBaseFacts B nid XA Yx)(T:OwnTail h Yx bm){mN:QQZ}{us:T0 Vl}{fI:Addr}{oI:Obj}{Q:QQX} (hC:h.get? C=some (excClassObj nm q C N bs bm hdct sn sub ab col dd k0 k1 k2 k3 k5 newId)) (hn:h.Ns N mN) (hi:mN "__init__"=some (.ref fI)) (hf:h.get? fI=some oI) (hfc:oI.cls=.type "function") (Xb:us.length<=sizeLine) (hq:∀h' e,Heap.MadeExcOf h h' e (.ref C) us->wpAny (model prog w) (A.under (.builtin "type.__call__" ⟨.ref C::us,[]⟩)) (call (.ref fI) (.ref e::us)) (λr s'=>r=.none/\Q (.ref e) s') E ⟨h',g,d,t,os⟩):
  wpAny (model prog w) A (call (.ref C) us) Q E ⟨h,g,d,t,os⟩:=by
 have f1:=tc_lookup;have f2:=tc_bind (.ref C);have hT:(⟨h,g,d,t,os⟩:Sd).TypeIs (.ref C) "type":=⟨_,hC,rfl⟩;refine hJ (jS ?_);show wpAny _ _ (callAny (.ref C) _) _ _ _
 repeat (any_goals(first|assumption|with_reducible refine gW hC ?_|wp_step))
 exact⟨rfl,codeAny_call_builtin_at (iq _ (by decide+kernel)) entry_typeCall (wpAny_check_type_call_sub hC (AG Fn hBn F T hC hn hi hf hfc Xb hq))⟩
end
variable {M:Model}{env:Env}
section
variable {E:QQX}{N:Addr}
def JB(h:Heap)(e C:Addr)(dx:Option Addr):Prop:=A8 λt sl=>h.get? e=some ⟨.ref C,dx,.fields #[.ref t,.none,.none,.none,.bool false,.none],sl⟩
def F4{x:Sem Vl}{Q:Flow->Sd->Prop}(Xi:bm.contains (.type "BaseException")=true)(hh:A.handled=none) (h:wpAny M A x (λv s₁=>∃e dx,v=.ref e/\s₁.heap.get? C=some (excClassObj nm q C N bs bm hdct sn sub ab col dd k0 k1 k2 k3 k5 newId)/\JB s₁.heap e C dx/\E (.ref e) s₁) E s):
  wpAny M A (raiseStmt env (some x) none) Q E s:=by
 have cB:(Value.ref C::bm).contains (.type "BaseException")=true:=by rw[iu,Xi,kU]
 unfold raiseStmt;refine cT (dZ h (λv s₁ ⟨e,dx,ev,hC,⟨t,sl,he⟩,hE⟩=>?_) λ_ _ z=>z);subst ev;obtain⟨hp,g,d,tk,os⟩:=s₁
 repeat (first|with_reducible refine gW he ?_|with_reducible refine gW hC ?_|(with_reducible refine kC hC ?_;rw[cB])|wp_step)
 exact wpAny_raiseNew_none hh hE
def GN(Fn:ExcBaseFacts Bn newId yW bmN)(hBn:Yx.contains (.type Bn)=true)(F:ExcBaseFacts B nid XA Yx){mN:QQZ}{fI:Addr}{x:Str}{np Xc pos:Pos}{args:T0 Expr}{Q:Flow->Sd->Prop} (Xi:bm.contains (.type "BaseException")=true) (hh:A.handled=none) (Xn:(backTo Xc (starEach args env)).any (·.1)=false) (hi:mN "__init__"=some (.ref fI)) (h:wpAny (model prog w) A (eval (.Name x np) env) (λf s₁=>f=.ref C/\wpAny (model prog w) A (evalArgs (.ref C) true (backTo Xc (starEach args env)) []) (λa s₂=>a.kw=[]/\a.pos.length<=sizeLine/\s₂.heap.get? C=some (excClassObj nm q C N bs bm hdct sn sub ab col dd k0 k1 k2 k3 k5 newId)/\s₂.heap.Ns N mN/\OwnTail s₂.heap Yx bm/\(∃oI,s₂.heap.get? fI=some oI/\oI.cls=.type "function")/\
    ∀h' e,Heap.MadeExcOf s₂.heap h' e (.ref C) a.pos->wpAny (model prog w) (A.under (.builtin "type.__call__" ⟨.ref C::a.pos,[]⟩)) (call (.ref fI) (.ref e::a.pos))
     (λr s'=>r=.none/\∃dx,s'.heap.get? C=some (excClassObj nm q C N bs bm hdct sn sub ab col dd k0 k1 k2 k3 k5 newId)/\JB s'.heap e C dx/\E (.ref e) s') E {s₂ with heap:=h'}) E s₁) E s):
  wpAny (model prog w) A (exec (.Raise (some (.Call (.Name x np) args [] Xc)) none pos) env) Q E s:=by
 rw[arm_exec_Raise];refine cT (ic (F4 (C:=C) (nm:=nm) (q:=q) (N:=N) (bs:=bs) (bm:=bm) (hdct:=hdct) (sn:=sn) (sub:=sub) (ab:=ab) (col:=col) (dd:=dd) (k0:=k0) (k1:=k1) (k2:=k2) (k3:=k3) (k5:=k5) (newId:=newId) Xi hh ?_));refine cT (dZ (wpAny_Call_ofName (dZ h (λf s₁ ⟨ef,h₁⟩=>?_) λ_ _ z=>z)) (λv s₃ h₃=>cT (ic (c9 h₃))) λ_ _ z=>z);subst ef;unfold callWith;refine cT (eK (dZ h₁ (λa s₂ h₂=>cT (ic ?_)) λ_ _ z=>z));obtain⟨W8,akw⟩:=a;obtain⟨hkw,Xb,hC,hn,T,⟨oI,hf,hfc⟩,h₂⟩:=h₂;obtain rfl:akw=[]:=hkw;obtain⟨hp,g,d,tk,os⟩:=s₂;simp only[Xn];refine cT (wpAny_keeperOf_exc hC (cT (Hq Fn hBn F T hC hn hi hf hfc Xb λh' e hm=>dZ (h₂ h' e hm) (λr s' ⟨z,dx,c1,c2,c3⟩=>⟨z,cT (eK (wpAny_point (c9 ⟨e,dx,rfl,c1,c2,c3⟩)))⟩) λ_ _ z=>z)))
end
def x0(a C:Addr)(h:Heap):Prop:=JB h a C none
def x1(a C d:Addr)(h:Heap):Prop:=JB h a C (some d)
structure yH(K:qh)(C:Addr)(f:Str):Prop where
 sa:W.findIn K (.ref C) "__setattr__"=some (some (.builtin "object.__setattr__"))
 cd:∃cd own,W.clsIn K C=some cd/\cd.mro=List.map Value.ref own++Le/\cd.hasDict=true
 tk:W.takerIn K C f=some none
variable {X:Cx}{W5:T0 (Addr × Obj)}{Y σ':St}{H H1:Hp}{s1:Sd}{a:Addr}
section
variable {f:Str}
def F8{A:Ar}{E:QQX}{Q:Unit->Sd->Prop}(I:Inv X W5 Y H s)(e:H a=some (.ext (x0 a C)))(ry:qC y u)(st:yH X.K C f)(h:∀d s',H d=none->d≠a->Inv X W5 Y (upd (upd H a (.ext (x1 a C d))) d (.ext (NZ d f y))) s'->Q () s'):wpAny (model X.prog X.w) A (setAttr (.ref a) f u) Q E s:=by obtain⟨⟨t,sl,ho⟩,_,_⟩:=I.mM a _ e;obtain⟨cd,own,c1,c2,c3⟩:=st.cd;refine Qy I.nj ⟨ho,rfl,rfl,trivial⟩ st.sa c1 c2 st.tk c3 λh' d tk k1 k2 dn da n1=>h d _ (zh I.mM dn) da ?_;have I2:=I.write (t':=tk) (x:=a) (e:=a) (o:=.ext (x1 a C d)) (by rw[e];exact True.intro) (.inl rfl) k1 ⟨_,k2⟩ ⟨⟨t,sl,k2⟩,⟨_,k2⟩,λh1 h2 ⟨t',YA,z⟩ kk=>⟨t',YA,kk _ z⟩⟩;refine I2.adopt I dn (by rw[pQ da];exact zh I.mM dn) ⟨⟨u,n1,ry⟩,?_,λh1 h2 ⟨u,n,r⟩ kk=>⟨u,n.at kk,r⟩⟩;obtain⟨o,_,_,z,_⟩:=n1;exact⟨o,z⟩
def Inv.drop{φ:Heap->Prop}(I:Inv X W5 Y H s)(ea:H a=some (.ext φ)):Inv X W5 Y (λb=>if b=a then none else H b) s:=by
 have less:∀b,H b=none->(if b=a then none else H b)=none:=λb e=>by split<;>first|rfl|exact e
 have keep:∀b o,H b=some o->(∀φ,o≠.ext φ)->(if b=a then none else H b)=some o:=λb o e n=>by
  rw[cX]
  .exact e
  .intro z;rw[z,ea]at e;exact n φ (df e).symm
 refine⟨I.ok,I.os,I.bare,⟨I.base.keep,I.base.slot,λb o e h0 hb=>less b (I.base.free b o e h0 hb),I.base.there,λb xs e=>keep b _ (I.base.nk b xs e) (λ_ z=>nomatch z),λb o u e=>keep b _ (I.base.m9 b o u e) (λ_ z=>nomatch z),λb ps e=>?_⟩,I.loc,I.cell,less _ I.free,λx c e=>less _ (I.mT x c e),λp hp=>⟨(I.pin p hp).1,less _ (I.pin p hp).2.1,(I.pin p hp).2.2⟩,λb ob e=>?_,I.len⟩
 .obtain⟨more,z⟩:=I.base.nz b ps e;exact⟨more,keep b _ z (λ_ z=>nomatch z)⟩
 .have e':H b=some ob:=by
   by_cases z:b=a
   .rw[cZ z]at e;cases e
   .rw[cX z]at e;exact e
  exact(I.mM b ob e').ni (λ_ _ _ q=>q) (λb' q=>keep b' _ q (λ_ z=>nomatch z)) λb' xs q=>keep b' _ q (λ_ z=>nomatch z)
end
def Mi(K:qh)(ta tv:TE)(f:Str):TS:=λD Y H=>tv Y H λy H1=>ta Y H1 λx H2=>∃a C,x=.ref a/\H2 a=some (.ext (x0 a C))/\yH K C f/\∀d,H2 d=none->d≠a->D.nx Y (upd (upd H2 a (.ext (x1 a C d))) d (.ext (NZ d f y)))
def P'{f:Str}{pos Xh:Pos}{ta tv:TE}(ha:PE X o ta)(hv:PE X value tv)(hs:swapsWith value (some (.Attribute o f Xh)) pos.line X.env=pure false:=by rfl):PS X (.Assign [.Attribute o f Xh] value pos) (Mi X.K ta tv f):=by intro W5 s Y H D I h;refine iM (sf (hv W5 s Y H _ I h) λu s1 zz=>x5 zz λy H1 I1 ry q=>sf (ha W5 s1 Y H1 _ I1 q) λov s2 zz=>?_) hs;obtain⟨x,H2,I2,rx,a,C,ex,ea,st,q2⟩:=zz;subst ex;obtain rfl:ov=Value.ref a:=rx;exact F8 I2 ea ry st λd s3 dn da I3=>⟨Y,_,I3,q2 d dn da⟩
def vW(K:qh)(f:Str):Sp:=λvs H Q _=>C8 λe C y=>vs=[.ref e,y]/\H e=some (.ext (x0 e C))/\yH K C f/\∀d,H d=none->d≠e->Q .mG (upd (upd H e (.ext (x1 e C d))) d (.ext (NZ d f y)))
variable {qual:Str}{scope:Scope}{outer:T0 Env}{s0:Sd}{H0:Hp}{P:Pg}{mg:QQZ}{base:Heap}
section
def ME{x qual y1 y2 fl:Str}{st:Stmt}(F:P4 K x qual st f fd)(S:sW [y1,y2] [y1,y2] (pZ st)) (hb:∀(Xd:Vl) (A:Ar) (outer:T0 Env) (s:Sd) (H:Hp) (E:XK),Cn (vc (CB P w) P w K mg base [y1,y2] qual (pZ st) f Xd A outer s H E) (rG st) (Mi K (EW 0) (EW 1) fl)):wZ P w K mg base (CB P w) 1 f fd [y1,y2] (vW K fl):=by
 obtain⟨oc,od,kV,XI,pm,an,Xd,ct,X3,rfl,lk,X8⟩:=F.ex;refine Ma lk X8 S (λvs H Q E h=>?_) λA outer s H vs Q' E hr h=>⟨_,hb Xd A outer s H E,?_⟩
 .obtain⟨e,C,y,rfl,_⟩:=h;rfl
 .obtain⟨e,C,y,rfl,h1,h2,q⟩:=h;exact⟨y,rfl,.ref e,rfl,e,C,rfl,h1,h2,q⟩
def IG(K:qh)(C fI:Addr):Prop:=
 ∃nm q N bs bm Yx hdct sn sub ab col dd k0 k1 k2 k3 k5,∃B Bn newId nid XA yW:String,∃bmN,∃mN:QQZ,ExcBaseFacts Bn newId yW bmN/\Yx.contains (Value.type Bn)=true/\ExcBaseFacts B nid XA Yx/\bm.contains (Value.type "BaseException")=true/\mN "__init__"=some (.ref fI)/\
  ∀h:Heap,K.In h->h.get? C=some (excClassObj nm q C N bs bm hdct sn sub ab col dd k0 k1 k2 k3 k5 newId)/\h.Ns N mN/\OwnTail h Yx bm/\∃oI,h.get? fI=some oI/\oI.cls=.type "function"
variable {N:QQQ}{f:Addr}{cd:Vl}{E:XK}
def KA{X:Cx}(hX:X=vc (CB P w) P w K mg base N qual scope f cd A outer s0 H0 E){C fI:Addr}{fdI:FuncData}{ps:QQQ}{fl:Str}{k:Nat}{x:Str}{np Xc pos:Pos}{e:Expr}{ta:TA}(hC:IG X.K C fI)(F:wZ X.prog X.w X.K X.mg X.base (CB X.prog X.w) k fI fdI ps (vW X.K fl))(hr:rO (k+1) X.A)(hb:uG X.K fdI ps [])(st:yH X.K C fl) (hg:Gl X x) (hm:X.mg x=some (.ref C)) (ha:PA X [e] ta) (hs:starEach [e] X.env=[(false,eval e X.env)]:=by rfl) (Xp:zu x:=by decide):
  PS X (.Raise (some (.Call (.Name x np) [e] [] Xc)) none pos) (λ_ Y H=>ta Y H λvs H1=>∃y,vs=[y]/\∀d,H1 d=none->E (.ref C) (some d) (upd H1 d (.ext (NZ d fl y)))):=by
 intro W5 s Y H D I h;obtain⟨nm,q,N',bs,bm,Yx,hdct,sn,sub,ab,col,dd,k0,k1,k2,k3,k5,B,Bn,newId,nid,XA,yW,bmN,mN,f1,f2,f3,f4,f5,Y3⟩:=hC;have hcalm:X.A.handled=none:=I.ok.hd (by rw[hX];rfl);refine GN (nm:=nm) (q:=q) (N:=N') (bs:=bs) (hdct:=hdct) (sn:=sn) (sub:=sub) (ab:=ab) (col:=col) (dd:=dd) (k0:=k0) (k1:=k1) (k2:=k2) (k3:=k3) (k5:=k5) f1 f2 f3 f4 hcalm (by rw[hs];rfl) f5 (wD I hg hm ⟨rfl,?_⟩ Xp);rw[hs];refine evalArgs_kwB rfl ?_;have YI:=ha Xc W5 s Y H _ I h;rw[hs]at YI;refine sf YI λus s1 zz=>?_;obtain⟨vs,H1,I1,r1,y,ey,q1⟩:=zz;subst ey;obtain⟨u,rfl,ru⟩:=ye r1;refine wpAny_evalAll_nil ?_;obtain⟨c1,c2,c3,c4⟩:=Y3 s1.heap I1.nj;refine⟨rfl,by show 1<=sizeLine;rw[dH];decide,c1,c2,c3,c4,λh' e' md=>?_⟩;obtain⟨mk,mn,t,mt,_⟩:=md;have hn:H1 e'=none:=zh I1.mM mn;have I2:Inv X W5 Y H1 {s1 with heap:=h'}:=I1.kept (t':=s1.toks) mk;have I3:Inv X W5 Y (upd H1 e' (.ext (x0 e' C))) {s1 with heap:=h'}:=I2.adopt I1 mn hn ⟨⟨t,_,mt⟩,⟨_,mt⟩,λh1 h2 ⟨t',YA,z⟩ kk=>⟨t',YA,kk _ z⟩⟩;have r2:qx [V.ref e',y] [Value.ref e',u]:=.cons rfl (.cons ru .nil);have YB:vW X.K fl [V.ref e',y] (upd H1 e' (.ext (x0 e' C))) (λv H2=>v=.mG/\∃d,d≠e'/\H1 d=none/\H2=upd (upd H1 e' (.ext (x1 e' C d))) d (.ext (NZ d fl y))) (λ_ _ _=>False):=⟨e',C,y,rfl,qa,st,λd dn da=>⟨rfl,d,da,by rw[pQ da]at dn;exact dn,by rw[OV]⟩⟩;have hl:([Value.ref e',u]:T0 Vl).length=ps.length:=by rw[<-r2.length];exact F.len _ _ _ _ YB
 refine hJ (gh (F.run _ X.stack _ _ ⟨[Value.ref e',u],[]⟩ [Value.ref e',u] _ _ _ (hr.make C [u] []) (I3.nX.make C [u] []) (hb _ [Value.ref e',u] I3.nj hl) r2 YB) λr s' YM=>?_);cases r with
 | error ev=>obtain⟨_,_,_,_,_,_,z,_⟩:=YM;exact z.elim
 | ok fw=>
  cases fw with
  | ret uv=>
   obtain⟨v,H',I4,rv,ev,d,da,dn,eH⟩:=I3.after YM;subst ev eH;obtain⟨⟨t',YA,md⟩,_,_⟩:=I4.mM e' _ (by rw[pQ (dI da)];exact qa);have I5:Inv X W5 Y (upd H1 d (.ext (NZ d fl y))) _:=(funext λb=>by
    by_cases z:b=e'
    .subst z;rw[cZ rfl,pQ (dI da),hn]
    .rw[cX z];by_cases z2:b=d
     .subst z2;rw[qa,qa]
     .rw[pQ z2,pQ z2,pQ z]:(λb=>if b=e' then none else upd (upd H1 e' (.ext (x1 e' C d))) d (.ext (NZ d fl y)) b)=upd H1 d (.ext (NZ d fl y))) ▸ I4.drop (a:=e') (φ:=x1 e' C d) (by rw[pQ (dI da)];exact qa)
   refine⟨rv,some d,(Y3 s'.heap I4.nj).1,⟨t',YA,md⟩,?_⟩;subst hX;have Xw:Un (vS outer) [] H0 H1 s0.heap s1.heap:=I1.base;exact TJ I5 (tb:=none) ⟨_,_,md,rfl,rfl,rfl,(by show 1<6;decide),rfl,λT z=>by cases z⟩ (G9 Xw rfl mn) (λT z=>by cases z) (by rw[pQ (dI da)];exact hn) (q1 d dn)
  | next=>exact False.elim YM
  | brk=>exact False.elim YM
  | cont=>exact False.elim YM
end
end L2
namespace L3
open L2
variable {P:Pg}{w:Wo}{K:qh}{mg:QQZ}{base:Heap}{N:QQQ}{qual:Str}{scope:Scope}{f:Addr}{cd:Vl}{A:Ar}{outer:T0 Env}{s0:Sd}{H0:Hp}{E:XK}{x:Str}{np Xc pos:Pos}{e:Expr}{C fI:Addr}{fdI:FuncData}{ps:QQQ}{fl:Str}{k:Nat}{R:XR}{ta:w9}
def PK(C:Addr)(R:XR)(f:Str)(ta:w9):xG:=λ_ U M=>ta U M λds M1=>∃z,ds=[z]/\R C (some (f,z)) M1
def Kk(hC:IG K C fI)(F:wZ P w K mg base (CB P w) k fI fdI ps (vW K fl))(hr:rO (k+1) (vc (CB P w) P w K mg base N qual scope f cd A outer s0 H0 E).A)(hb:uG K fdI ps [])(st:yH K C fl)(_:W.findIn K (.ref C) "__init__"=some (some (.ref fI)))(hg:Gl (vc (CB P w) P w K mg base N qual scope f cd A outer s0 H0 E) x)(hm:mg x=some (.ref C))(hR:T8 K R E)(ha:A3 (vc (CB P w) P w K mg base N qual scope f cd A outer s0 H0 E) [e] ta) (hs:starEach [e] (vc (CB P w) P w K mg base N qual scope f cd A outer s0 H0 E).env=[(false,eval e (vc (CB P w) P w K mg base N qual scope f cd A outer s0 H0 E).env)]:=by rfl) (Xp:zu x:=by decide):
  S3 (vc (CB P w) P w K mg base N qual scope f cd A outer s0 H0 E) (.Raise (some (.Call (.Name x np) [e] [] Xc)) none pos) (PK C R fl ta):=
 PS.mono (KA rfl hC F hr hb st hg hm ha hs Xp) λD' Y H ⟨U,M,D,hs,hm,ht,_⟩=>⟨U,M,_,hs,hm,ht,λvs H1 ds M1 hd W7 e1 q1=>by
  obtain⟨z,rfl,r⟩:=q1;obtain⟨v,rfl,hv⟩:=r6 hd;exact⟨v,rfl,λd dn=>hR C (some d) _ M1 _ (W7.add dn) (.inr ⟨d,fl,z,v,rfl,rfl,qa,hv.mono (.new dn)⟩) r⟩⟩
variable {X:Cx}{b₀:Stmt}{Yw:T0 Stmt}{cn:Str}{cnp Yp epos:Pos}{Cc L:Addr}{te:Rk}{th:xG}
def MM{t:St->Hp->VK->(Hp->Prop)->XK->Prop}(he:RW X e t)(hs:swapsWith e none epos.line X.env=pure false:=by rfl):WG X (.Expr e epos) (λD Y H J E=>t Y H (λ_ H'=>D.nx Y H') J E):=by intro W5 s Y H D J E I h;exact wpAny_Expr_any (sf (he W5 s Y H _ J E I h) λv s1 zz=>x5 zz λy H1 I1 r1 q1=>⟨Y,H1,I1,q1⟩) I.quiet hs
end L3
namespace L2
def MA{K:qh}{C C2 N fI:Addr}{nm q:Str}{bs sub:T0 Vl}{hdct ab:Bool}{sn:QQQ}{col:Option Bool}{dd od1 od2 dd2:Option Addr}{k0 k1 k2 k3 k5:Option Vl}{oc1 oc2 c0:Vl}{es1 es2:Array DictEntry}{ep1 ep2:Nat}{sl1 sl2 Wj:Array (Option Vl)}{cd2:ClassData}{oI:Obj} (l1:K.lookup C=some (excClassObj nm q C N bs (.ref C2::Le) hdct sn sub ab col dd k0 k1 k2 k3 k5 "ValueError.__new__")) (n1:K.lookup N=some ⟨oc1,od1,.dict es1 ep1,sl1⟩) (s1:BH es1=true) (i1:nsFind es1 "__init__"=some (.ref fI)) (l2:K.lookup C2=some ⟨c0,dd2,.cls cd2,Wj⟩) (n2:K.lookup cd2.ns=some ⟨oc2,od2,.dict es2 ep2,sl2⟩) (s2:BH es2=true) (i2:nsFind es2 "__init__"=none) (l3:K.lookup fI=some oI) (hf:W.isFn K (.ref fI)=true):IG K C fI:=by
 have hc:oI.cls=.type "function":=by have hf:=fh.mp hf;unfold W.typeIn at hf;simp only at hf;rw[l3]at hf;exact df hf
 refine⟨nm,q,N,bs,.ref C2::Le,Le,hdct,sn,sub,ab,col,dd,k0,k1,k2,k3,k5,"ValueError","ValueError","ValueError.__new__","ValueError.__new__","ValueError.__init__","ValueError.__init__",Le,λn=>nsFind es1 n,ko,by decide+kernel,ko,?_,i1,λh X=>⟨X C _ l1,⟨_,es1,ep1,X N _ n1,rfl,BA s1,λ_=>rfl⟩,.own (X C2 _ l2) ⟨_,es2,ep2,X _ _ n2,rfl,BA s2,λ_=>rfl⟩ i2 .base,oI,X fI _ l3,hc⟩⟩;rw[iu];have:Le.contains (.type "BaseException")=true:=by decide+kernel
 rw[this,kU]
def J3{K:qh}{C C2 N:Addr}{nm q f:Str}{bs sub:T0 Vl}{ab:Bool}{sn:QQQ}{col:Option Bool}{dd:Option Addr}{k0 k1 k2 k3 k5:Option Vl}(l1:K.lookup C=some (excClassObj nm q C N bs (.ref C2::Le) true sn sub ab col dd k0 k1 k2 k3 k5 "ValueError.__new__"))(sa:W.findIn K (.ref C) "__setattr__"=some (some (.builtin "object.__setattr__")))(tk:W.findIn K (.ref C) f=some none):yH K C f:=by refine⟨sa,⟨_,[C,C2],by unfold W.clsIn;rw[l1],rfl,rfl⟩,?_⟩;unfold W.takerIn;rw[tk];rfl
end L2
namespace L3
open L2
variable {X:Cx}{pos W8:Pos}{o e:Expr}{es:T0 Expr}{ta:T3}{t:w9}
structure FA where
 f:Addr
 d:FuncData
 p:QQQ
structure DG(K:qh)(st:Stmt)(py qual:Str)(ps:QQQ)(x:FA):Prop where
 pe:x.p=ps
 fn:P4 K py qual st x.f x.d
 b:uG K x.d x.p []
 ty:W.isFn K (.ref x.f)=true
structure TG(K:qh)(mg:QQZ)(st:Stmt)(py:Str)(ps:QQQ)(x:FA):Prop extends DG K st py py ps x where
 mg:mg py=some (.ref x.f)
structure MG(K:qh)(C:Addr)(st:Stmt)(py qual:Str)(ps:QQQ)(x:FA):Prop extends DG K st py qual ps x where
 at_:W.findIn K (.ref C) py=some (some (.ref x.f))
structure CG(K:qh)(mg:QQZ)(nm:Str)(C:Addr):Prop extends Cls K C where
 mg:mg nm=some (.ref C)
def DG.kp{K:qh}{st:Stmt}{x:FA}(h:DG K st py qual ps x):W.keepIn K (.ref x.f)=true:=h.fn.kp
def MG.m8{K:qh}{st:Stmt}{x:FA}(h:MG K C st py qual ps x):vk K C py x.f:=⟨h.at_,h.ty,h.toDG.kp⟩
def za(K:qh)(C:Addr)(fs:QQQ):Prop:=∀f,fs.contains f=true->tZ K C f
def tD{K:qh}:za K C []:=λf h=>by simp at h
def pM{K:qh}{C:Addr}{g:Str}(h:W.findIn K (.ref C) g=some none)(r:za K C fs):za K C (g::fs):=λf q=>by
 rw[iu,gP]at q;rcases q with q|q
 .rw[eq_of_beq q];exact h
 .exact r f q
abbrev Fq(P:Pg)(w:Wo)(K:qh)(mg:QQZ)(base:Heap)(k:Nat)(x:FA)(sp:qY):Prop:=Tn P w K mg base k x.f x.d x.p sp
abbrev VD(P:Pg)(w:Wo)(K:qh)(mg:QQZ)(base:Heap)(k:Nat)(x:FA)(sp:Hd):Prop:=Tc P w K mg base k x.f x.d x.p sp
def Rx(N P:QQQ)(sc:Scope):Bool:=sc.kind==.function&&(!sc.isCoroutine&&(!sc.isGenerator&&(decide N.Nodup&&(decide (N.take P.length=P)&&((P.all λx=>sc.names.lookup x==some .local||sc.names.lookup x==some .cell)&&sc.names.all λy=>!(y.2==.free))))))
def WR{N P:QQQ}(h:Rx N P sc=true):sW N P sc:=by
 unfold Rx at h;simp only[dQ,gD,fh,d6]at h;obtain⟨h1,h2,h3,h4,h5,h6,h7⟩:=h;refine⟨h1,h2,h3,h4,h5,λx hx=>?_,λy hy e=>?_⟩
 .have:=eC.mp h6 x hx
  simpa using this
 .have:=eC.mp h7 y hy;rw[e]at this;simp at this
variable {P:Pg}{w:Wo}{K:qh}{mg:QQZ}{base:Heap}
def VA{st:Stmt}{sp:qY}(F:DG K st x qual ps fa)(S:sW N ps (pZ st))(len:∀ds M Q,sp ds M Q->ds.length=ps.length) (Xr:∀(Xd:Vl) (A:Ar) (outer:T0 Env) (s:Sd) (H:Hp) (E:XK),rO k (A.deeper (envOfC qual (pZ st) s.heap.objs.size fa.f Xd))->
   ∃t,HC (vc NW P w K mg base N qual (pZ st) fa.f Xd A outer s H E).om (rG st) t/\∀ds M Q,sp ds M Q->t {nx:=λ_ M'=>∃W9,qp W9 M'/\Q .mG W9,rt:=λd M'=>∃W9,qp W9 M'/\Q d W9} (wI N ds) M):Fq P w K mg base (k+1) fa sp:=by
 unfold Fq;rw[F.pe];exact Tu F.fn S len Xr
def U'{st:Stmt}{sp:Hd}(F:DG K st x qual ps fa)(S:sW N ps (pZ st))(len:∀ds M Q R,sp ds M Q R->ds.length=ps.length) (Xr:∀(Xd:Vl) (A:Ar) (outer:T0 Env) (s:Sd) (H:Hp) (E:XK) (R:XR),rO k (A.deeper (envOfC qual (pZ st) s.heap.objs.size fa.f Xd))->T8 K R E->
   ∃t,HC (vc (CB P w) P w K mg base N qual (pZ st) fa.f Xd A outer s H E) (rG st) t/\∀ds M Q,sp ds M Q R->t {nx:=λ_ M'=>∃W9,qp W9 M'/\Q .mG W9,rt:=λd M'=>∃W9,qp W9 M'/\Q d W9} (wI N ds) M):VD P w K mg base (k+1) fa sp:=by
 unfold VD;rw[F.pe];exact UY F.fn S len Xr
variable {k n:Nat}{f C:Addr}{fa:FA}{st:Stmt}{qual:Str}{ps:QQQ}{sp:qY}{x m:Str}{p:Pos}
def pE(F:Fq X.prog X.w X.K X.mg X.base k fa sp)(hr:rO n X.A)(T:TG X.K X.mg st x ps fa)(ha:A3 X (e::es) t)(hn:k<=n:=by first|decide|omega)(hg:Gl X x:=by rfl)
  (Xp:zu x:=by decide) (he:A7 X e es:=by rfl) (Xl:CP X pos es:=by rfl):
  E3 X (.Call (.Name x p) (e::es) [] pos) (DS sp t):=OU F (hr.mono hn) hg T.mg T.toDG.kp T.b ha Xp he Xl
def uL(F:Fq X.prog X.w X.K X.mg X.base k fa sp)(hr:rO n X.A)(c:CG X.K X.mg x C)(i:Mk X.K C fa.f)(T:DG X.K st m qual ps fa)(ha:A3 X (e::es) t)(hn:k+1<=n:=by first|decide|omega)(hg:Gl X x:=by rfl)
  (Xp:zu x:=by decide) (he:A7 X e es:=by rfl) (Xl:CP X pos es:=by rfl):
  E3 X (.Call (.Name x p) (e::es) [] pos) (Q0 C sp t):=O0 c.toCls i F (hr.mono hn) hg c.mg T.b ha Xp he Xl
def pR{pl:Sem Bool}(he:E3 X o ta)(c:Cls X.K C)(T:MG X.K C st m qual ps fa)(F:Fq X.prog X.w X.K X.mg X.base k fa sp)(hr:rO n X.A)(ha:A3 X (e::es) t)(hn:k<=n:=by first|decide|omega)
  (Xu:A7 X e es:=by rfl) (Xl:CP X pos es:=by rfl)
  (ht:eval (.Call (.Attribute o m W8) (e::es) [] pos) X.env=(do
   let ov<-eval o X.env
   standAt W8.atName
   let(f,first)<-holding [ov] (getMethod ov m pl)
   callWith pos f first (backTo pos (starEach (e::es) X.env)) (backToKw pos (keywordEach [] X.env))):=by rfl):
  E3 X (.Call (.Attribute o m W8) (e::es) [] pos) (Aw m (λD s=>D=C/\s=sp) ta t):=
 FJ (R:=λD s=>D=C/\s=sp) he (λD s ⟨e1,e2⟩=>by subst e1 e2;exact⟨c,_,_,_,T.m8,F,T.b⟩) (hr.mono hn) ha Xu Xl ht
def vD{pl:Sem Bool}(he:E3 X o ta)(c:Cls X.K C)(T:MG X.K C st m qual ps fa)(F:Fq X.prog X.w X.K X.mg X.base k fa sp)(hr:rO n X.A)(hn:k<=n:=by first|decide|omega)
  (ht:eval (.Call (.Attribute o m W8) [] [] pos) X.env=(do
   let ov<-eval o X.env
   standAt W8.atName
   let(f,first)<-holding [ov] (getMethod ov m pl)
   callWith pos f first (backTo pos (starEach [] X.env)) (backToKw pos (keywordEach [] X.env))):=by rfl):
  E3 X (.Call (.Attribute o m W8) [] [] pos) (Aw m (λD s=>D=C/\s=sp) ta xu):=
 Co (R:=λD s=>D=C/\s=sp) he (λD s ⟨e1,e2⟩=>by subst e1 e2;exact⟨c,_,_,_,T.m8,F,T.b⟩) (hr.mono hn) ht
def yT{pl:Sem Bool}(cm:Nq X.K C m fa.f)(F:Fq X.prog X.w X.K X.mg X.base k fa sp)(hr:rO n X.A)(c:CG X.K X.mg x C)(T:DG X.K st m qual ps fa)(ha:A3 X (e::es) t)(hn:k<=n:=by first|decide|omega)(hg:Gl X x:=by rfl)
  (Xp:zu x:=by decide) (Xu:A7 X e es:=by rfl) (Xl:CP X pos es:=by rfl)
  (ht:eval (.Call (.Attribute (.Name x p) m W8) (e::es) [] pos) X.env=(do
   let ov<-eval (.Name x p) X.env
   standAt W8.atName
   let(f,first)<-holding [ov] (getMethod ov m pl)
   callWith pos f first (backTo pos (starEach (e::es) X.env)) (backToKw pos (keywordEach [] X.env))):=by rfl):
  E3 X (.Call (.Attribute (.Name x p) m W8) (e::es) [] pos) (DS sp t):=OD cm F (hr.mono hn) hg c.mg T.kp T.b ha Xp Xu Xl ht
variable {h:Heap}{py:Str}{od an:Option Addr}{sl:Array (Option Vl)}{kv dc pm cd ct:Vl}
def Jy{fd:FuncData}{oc:Vl}(l:K.lookup f=some ⟨oc,od,.func fd,sl⟩):W.keepIn K (.ref f)=true:=by unfold W.keepIn;simp only;rw[l]
def P6{fd:FuncData}(l:K.lookup f=some ⟨.type "function",od,.func fd,sl⟩):W.isFn K (.ref f)=true:=by unfold W.isFn W.typeIn;simp only;rw[l];rfl
abbrev mX(py qual:Str)(st:Stmt)(ps:QQQ):Prop:=∀(kV XI pm:Vl) (an:Option Addr) (Xd ct:Vl) (us:T0 Vl),us.length=ps.length->bindArgs (W.fnOf py qual (uo st) (rG st) (pZ st) .none kV XI pm an Xd ct) ⟨us,[]⟩=pure (ps.zip us)
def Q3(l:K.lookup f=some ⟨.type "function",od,.func (W.fnOf py qual (uo st) (rG st) (pZ st) .none kv dc pm an cd ct),sl⟩)(k:W.codeIn K cd qual=true)(hb:mX py qual st ps):
  DG K st py qual ps ⟨f,W.fnOf py qual (uo st) (rG st) (pZ st) .none kv dc pm an cd ct,ps⟩:=⟨rfl,MB l k (Jy l),(MB l k (Jy l)).binds hb,P6 l⟩
def qg(X:K.In h)(G:h.Ns mainGlobals mg)(a:W.nsIn K mainGlobals py=some (some (.ref f)))(l:K.lookup f=some ⟨.type "function",od,.func (W.fnOf py py (uo st) (rG st) (pZ st) .none kv dc pm an cd ct),sl⟩)(k:W.codeIn K cd py=true)(hb:mX py py st ps):
  TG K mg st py ps ⟨f,W.fnOf py py (uo st) (rG st) (pZ st) .none kv dc pm an cd ct,ps⟩:=⟨Q3 l k hb,W.mg_of X G a⟩
def pX(a:W.findIn K (.ref C) py=some (some (.ref f)))(l:K.lookup f=some ⟨.type "function",od,.func (W.fnOf py qual (uo st) (rG st) (pZ st) .none kv dc pm an cd ct),sl⟩)(k:W.codeIn K cd qual=true)(hb:mX py qual st ps):
  MG K C st py qual ps ⟨f,W.fnOf py qual (uo st) (rG st) (pZ st) .none kv dc pm an cd ct,ps⟩:=⟨Q3 l k hb,a⟩
def wg(X:K.In h)(G:h.Ns mainGlobals mg)(a:W.nsIn K mainGlobals py=some (some (.ref C)))(h1:W.plainGet K C Str.empty=true)(h2:W.hasDictIn K C=true)(h3:W.plainOver K C=true)(h4:W.findIn K (.ref C) "__setattr__"=some (some (.builtin "object.__setattr__"))):CG K mg py C:=⟨⟨h1,h2,h3,h4⟩,W.mg_of X G a⟩
def Us(h1:(W.clsIn K C).isSome=true)(h2:W.findIn K (.ref C) "__getattribute__"=some (some (.builtin "BaseException.__getattribute__")))(h3:W.findIn K (.ref C) "__getattr__"=some none)(h4:W.findIn K (.ref C) "__class__"=some (some (.builtin "object.__class__"))) (h5:W.specialIn K (.builtin "object.__class__") "__get__"=some (some (.builtin "getset_descriptor.__get__"))) (h6:W.takesIn K (.builtin "object.__class__")=some true) (h7:W.mroIn K C (.type "object")=some true) (h8:W.mroIn K C (.type "BaseException")=some true):Lb K C:=⟨h1,h2,h3,h4,h5,h6,h7,h8⟩
def OS{x:Str}{a:Addr}{es:T0 DictEntry}{ep:Nat}(h:mg x=some (.ref a))(s:(a==sysModules)=false)(l:K.lookup a=some ⟨.type "dict",none,.dict es.toArray ep,#[]⟩) (r:KTD.Rows (λ(ss:QQQ) v=>∃t,v=Value.ref t/\uU K (λ_=>none) t (ss.map V.str)) es T):NM K mg x T:=⟨a,_,_,_,h,s,l,⟨rfl,rfl,rfl⟩,rfl,by simpa using r⟩
def MZ{x qual y1 y2 fl:Str}{st:Stmt}(F:DG K st x qual [y1,y2] fa)(S:sW [y1,y2] [y1,y2] (pZ st)) (hb:∀(Xd:Vl) (A:Ar) (outer:T0 Env) (s:Sd) (H:Hp) (E:XK),Cn (vc (CB P w) P w K mg base [y1,y2] qual (pZ st) fa.f Xd A outer s H E) (rG st) (Mi K (EW 0) (EW 1) fl)):wZ P w K mg base (CB P w) 1 fa.f fa.d fa.p (vW K fl):=by
 rw[F.pe];exact ME F.fn S hb
def TH(ds:T0 D)(M:Mp)(Q:DK):Prop:=match ds with
 | [.ref a]=>(oR M a).elim False λes=>(GR es).elim False λbs=>Q (.bl (bs.any id)) M
 | _=>False
def RA(hc:X.calm=true):C3 X (.builtin "any") TH:=by
 intro W5 s Y H vs us Q' I rv h;obtain⟨ds,M,Q,hd,hm,q,k⟩:=h;unfold TH at q;split at q
 .rename_i a;obtain⟨v,rfl,hv⟩:=r6 hd;obtain⟨es,e0,q⟩:=qW q;obtain⟨bs,e1,q⟩:=qW q;cases hv.mE;obtain⟨u,rfl,ru⟩:=ye rv;cases ru;obtain⟨xs,h1,h2,_⟩:=qr hm e0;obtain⟨its,r,pl,hz⟩:=I.list h1;have Z8:=EL e1 h2 r;subst Z8;have Xt:a≠s.heap.objs.size:=by obtain⟨o,_,e,_⟩:=pl;exact dC (dq e)
  refine call_any_walk (gT pl.isList ?_);refine⟨s.heap.objs.size,_,_,_,_,_,λi=>(bs[i]?).getD false,rfl,kl (A:=X.A.in1) (I.ok.hd hc) _ a Xt (bs.map Value.bool).toArray,⟨⟨_,dE _ rfl,rfl,rfl⟩,?_⟩,λi v s' Q E hP hQ=>?_,λh' tk hk=>?_⟩
  .obtain⟨o,n,e,c,d,q⟩:=pl;exact⟨o,cY _ e,c,n,q⟩
  .simp only[iL,dz]at hP;cases e2:bs[i]? with
   | none=>rw[e2]at hP;cases hP
   | some b=>rw[e2]at hP;cases hP;have hQ:Q ((bs[i]?).getD false) s':=hQ;rw[e2]at hQ;exact fj hQ
  .have ea:(List.range (bs.map Value.bool).toArray.size).any (λi=>(bs[i]?).getD false)=bs.any id:=by
    rw[dh,cS];rw[gi,gw,gw];constructor
    .rintro ⟨i,hi,z⟩
     have YJ:=gc.mp hi;rw[cV YJ]at z;exact⟨_,hZ YJ,z⟩
    .rintro ⟨b,hb,z⟩
     obtain⟨i,hi,e⟩:=gL hb;refine⟨i,gc.mpr hi,?_⟩;rw[cV hi,e];exact z
   rw[ea];refine⟨.bl (bs.any id),H,?_,rfl,k _ _ _ _ .bl hm .refl q⟩;exact I.kept (h':=h') (t':=tk) λb o e=>hk b o (by simpa using dC (dq e)) (cY _ e)
 .exact q.elim
def SL:bootBuiltins "any"=some (.builtin "any"):=by decide+kernel
end L3
namespace L2
def KL(a C d:Addr)(h:Heap):Prop:=A8 λoe vs=>h.get? a=some oe/\oe.cls=.ref C/\oe.data=.fields vs/\oe.dict=some d
structure P3(K:qh)(C:Addr)(f:Str):Prop where
 ci:Lb K C
 hh:W.hasDictIn K C=true
 tk:W.findIn K (.ref C) f=some none
def LO{h:Heap}{d:Addr}{m:QQZ}{f:Str}{u:Vl}(x:h.Ns1 d m)(e:m f=some u):∃od,h.get? d=some od/\W.lookIn f od=some (some u):=by obtain⟨o,es,ep,e1,e2,_,_,e3⟩:=x;refine⟨o,e1,?_⟩;have e3:=e3 f;rw[e]at e3;unfold nsFind findBy at e3;rw[<-kK]at e3;obtain⟨en,h1,h2⟩:=iE.mp e3;unfold W.lookIn;rw[e2];dsimp only;rw[h1];exact eO (λz=>some (some z)) h2
variable {prog:Pg}{w:Wo}{A:Ar}{E:QQX}{s:Sd}{K:qh}{x C:Addr}{ox od:Obj}{f:Str}{v:Vl}
def Mn{tk:Tok}{Q:PySem.Fin->Sd->Prop}(X:K.In s.heap)(I:W.InstAt s.heap x ox C (some od))(hf:W.findObj K C (some od) f=some (.value v))(h:Q (.done (.ret v)) s):wpAny (model prog w) A (Builtin.«object.__getattribute__» {pos:=[.ref x,.str f tk]}) Q E s:=by have L0:=I.type (M:=model prog w);unfold Builtin.«object.__getattribute__» slotArgs;refine cT ?_;rw[cX (by simp)];dsimp only;rw[cX (by simp)];refine c9 ?_;dsimp only;refine cT ?_;unfold Builtin.ObjectAttr.attrName;refine c9 (cT (L0.at (cT ((W.looks_find X I hf).at ?_))));exact c9 h
def Pw{ZN:Bool}{Q:QQX}(c:P3 K C f)(X:K.In s.heap)(I:W.InstAt s.heap x ox C (some od))(hl:W.lookIn f od=some (some v))(hv:W.handedIn v=true)(h:Q v {s with toks:=s.toks+1}):wpAny (model prog w) A (getAttr (.ref x) f ZN) Q E s:=by have L0:=I.type (M:=model prog w);unfold getAttr getAttrBy;refine cT (wpAny_mkText (eK (cT (L0.at (cT ((ja X c.ci.ga).at ?_))))));dsimp only;rw[cX (by simp)];unfold getAttrByItsOwn;refine cT ?_;unfold hookBefore;rw[cZ (by rfl)];refine(ja X c.ci.gt).at (cT (kx (eK ?_)));unfold callGetattribute;rw[cX (by simp;intro _;rfl)];unfold boundAndCalled;refine cT ?_;rw[j8.ga.bind (.ref x)];refine c9 ?_;refine hJ (hW j8.ga.plain F.entry_bexc_ga (Nt c.ci X I.at_ I.cls ?_));exact Mn X I (W.findObj_own c.hh c.tk rfl hl) (W.handed_on hv h)
variable {X:Cx}{e:Expr}{pos:Pos}{ta:TE}
def Lu:V->Bool
 | .str _=>true
 | .int _=>true
 | .bl _=>true
 | .mG=>true
 | _=>false
def EK{v:V}(r:qC v u)(p:Lu v=true):W.handedIn u=true:=by
 cases v<;>first
  | (cases r;rfl)
  | (obtain⟨t,rfl⟩:=r;rfl)
  | cases p
def LP(K:qh)(ta:TE)(f:Str):TE:=λY H Q=>ta Y H λx H1=>Bg λa C d v=>x=.ref a/\H1 a=some (.ext (KL a C d))/\H1 d=some (.ext (NZ d f v))/\P3 K C f/\Lu v=true/\Q v H1
def OH(he:PE X e ta)(hb:attributeBase e f X.env (eval e X.env)=eval e X.env):PE X (.Attribute e f pos) (LP X.K ta f):=by intro W5 s Y H Q I h;refine IB hb (sf (he W5 s Y H _ I h) λu s1 zz=>?_);obtain⟨x,H1,I1,rx,a,C,d,v,ex,ea,ed,c,p,q⟩:=zz;subst ex;obtain rfl:u=Value.ref a:=rx;obtain⟨⟨oe,vs,e1,e2,e3,e4⟩,_,_⟩:=I1.mM a _ ea;obtain⟨⟨u,n1,r⟩,_,_⟩:=I1.mM d _ ed;obtain⟨od,g1,g2⟩:=LO n1 (cZ rfl);exact Pw (ox:=oe) c I1.nj ⟨e1,e2,by unfold W.notCls;rw[e3],by rw[e4];exact g1⟩ g2 (EK r p) ⟨v,H1,I1.tok _,r,q⟩
def PJ{a C d:Addr}(x:KL a C d h):sJ P w H h a (.ext (KL a C d)):=by refine⟨x,?_,λh1 h2 ⟨oe,vs,e1,e2,e3,e4⟩ k=>⟨oe,vs,k oe e1,e2,e3,e4⟩⟩;obtain⟨oe,_,e,_⟩:=x;exact⟨oe,e⟩
def Ob{st b₀:Stmt}{Yw:T0 Stmt}{cn n:Str}{cnp Yp pos:Pos}{Cc L:Addr}{outer:T0 Env}{i:Nat}{t:FE->St->Hp->(Hp->Prop)->XK->Prop}(hb:WG X st t)(Xu:X.stack=X.env::outer)(hL:X.env.frame=some L)(hg:Gl X cn)(hm:X.mg cn=some (.ref Cc)) (hN:X.N.Nodup) (hi:X.N[i]?=some n) (hk:X.env.scope.names.lookup n=some .local) (hs:∀ev E',Cn (X.marked ev E') (b₀::Yw) th) (Xp:zu cn:=by decide):
  PS X (.Try [st] [.ExceptHandler (some (.Name cn cnp)) (some n) (b₀::Yw) Yp] [] [] pos) (λD Y H=>∃(J:Hp->Prop) (E:XK),t D Y H J E/\∀C dx H1 H',J H1->TKept H1 H'->E (.ref C) dx H'->∃d,dx=some d/\W.exmOne X.K (.ref C) (.ref Cc)=some true/\
   ∀a,H' a=none->th {nx:=λσ' H2=>D.nx (σ'.set i none) H2,rt:=D.rt,bk:=λσ' H2=>D.bk (σ'.set i none) H2,ct:=λσ' H2=>D.ct (σ'.set i none) H2} (Y.set i (some (.ref a))) (upd H' a (.ext (KL a C d)))):=by
 intro W5 s Y H D I ⟨J,E,h,hh⟩;refine wpAny_Try_except (dZ (Q:=λf s'=>SP X W5 D f s') (jz (sf (hb W5 s Y H D J E I h) λf s1 q=>?_)) (λf s1 q=>?_) λev s1 x=>?_)
 .cases f with
  | next=>exact gM q
  | brk=>exact q
  | cont=>exact q
  | ret v=>exact q
 .cases f with
  | next=>exact gM q
  | brk=>exact q
  | cont=>exact q
  | ret v=>exact q
 .refine dZ (S6 x Xu hL) (λ_ s2 y=>sf y λ_ s3 z=>?_) λ_ _ z=>z;obtain⟨a,C,dx,H',tb,H1,s1,rfl,q,I3,x3,na,nt,jH,tk,I1,n1⟩:=z;obtain⟨d,rfl,W7,h1⟩:=hh C dx H1 H' jH tk q;refine wpAny_handleBy_cons (codeAny_handlers_test (wD (X:=X.marked (.ref a) λ_ _=>False) I3.mark hg hm ?_ Xp)) (by intro z;cases z);obtain⟨oe,vs,ho,hc,YY,hd,_⟩:=id x3;refine W.exm_one I3.nj (BM ho) (by rw[hc];exact W7) _ _ _ _ (λ_ _ z=>z) ?_;refine codeAny_handlers_suite_as (Hf x3 λh' hh'=>?_);have I4:Inv X W5 Y H' {s3 with heap:=h'}:=I3.kept (t':=s3.toks) λb u z=>by rw[hh' b];exact z
  have I5:Inv X W5 Y (upd H' a (.ext (KL a C d))) {s3 with heap:=h'}:=I4.adopt I1 n1 na (PJ ⟨oe,vs,by show h'.get? a=_;rw[hh' a];exact ho,hc,hd,YY⟩);refine zx (v:=.ref a) I5 hN hi (.inl hk) rfl (λs6 I6=>?_) (.inr hk);refine dZ (hs (.ref a) _ W5 _ _ _ _ I6.mark (h1 a na)) (λf s7 q7=>?_) λ_ _ z=>z;have q7:=SP.unmark I.ok q7;cases f with
  | next=>obtain⟨σ',H2,I7,q⟩:=q7;exact xT I7 hN hi hk λs8 I8=>⟨_,H2,I8,q⟩
  | brk=>obtain⟨σ',H2,I7,q⟩:=q7;exact xT I7 hN hi hk λs8 I8=>⟨_,H2,I8,q⟩
  | cont=>obtain⟨σ',H2,I7,q⟩:=q7;exact xT I7 hN hi hk λs8 I8=>⟨_,H2,I8,q⟩
  | ret v=>obtain⟨y,σ',H2,I7,r,q⟩:=q7;exact xT I7 hN hi hk λs8 I8=>⟨y,_,H2,I8,r,q⟩
end L2
namespace L3
open L2
variable {X:Cx}{cn n x:Str}{e:Expr}{cnp Yp pos W8 xpos p1 p2 p3 p4:Pos}{Cc L:Addr}{outer:T0 Env}{i ix:Nat}{te:Rk}{fl:Str}
end L3
namespace L2
variable {prog:Pg}{w:Wo}{A:Ar}{E:QQX}{s:Sd}
end L2
namespace L3
open L2
variable {X:Cx}{pos:Pos}{cn n x:Str}{e:Expr}{cnp Yp W8 p1 p2 p3 p4:Pos}{Cc L:Addr}{outer:T0 Env}{i ix:Nat}{te:Rk}{fl:Str}
def U4(K:qh)(ix i:Nat)(Cc:Addr)(fl:Str)(te:Rk):xG:=λD U M=>∃R,te U M (λ_ M1=>D.nx U M1) R/\∀C y M',R C y M'->W.exmOne K (.ref C) (.ref Cc)=some true/\P3 K C fl/\∃z,y=some (fl,.str z)/\D.nx ((U.set ix (some (.str z))).set i none) M'
def Ql(he:Wx X e te)(Xu:X.stack=X.env::outer)(hL:X.env.frame=some L)(hg:Gl X cn)(hm:X.mg cn=some (.ref Cc))(hN:X.N.Nodup)(ZY:X.N[ix]?=some x)(hx:X.env.scope.names.lookup x=some .local)(hi:X.N[i]?=some n)(hk:X.env.scope.names.lookup n=some .local)(Xt:ix≠i) (hd:zu n:=by decide) (X8:(n==("__classdict__":Str))=false:=by decide) (hab:attributeBase (.Name n p2) fl X.env (eval (.Name n p2) X.env)=eval (.Name n p2) X.env:=by rfl) (hsw2:swapsWith (.Attribute (.Name n p2) fl p3) (some (.Name x p1)) p4.line X.env=pure false:=by rfl)
  (Xp:zu cn:=by decide) (YC:swapsWith e none W8.line X.env=pure false:=by rfl):
  S3 X (.Try [.Expr e W8] [.ExceptHandler (some (.Name cn cnp)) (some n) [.Assign [.Name x p1] (.Attribute (.Name n p2) fl p3) p4] Yp] [] [] pos) (U4 X.K ix i Cc fl te):=
 PS.nJ (Ob (th:=Pm (LP X.K (EW i) fl) (Je ix)) (MM he YC) Xu hL hg hm hN hi hk (λev E'=>Ep (M9 (X:=X.marked ev E') (te:=LP X.K (EW i) fl) hN ZY (.inl hx) (OH (X:=X.marked ev E') (MI (X:=X.marked ev E') hi (.inl hk) hd X8) hab) hsw2 (.inr hx))) Xp) λD' Y H hl ⟨U,M,D,hs,hm,⟨R,ht,hh⟩,k1,k2,k3,k4⟩=>by
  refine⟨λH1=>qI X.K H H1,λcv d H'=>∃C M' y,cv=.ref C/\HM X.K H' M'/\T4 X.K H' d y/\R C y M',⟨U,M,_,R,hs,hm,ht,λv H1 d M1 hd W7 e1 q1=>?_,λ_ z=>z,λC dx H' M' y h1 h0 h2=>⟨C,M',y,rfl,h1,h0,h2⟩⟩,λC dx H1 H' jH tk ⟨C',M',y,ec,YD,YY,r⟩=>?_⟩
  .exact k1 _ H1 _ M1 (hs.mono e1) W7 e1 rfl q1
  .cases ec;obtain⟨r1,c,z,ey,q⟩:=hh C y M' r;rcases YY with⟨_,z⟩|⟨d,f,z',v,ed,ez,hd,hv⟩
   .rw[ey]at z;cases z
   .rw[ey]at ez;cases ez;have hiσ:i<Y.length:=by rw[hl];exact(cU.mp hi).1
    refine⟨d,ed,r1,λa na=>⟨.ref a,by rw[eJ hiσ],a,C,d,v,rfl,qa,?_,c,?_,?_⟩⟩
    .rw[pQ]
     .exact hd
     .intro z;rw[z,na]at hd;cases hd
    .rw[hv.str_inv];rfl
    .have e1:qI X.K H H':=jH.trans (L2.TKept.ext tk);have e2:qI X.K H' (upd H' a (.ext (KL a C d))):=.new na;have s1:=(hs.mono (e1.trans e2)).set (i:=ix) (hv.mono e2) (by rw[hl];exact(cU.mp ZY).1);have s2:=s1.unset (i:=i);refine k1 _ _ _ M' ?_ (YD.add na) (e1.trans e2) (by simp) q;rw[List.set_comm _ _ Xt.symm,iR];exact s2
end L3
namespace L3
open L2
def MW(i:Nat){X:Cx}{pos:Pos}{x:Str}(h1:X.N[i]?=some x:=by rfl)(h2:Rj X.env.scope x:=by first|exact Or.inl rfl|exact Or.inr (Or.inl rfl)|exact Or.inr (Or.inr rfl))(h3:zu x:=by decide)(h4:(x==("__classdict__":Str))=false:=by decide):E3 X (.Name x pos) (v3 i):=SD i (pv i h1 h2 h3 h4)
variable {X:Cx}{pos:Pos}
def WS{N:QQQ}(h:decide N.Nodup=true):N.Nodup:=fO h
def pH(i:Nat){x:Str}{e:Expr}{te:T3}{Xh:Pos}{ps:QQQ}{sc:Scope}(S:sW X.N ps sc)(he:E3 X e te)(hi:X.N[i]?=some x:=by rfl)(hx:LR X.env.scope x:=by first|exact Or.inl rfl|exact Or.inr rfl)(YC:swapsWith e (some (.Name x Xh)) pos.line X.env=pure false:=by rfl)(hf:Ln X x:=by first|exact .inl rfl|exact .inr rfl|assumption):S3 X (.Assign [.Name x Xh] e pos) (Cz te (uw i)):=Td S.nd hi hx he YC hf
def sH(i:Nat){x:Str}{ps:QQQ}{sc:Scope}(S:sW X.N ps sc)(hi:X.N[i]?=some x:=by rfl)(hx:LR X.env.scope x:=by first|exact Or.inl rfl|exact Or.inr rfl)(hf:Ln X x:=by first|exact .inl rfl|exact .inr rfl|assumption):G3 X (.Name x pos) (uw i):=Ju S.nd hi hx hf
def qz(i:Nat){x:Str}(hN:decide X.N.Nodup=true:=by kernel_rfl)(hi:X.N[i]?=some x:=by rfl)(hx:LR X.env.scope x:=by first|exact Or.inl rfl|exact Or.inr rfl)(hf:Ln X x:=by first|exact .inl rfl|exact .inr rfl|assumption):G3 X (.Name x pos) (uw i):=Ju (WS hN) hi hx hf
abbrev Sc(n:Nat)(N:QQQ)(s:Stmt):=sW N (N.take n) (pZ s)
def sk{n:Nat}{s:Stmt}(h:Rx N (N.take n) (pZ s)=true:=by decide+kernel):Sc n N s:=WR h
def qb(h0:E3 X e0 t0)(g0:starEach [e0] X.env=(false,eval e0 X.env)::starEach [] X.env:=by rfl):A3 X [e0] (vi t0 xu):=(pW h0 sV g0)
def rN(h0:E3 X e0 t0)(h1:E3 X e1 t1)(g0:starEach [e0,e1] X.env=(false,eval e0 X.env)::starEach [e1] X.env:=by rfl)(g1:starEach [e1] X.env=(false,eval e1 X.env)::starEach [] X.env:=by rfl):A3 X [e0,e1] (vi t0 (vi t1 xu)):=(pW h0 (pW h1 sV g1) g0)
def qX(h0:E3 X e0 t0)(h1:E3 X e1 t1)(h2:E3 X e2 t2)(g0:starEach [e0,e1,e2] X.env=(false,eval e0 X.env)::starEach [e1,e2] X.env:=by rfl)(g1:starEach [e1,e2] X.env=(false,eval e1 X.env)::starEach [e2] X.env:=by rfl)(g2:starEach [e2] X.env=(false,eval e2 X.env)::starEach [] X.env:=by rfl):A3 X [e0,e1,e2] (vi t0 (vi t1 (vi t2 xu))):=(pW h0 (pW h1 (pW h2 sV g2) g1) g0)
abbrev v0:=@MW 0
abbrev U1:=@MW 1
abbrev U2:=@MW 2
abbrev U3:=@MW 3
abbrev v5:=@MW 5
abbrev v4:=@MW 4
abbrev v6:=@MW 6
abbrev v7:=@MW 7
abbrev v8:=@MW 8
abbrev v9:=@MW 9
abbrev WW:=@MW 10
variable {P:Pg}{w:Wo}{K:qh}{mg:QQZ}{base:Heap}
def fq{st:Stmt}{sp:qY}(F:DG K st x qual ps fa)(S:sW N ps (pZ st)) (hb:∀{Xd:Vl} {A:Ar} {outer:T0 Env} {s:Sd} {H:Hp} {E:XK},rO k (A.deeper (envOfC qual (pZ st) s.heap.objs.size fa.f Xd))->(A.deeper (envOfC qual (pZ st) s.heap.objs.size fa.f Xd)).units+9<cLine->
   ∃t,HC (vc NW P w K mg base N qual (pZ st) fa.f Xd A outer s H E).om (rG st) t/\∀ds M Q,sp ds M Q->t {nx:=λ_ M'=>∃W9,qp W9 M'/\Q .mG W9,rt:=λd M'=>∃W9,qp W9 M'/\Q d W9} (wI N ds) M) (len:∀ds M Q,sp ds M Q->ds.length=ps.length:=by walk_at "l"):Fq P w K mg base (k+1) fa sp:=VA F S len λ_ _ _ _ _ _ h=>hb h (WH h)
def yg{X:Cx}(h:Hw X.env.scope X.N scope ix N'=true:=by kernel_rfl):rW X scope ix N':=TB h
end L3
namespace Z
open L2 L3
def qU(i:Nat):Stmt:=PySem.Challenge.pw_callboard_k53_whole_goes_on_alike.main.body.getD i (.Pass ⟨0,0,0,0⟩)
abbrev tm(i j:Nat):Stmt:=OX (qU i) j
def zN:Sc 1 ["answers"] (qU 1):=sk
def Gh:Sc 2 ["call","word"] (qU 3):=sk
def Dc:Sc 2 ["call","phone"] (qU 4):=sk
def xA:Sc 2 ["call","event","word"] (qU 5):=sk
def wR:Sc 1 ["call","lists"] (qU 7):=sk
def BG:Sc 1 ["board","calls"] (qU 8):=sk
def xJ:Sc 3 ["plan","hour","log","board","event"] (qU 10):=sk
def Cu:Sc 3 ["board","caller","target","wishes"] (qU 16):=sk
def tq:Sc 3 ["board","caller","target","free","members","place","in_turn"] (qU 17):=sk
def uP:Sc 3 ["board","caller","target","phones"] (qU 18):=sk
def zQ:Sc 2 ["wanted","target"] (qU 19):=sk
def wb:Sc 4 ["board","caller","target","way","come_to","steps","fits","wanted"] (qU 20):=sk
def yF:Sc 2 ["board","phone"] (qU 22):=sk
def we:Sc 3 ["board","phone","target","word"] (qU 23):=sk
def Ld:Sc 3 ["word","phone","calls"] (qU 24):=sk
def tP:Sc 4 ["board","word","phone","numbers","calls","due"] (qU 25):=sk
def yx:Sc 3 ["board","word","number"] (qU 26):=sk
def Br:Sc 2 ["board","deed","word"] (qU 27):=sk
def tV:Sc 3 ["board","number","steps","last","target","fits"] (qU 28):=sk
def uA:Sc 4 ["board","number","target","phones","members","place"] (qU 29):=sk
def xp:Sc 3 ["board","number","target","talk","members"] (qU 30):=sk
def xm:Sc 3 ["board","number","end","word"] (qU 31):=sk
def vY:Sc 2 ["board","number","call","told","end","steps","last"] (qU 32):=sk
def ze:Sc 3 ["board","phone","target","number"] (qU 33):=sk
def By:Sc 3 ["board","phone","number","call"] (qU 34):=sk
def yj:Sc 2 ["board","call","wishes"] (qU 35):=sk
def CF:Sc 3 ["board","number","fits","wish"] (qU 36):=sk
def tJ:Sc 1 ["board","number","call","fits"] (qU 37):=sk
def tz:Sc 2 ["board","deed","word","phone","number","call","kept","others"] (qU 38):=sk
def LL:Sc 2 ["board","deed","word"] (qU 39):=sk
def HL:Sc 2 ["board","deed","word","begun"] (qU 40):=sk
def Ir:Sc 3 ["board","caller","target"] (qU 42):=sk
def Cw:Sc 1 ["told","word"] (qU 53):=sk
def QA:Sc 2 ["holds","words"] (qU 68):=sk
def H9:Sc 1 ["text"] (qU 69):=sk
def C4:Sc 1 ["things"] (qU 70):=sk
def Ft:Sc 3 ["chosen","known","most"] (qU 71):=sk
def tY:Sc 1 ["phones","name","lines","rank"] (qU 72):=sk
def tX:Sc 2 ["groups","phone_names","name","manner","members"] (qU 73):=sk
def CV:Sc 4 ["kind","part","phone_names","names"] (qU 74):=sk
def tU:Sc 3 ["wish","phone_names","names","form","parts","kind","part"] (qU 75):=sk
def uI:Sc 3 ["wishes","phone_names","names","on","wish"] (qU 76):=sk
def vK:Sc 3 ["phones","groups","wishes","phone_names","names"] (qU 77):=sk
def Kp:Sc 2 ["_law_script","_law_k"] (qU 80):=sk
def G8:Sc 3 ["_law_cell","_law_factor","_law_many"] (qU 81):=sk
def ub:Sc 2 ["_law_seed","_law_which","_law_letters","_law_size","_law_place","_law_rest","_law_sign"] (qU 82):=sk
def xI:Sc 3 ["_law_row","_law_cell","_law_most","_law_first","_law_size"] (qU 83):=sk
def uE:Sc 2 ["_law_seed","_law_most","_law_phones_here","_law_k","_law_lines"] (qU 84):=sk
def uC:Sc 2 ["_law_seed","_law_own","_law_groups_here","_law_g","_law_manner"] (qU 85):=sk
def tj:Sc 3 ["_law_cell","_law_own","_law_names","_law_a","_law_place","_law_b","_law_c","_law_pick","_law_first"] (qU 86):=sk
def rY:Sc 2 ["_law_script","_law_most","_law_seed","_law_phones_here","_law_own","_law_groups_here","_law_names","_law_wishes","_law_k","_law_cell"] (qU 87):=sk
def C9:Sc 1 ["_law_call"] (qU 88):=sk
def AX:Sc 2 ["_law_board","_law_states"] (qU 89):=sk
def rq:Sc 4 ["_law_board","_law_cell","_law_word_here","_law_states","_law_some_here","_law_k","_law_people_here","_law_a","_law_m"] (qU 90):=sk
def ux:Sc 4 ["_law_cell","_law_own","_law_names","_law_many","_law_a","_law_b","_law_k","_law_m","_law_some_here"] (qU 91):=sk
def rn:Sc 4 ["_law_board","_law_cell","_law_own","_law_names","_law_word_here","_law_states","_law_found","_law_a"] (qU 92):=sk
def Ge:Sc 1 ["_law_parts"] (qU 93):=sk
def Gk:Sc 1 ["_law_script"] (qU 94):=sk
def GE:Sc 3 ["_law_board","_law_script","_law_k"] (qU 96):=sk
def vd:Sc 2 ["_law_board","_law_deed_here","_law_word_here","error"] (qU 98):=sk
def uN:Sc 1 ["_law_script","_law_parts","_law_hour_here","_law_board","_law_many","_law_cut","_law_other","_law_k","_law_deed_here","_law_size","_law_word_here"] (qU 99):=sk
def CO:Sc 2 ["self","word"] (tm 14 0):=sk
def Ds:Sc 3 ["self","plan","hour"] (tm 6 0):=sk
def ER:Sc 4 ["self","phones","groups","wishes"] (tm 78 0):=sk
def xf:Sc 2 ["self","event","word"] (tm 6 12):=sk
def yb:Sc 1 ["self"] (tm 78 2):=sk
def Di:Sc 1 ["self"] (tm 78 1):=sk
def E6:Sc 2 ["self","caller"] (tm 2 0):=sk
def zW:Sc 2 ["self","leg"] (tm 6 10):=sk
def xo:Sc 4 ["self","merged","kept","members","call"] (tm 6 11):=sk
def ve:Sc 1 ["self","call"] (tm 6 9):=sk
def GA:Sc 2 ["self","told"] (tm 44 0):=sk
def Fe:Sc 2 ["self","told"] (tm 45 0):=sk
def AM:Sc 2 ["self","told"] (tm 46 0):=sk
def C0:Sc 2 ["self","told"] (tm 48 0):=sk
def B6:Sc 2 ["self","told"] (tm 50 0):=sk
def Es:Sc 2 ["self","told"] (tm 51 0):=sk
def Cr:Sc 2 ["self","told"] (tm 52 0):=sk
def Aj:Sc 2 ["self","phone"] (tm 6 3):=sk
def Em:Sc 2 ["self","told"] (tm 43 0):=sk
def yS:Sc 2 ["self","phone"] (tm 2 2):=sk
def Ak:Sc 2 ["self","phone"] (tm 6 2):=sk
def yB:Sc 2 ["self","phone"] (tm 2 5):=sk
def ya:Sc 2 ["self","phone"] (tm 2 4):=sk
def yu:Sc 2 ["self","phone"] (tm 2 8):=sk
def Bw:Sc 2 ["self","phone"] (tm 6 4):=sk
def zK:Sc 2 ["self","phone"] (tm 6 5):=sk
def Dn:Sc 2 ["self","phone"] (tm 6 1):=sk
def Dj:Sc 2 ["self","phone"] (tm 78 3):=sk
def wC:Sc 2 ["self","phone"] (tm 2 7):=sk
def Df:Sc 2 ["self","phone"] (tm 2 6):=sk
def BU:Sc 2 ["self","call"] (tm 43 4):=sk
def zP:Sc 2 ["self","call"] (tm 50 2):=sk
def Eo:Sc 1 ["self"] (tm 43 1):=sk
def Dk:Sc 2 ["self","phone"] (tm 2 3):=sk
def Gx:Sc 2 ["self","phone"] (tm 2 1):=sk
def Er:Sc 1 ["self"] (tm 44 1):=sk
def Du:Sc 1 ["self"] (tm 45 1):=sk
def zX:Sc 1 ["self"] (tm 46 1):=sk
def CS:Sc 1 ["self"] (tm 51 1):=sk
def AL:Sc 1 ["self"] (tm 52 1):=sk
def Gc:Sc 4 ["self","board","caller","target"] (tm 44 2):=sk
def Et:Sc 4 ["self","board","caller","target"] (tm 45 2):=sk
def BK:Sc 4 ["self","board","caller","target"] (tm 47 0):=sk
def CZ:Sc 4 ["self","board","caller","target"] (tm 48 2):=sk
def Eb:Sc 4 ["self","board","caller","target"] (tm 49 0):=sk
def Bu:Sc 4 ["self","board","caller","target"] (tm 50 1):=sk
def FS:Sc 4 ["self","board","caller","target"] (tm 51 2):=sk
def vf:Sc 4 ["self","board","caller","target","talk","members"] (tm 52 3):=sk
def CM:Sc 2 ["self","name"] (tm 78 6):=sk
def zF:Sc 2 ["self","name"] (tm 78 5):=sk
def zD:Sc 2 ["self","hour"] (tm 48 1):=sk
def yX:Sc 1 ["self"] (tm 6 8):=sk
def zA:Sc 2 ["self","phone"] (tm 6 6):=sk
def vg:Sc 3 ["self","plan","members","rank"] (tm 52 2):=sk
def zw:Sc 3 ["self","caller","target"] (tm 6 7):=sk
def ET:Sc 2 ["self","phone"] (tm 78 4):=sk
noncomputable def JW:T0 (Str×QQQ):=[("bar",["phone","names"]),("shut",["name","phones"]),("always",["name","name"]),("night",["name","name","hour","hour"]),("busy",["name","name"]),("silent",["name","name","turns"]),("wait",["phone"]),("breaks",["phone"])]
set_option genInjectivity false in
structure Ad where
 (M ab aR aS aT ac aU aV aW aX aY aZ ad a0 a1 a2 a3 a4 a5 a6 a7 a8 ae a9 ba bb bc bd be bf N O bg m af ag P bh bi bj bk bl bm I i ah Q bn bo bp bq br bs bt bu bv ai bw bx aj ak J R al k L am an bz bA bB ao ap B aq ar au av S F T U aw V ax bC bD bE bF bG ay q az l bH bI aA aB A aC aD aE aF aG aH aI aJ aK aL aM X bJ bK bL bM aN aO:FA)
 (e c C t u Y x n y v w o h b3 H:Addr)
structure Gl(K:qh)(mg:QQZ)(a:Ad):Prop where
 e:CG K mg "Call" a.e
 c:CG K mg "Board" a.c
 C:CG K mg "Wish" a.C
 t:CG K mg "Bar" a.t
 u:CG K mg "Shut" a.u
 Y:CG K mg "Forward" a.Y
 x:CG K mg "Always" a.x
 n:CG K mg "Night" a.n
 y:CG K mg "Busy" a.y
 v:CG K mg "Silent" a.v
 w:CG K mg "Wait" a.w
 o:CG K mg "Breaks" a.o
 h:CG K mg "Plan" a.h
 cR:mg "CallError"=some (.ref a.b3)
 bV:mg "NoDeed"=some (.ref a.H)
 M:TG K mg (qU 1) "place_of_true" ["answers"] a.M
 ab:TG K mg (qU 3) "end_call" ["call","word"] a.ab
 aR:TG K mg (qU 4) "drop_phone" ["call","phone"] a.aR
 aS:TG K mg (qU 5) "change_call" ["call","event"] a.aS
 aT:TG K mg (qU 7) "call_picture" ["call"] a.aT
 ac:TG K mg (qU 8) "picture" ["board"] a.ac
 aU:TG K mg (qU 10) "replayed" ["plan","hour","log"] a.aU
 aV:TG K mg (qU 16) "fitting" ["board","caller","target"] a.aV
 aW:TG K mg (qU 17) "rung_phones" ["board","caller","target"] a.aW
 aX:TG K mg (qU 18) "end_without_wish" ["board","caller","target"] a.aX
 aY:TG K mg (qU 19) "end_as_wanted" ["wanted","target"] a.aY
 aZ:TG K mg (qU 20) "route" ["board","caller","target","way"] a.aZ
 ad:TG K mg (qU 22) "word_for_idling" ["board","phone"] a.ad
 a0:TG K mg (qU 23) "word_for_call" ["board","phone","target"] a.a0
 a1:TG K mg (qU 24) "suits" ["word","phone","calls"] a.a1
 a2:TG K mg (qU 25) "word_for_numbers" ["board","word","phone","numbers"] a.a2
 a3:TG K mg (qU 26) "word_for_switch" ["board","word","number"] a.a3
 a4:TG K mg (qU 27) "refusal" ["board","deed"] a.a4
 a5:TG K mg (qU 28) "take_steps" ["board","number","steps"] a.a5
 a6:TG K mg (qU 29) "start_ringing" ["board","number","target","phones"] a.a6
 a7:TG K mg (qU 30) "break_in" ["board","number","target"] a.a7
 a8:TG K mg (qU 31) "come_to_end" ["board","number","end"] a.a8
 ae:TG K mg (qU 32) "go_on" ["board","number"] a.ae
 a9:TG K mg (qU 33) "make_call" ["board","phone","target"] a.a9
 ba:TG K mg (qU 34) "hang_up" ["board","phone","number"] a.ba
 bb:TG K mg (qU 35) "due_wishes" ["board","call"] a.bb
 bc:TG K mg (qU 36) "send_on" ["board","number","fits"] a.bc
 bd:TG K mg (qU 37) "let_turn_pass" ["board"] a.bd
 be:TG K mg (qU 38) "event_of" ["board","deed"] a.be
 bf:TG K mg (qU 39) "act" ["board","deed"] a.bf
 N:TG K mg (qU 40) "do" ["board","deed"] a.N
 O:TG K mg (qU 42) "is_busy" ["board","caller","target"] a.O
 bg:TG K mg (qU 53) "wish_of" ["told"] a.bg
 m:TG K mg (qU 68) "need" ["holds","words"] a.m
 af:TG K mg (qU 69) "is_name" ["text"] a.af
 ag:TG K mg (qU 70) "all_unlike" ["things"] a.ag
 P:TG K mg (qU 71) "is_choice" ["chosen","known","most"] a.P
 bh:TG K mg (qU 72) "check_phones" ["phones"] a.bh
 bi:TG K mg (qU 73) "check_groups" ["groups","phone_names"] a.bi
 bj:TG K mg (qU 74) "part_holds" ["kind","part","phone_names","names"] a.bj
 bk:TG K mg (qU 75) "check_wish" ["wish","phone_names","names"] a.bk
 bl:TG K mg (qU 76) "check_wishes" ["wishes","phone_names","names"] a.bl
 bm:TG K mg (qU 77) "check_plan" ["phones","groups","wishes"] a.bm
 I:TG K mg (qU 80) "_law_at" ["_law_script","_law_k"] a.I
 i:TG K mg (qU 81) "_law_draw" ["_law_cell","_law_factor","_law_many"] a.i
 ah:TG K mg (qU 82) "_law_word" ["_law_seed","_law_which"] a.ah
 Q:TG K mg (qU 83) "_law_some" ["_law_row","_law_cell","_law_most"] a.Q
 bn:TG K mg (qU 84) "_law_phones" ["_law_seed","_law_most"] a.bn
 bo:TG K mg (qU 85) "_law_groups" ["_law_seed","_law_own"] a.bo
 bp:TG K mg (qU 86) "_law_wish" ["_law_cell","_law_own","_law_names"] a.bp
 bq:TG K mg (qU 87) "_law_plan" ["_law_script","_law_most"] a.bq
 br:TG K mg (qU 88) "_law_people" ["_law_call"] a.br
 bs:TG K mg (qU 89) "_law_of_state" ["_law_board","_law_states"] a.bs
 bt:TG K mg (qU 90) "_law_on_call" ["_law_board","_law_cell","_law_word_here","_law_states"] a.bt
 bu:TG K mg (qU 91) "_law_any" ["_law_cell","_law_own","_law_names","_law_many"] a.bu
 bv:TG K mg (qU 92) "_law_deed" ["_law_board","_law_cell","_law_own","_law_names"] a.bv
 ai:TG K mg (qU 93) "_law_made" ["_law_parts"] a.ai
 bw:TG K mg (qU 94) "_law_hour" ["_law_script"] a.bw
 bx:TG K mg (qU 96) "_law_next" ["_law_board","_law_script","_law_k"] a.bx
 aj:TG K mg (qU 98) "_law_word_of" ["_law_board","_law_deed_here"] a.aj
 ak:TG K mg (qU 99) "law" ["_law_script"] a.ak
 J:MG K a.H (tm 14 0) "__init__" "NoDeed.__init__" ["self","word"] a.J
 R:MG K a.c (tm 6 0) "__init__" "Board.__init__" ["self","plan","hour"] a.R
 al:MG K a.h (tm 78 0) "__init__" "Plan.__init__" ["self","phones","groups","wishes"] a.al
 k:MG K a.c (tm 6 12) "apply" "Board.apply" ["self","event"] a.k
 L:MG K a.h (tm 78 2) "phone_names" "Plan.phone_names" ["self"] a.L
 am:MG K a.h (tm 78 1) "names" "Plan.names" ["self"] a.am
 an:MG K a.e (tm 2 0) "__init__" "Call.__init__" ["self","caller"] a.an
 bz:MG K a.c (tm 6 10) "add_leg" "Board.add_leg" ["self","leg"] a.bz
 bA:MG K a.c (tm 6 11) "merge" "Board.merge" ["self","merged","kept","members"] a.bA
 bB:MG K a.c (tm 6 9) "pass_turn" "Board.pass_turn" ["self"] a.bB
 ao:MG K a.t (tm 44 0) "__init__" "Bar.__init__" ["self","told"] a.ao
 ap:MG K a.u (tm 45 0) "__init__" "Shut.__init__" ["self","told"] a.ap
 B:MG K a.Y (tm 46 0) "__init__" "Forward.__init__" ["self","told"] a.B
 aq:MG K a.n (tm 48 0) "__init__" "Night.__init__" ["self","told"] a.aq
 ar:MG K a.v (tm 50 0) "__init__" "Silent.__init__" ["self","told"] a.ar
 au:MG K a.w (tm 51 0) "__init__" "Wait.__init__" ["self","told"] a.au
 av:MG K a.o (tm 52 0) "__init__" "Breaks.__init__" ["self","told"] a.av
 S:MG K a.c (tm 6 3) "talk_of" "Board.talk_of" ["self","phone"] a.S
 F:MG K a.C (tm 43 0) "__init__" "Wish.__init__" ["self","told"] a.F
 T:MG K a.e (tm 2 2) "talks_with" "Call.talks_with" ["self","phone"] a.T
 U:MG K a.c (tm 6 2) "is_free" "Board.is_free" ["self","phone"] a.U
 aw:MG K a.e (tm 2 5) "waits_with" "Call.waits_with" ["self","phone"] a.aw
 V:MG K a.e (tm 2 4) "is_tried_by" "Call.is_tried_by" ["self","phone"] a.V
 ax:MG K a.e (tm 2 8) "other_than" "Call.other_than" ["self","phone"] a.ax
 bC:MG K a.c (tm 6 4) "bound" "Board.bound" ["self","phone"] a.bC
 bD:MG K a.c (tm 6 5) "calling" "Board.calling" ["self","phone"] a.bD
 bE:MG K a.c (tm 6 1) "used" "Board.used" ["self","phone"] a.bE
 bF:MG K a.h (tm 78 3) "lines" "Plan.lines" ["self","phone"] a.bF
 bG:MG K a.e (tm 2 7) "can_be_left_by" "Call.can_be_left_by" ["self","phone"] a.bG
 ay:MG K a.e (tm 2 6) "pairs" "Call.pairs" ["self","phone"] a.ay
 q:MG K a.C (tm 43 4) "is_due" "Wish.is_due" ["self","call"] a.q
 az:MG K a.v (tm 50 2) "is_due" "Silent.is_due" ["self","call"] a.az
 l:MG K a.C (tm 43 1) "told" "Wish.told" ["self"] a.l
 bH:MG K a.e (tm 2 3) "binds" "Call.binds" ["self","phone"] a.bH
 bI:MG K a.e (tm 2 1) "has" "Call.has" ["self","phone"] a.bI
 aA:MG K a.t (tm 44 1) "wants" "Bar.wants" ["self"] a.aA
 aB:MG K a.u (tm 45 1) "wants" "Shut.wants" ["self"] a.aB
 A:MG K a.Y (tm 46 1) "wants" "Forward.wants" ["self"] a.A
 aC:MG K a.w (tm 51 1) "wants" "Wait.wants" ["self"] a.aC
 aD:MG K a.o (tm 52 1) "wants" "Breaks.wants" ["self"] a.aD
 aE:MG K a.t (tm 44 2) "fits" "Bar.fits" ["self","board","caller","target"] a.aE
 aF:MG K a.u (tm 45 2) "fits" "Shut.fits" ["self","board","caller","target"] a.aF
 aG:MG K a.x (tm 47 0) "fits" "Always.fits" ["self","board","caller","target"] a.aG
 aH:MG K a.n (tm 48 2) "fits" "Night.fits" ["self","board","caller","target"] a.aH
 aI:MG K a.y (tm 49 0) "fits" "Busy.fits" ["self","board","caller","target"] a.aI
 aJ:MG K a.v (tm 50 1) "fits" "Silent.fits" ["self","board","caller","target"] a.aJ
 aK:MG K a.w (tm 51 2) "fits" "Wait.fits" ["self","board","caller","target"] a.aK
 aL:MG K a.o (tm 52 3) "fits" "Breaks.fits" ["self","board","caller","target"] a.aL
 aM:MG K a.h (tm 78 6) "manner" "Plan.manner" ["self","name"] a.aM
 X:MG K a.h (tm 78 5) "phones_of" "Plan.phones_of" ["self","name"] a.X
 bJ:MG K a.n (tm 48 1) "has_hour" "Night.has_hour" ["self","hour"] a.bJ
 bK:MG K a.c (tm 6 8) "hour_now" "Board.hour_now" ["self"] a.bK
 bL:MG K a.c (tm 6 6) "waits_at" "Board.waits_at" ["self","phone"] a.bL
 bM:MG K a.o (tm 52 2) "outranks" "Breaks.outranks" ["self","plan","members"] a.bM
 aN:MG K a.c (tm 6 7) "ringable" "Board.ringable" ["self","caller","target"] a.aN
 aO:MG K a.h (tm 78 4) "rank" "Plan.rank" ["self","phone"] a.aO
 b4:IG K a.H a.J.f
 b5:yH K a.H "word"
 b6:P3 K a.H "word"
 b7:W.exmOne K (.ref a.H) (.ref a.H)=some true
 bW:Mk K a.c a.R.f
 b8:Mk K a.h a.al.f
 b9:Mk K a.e a.an.f
 ca:Mk K a.t a.ao.f
 cb:Mk K a.u a.ap.f
 cc:Mk K a.x a.B.f
 cd:Mk K a.n a.aq.f
 ce:Mk K a.y a.B.f
 cf:Mk K a.v a.ar.f
 cg:Mk K a.w a.au.f
 ch:Mk K a.o a.av.f
 ci:vk K a.t "is_due" a.q.f
 cj:vk K a.u "is_due" a.q.f
 ck:vk K a.x "is_due" a.q.f
 cl:vk K a.n "is_due" a.q.f
 cm:vk K a.y "is_due" a.q.f
 cn:vk K a.w "is_due" a.q.f
 co:vk K a.o "is_due" a.q.f
 cp:vk K a.t "told" a.l.f
 cq:vk K a.u "told" a.l.f
 cr:vk K a.x "told" a.l.f
 cs:vk K a.n "told" a.l.f
 ct:vk K a.y "told" a.l.f
 cu:vk K a.v "told" a.l.f
 cv:vk K a.w "told" a.l.f
 cw:vk K a.o "told" a.l.f
 cx:vk K a.x "wants" a.A.f
 cy:vk K a.n "wants" a.A.f
 cz:vk K a.y "wants" a.A.f
 cA:vk K a.v "wants" a.A.f
 aP:Nq K a.C "__init__" a.F.f
 bX:Nq K a.Y "__init__" a.B.f
 E:za K a.c ["plan","hour","turn","calls","legs","nexts","on","log"]
 Z:za K a.h ["phones","groups","wishes","on","phone_rows","group_rows"]
 j:za K a.e ["state","caller","way","at","members","holder","since","word"]
 bP:za K a.t ["form","phone","targets"]
 bQ:za K a.u ["form","target","callers"]
 bR:za K a.x ["form","target","goal"]
 aQ:za K a.n ["form","target","goal","first","last"]
 bS:za K a.y ["form","target","goal"]
 bN:za K a.v ["form","target","goal","turns"]
 bY:za K a.w ["form","phone"]
 bZ:za K a.o ["form","phone"]
 b0:mg "min"=none
 g:mg "len"=none
 cB:mg "max"=none
 aa:mg "range"=none
 r:mg "list"=none
 bT:mg "dict"=none
 z:mg "tuple"=none
 cC:mg "sorted"=none
 cD:mg "set"=none
 bO:mg "all"=none
 bU:mg "enumerate"=none
 cE:mg "zip"=none
 cF:mg "any"=none
 cG:KD K mg "MOST_PHONES" (.int 8)
 cH:KD K mg "MOST_LINES" (.int 3)
 cI:KD K mg "MOST_RANK" (.int 9)
 cJ:KD K mg "MOST_GROUPS" (.int 3)
 cK:KD K mg "MANNERS" (.tup ((["all","turns"]:QQQ).map D.str))
 cL:KD K mg "MOST_MEMBERS" (.int 4)
 cM:KD K mg "MOST_WISHES" (.int 16)
 cN:KD K mg "MOST_SIGNS" (.int 6)
 cO:KD K mg "LETTERS" (.str "abcdefghijklmnopqrstuvwxyz")
 b1:NM K mg "FORMS" JW
 b2:KD K mg "MOST_LISTED" (.int 6)
 cP:KD K mg "LAST_HOUR" (.int 23)
 cQ:KD K mg "MOST_TURNS" (.int 9)
noncomputable def qk(c f m:Int):Int:=(c % 2147483647+5)*f % 2147483629 / 89 % m
def qP{c f m:Int}(h:0<m):0<=qk c f m:=eP _ (by omega)
def qH{c f m:Int}(h:0<m):qk c f m<m:=eL _ h
def Iw:qY:=λds M Q=>C8 λc f m=>ds=[.int c,.int f,.int m]/\0<m/\Q (.int (qk c f m)) M
noncomputable def ue:Str:="abcdefghijklmnopqrstuvwxyz"
noncomputable def ua(i:Int):Str:=⟨#[97+i.toNat]⟩
noncomputable def size(s:Int):Int:=1+s % 6
noncomputable def uf(s:Int):Int:=s / 6 % size s
noncomputable def xw(s v:Int):Str:=yt (ua (s / 36 % 26)) (uf s)++ua ((s / 936+v) % 26)++yt (ua (s / 36 % 26)) (size s - 1 - uf s)
def OY:qY:=λds M Q=>A8 λs v=>ds=[.int s,.int v]/\Q (.str (xw s v)) M
noncomputable def cell(ns:T0 Int)(i:Int):Int:=if 0<=i/\i<ns.length then ns.getD i.toNat 0 else 0
def TR:qY:=λds M Q=>A8 λns i=>ds=[.rl (ns.map D.int),.int i]/\Q (.int (cell ns i)) M
def GV(c:Int):0<size c:=by unfold size;have:=eP c (show(6:Int)≠0 by decide);omega
def ID(c:Int):size c<=6:=by unfold size;have:=eL c (show(0:Int)<6 by decide);omega
def F7(i n:Int):(yt (ua i) n).length=n.toNat:=by show((List.replicate n.toNat (ua i).cps).foldl (·++·) #[]:Array Nat).size=n.toNat;rw[IE];show n.toNat*1=n.toNat;omega
def Al:ue.length<=sizeLine:=by decide+kernel
variable {P:Pg}{w:Wo}{K:qh}{mg:QQZ}{base:Heap}{a:Ad}(G:Gl K mg a)
def qy:Fq P w K mg base 1 a.i Iw:=by
 refine fq G.i.toDG G8 (λr u=>⟨_,(o9 (pz (pS (pS (pS (pS (pS (pS v0 pb) pb) U1) pb) pb) U2))),?_⟩)
 rintro ds M Q ⟨c,f,m,rfl,hm,q⟩
 refine⟨by decide,.inl ?_,by decide,⟨by decide,by decide⟩,hm,M,.refl,q⟩;have h1:0<=c % 2147483647:=eP _ (by decide);have h2:c % 2147483647<2147483647:=eL _ (by decide);exact⟨by omega,by omega⟩
def DX{i:Int}(h0:0<=i)(h1:i<26):wj ue.cps.toList i=some (97+i.toNat):=by
 obtain⟨n,rfl⟩:=eA h0;have hn:n<26:=by omega
 have key:∀n:_root_.Fin 26,wj ue.cps.toList ((n.val:Nat):Int)=some (97+n.val):=by decide+kernel
 exact key ⟨n,hn⟩
def JL:Fq P w K mg base 1 a.ah OY:=by
 refine fq G.ah.toDG ub (λr u=>⟨_,(oY (pH 2 ub pj)
 (oY (pH 3 ub (pS pb (pS v0 pb)))
 (oY (pH 4 ub (pS (pS v0 pb) U3))
 (oY (pH 5 ub (pI U2 (pS (pS v0 pb) pb)))
 (oY (pH 6 ub (pI U2 (pS (pS (pS v0 pb) U1) pb)))
 (o9 (pz (pS (pS (pS v5 v4) v6) (pS v5 (pS (pS U3 pb) v4)))))))))),?_⟩)
 rintro ds M Q ⟨c,v,rfl,q⟩
 have hs:=GV c;have hs6:=ID c;have hp0:0<=uf c:=eP _ (by omega);have Yy:uf c<size c:=eL _ hs;have l1:=F7 (c / 36 % 26) (uf c);have l2:=F7 (c / 36 % 26) (size c - 1 - uf c);have hz:=dH;refine⟨by decide,⟨by decide,by decide⟩,hs,⟨by decide,by decide⟩,by decide,Al,i' (DX (eP _ (by decide)) (eL _ (by decide))) ?_⟩;refine⟨⟨by decide,by decide⟩,by decide,Al,i' (DX (eP _ (by decide)) (eL _ (by decide))) ?_⟩;refine⟨⟨?_,?_,?_⟩,?_,⟨?_,?_,?_⟩,?_,M,.refl,q⟩
 .show uf c<4096;omega
 .show -4096<uf c;omega
 .show(1:Nat)<4096;decide
 .show(yt (ua (c / 36 % 26)) (uf c)).length+1<=sizeLine;omega
 .show size c - 1 - uf c<4096;omega
 .show -4096<size c - 1 - uf c;omega
 .show(1:Nat)<4096;decide
 .show(yt (ua (c / 36 % 26)) (uf c)++ua ((c / 936+v) % 26)).length+(yt (ua (c / 36 % 26)) (size c - 1 - uf c)).length<=sizeLine;rw[PySem.size_cat];have:(ua ((c / 936+v) % 26)).length=1:=rfl;omega
def Gn:Fq P w K mg base 1 a.I TR:=by
 refine fq G.I.toDG Kp (λr u=>⟨_,(oY (pN (GG u pb U1 (pO qv rfl G.g ql (qb v0)))
 (o9 (pz (pI v0 U1)))
 pF)
 (o9 (pz pb))),?_⟩)
 rintro ds M Q ⟨ns,i,rfl,q⟩
 refine qA (λh0=>?_) (λh0=>?_)
 .have h0:0<=i:=fO h0;refine qA (λh1=>?_) (λh1=>?_)
  .have h1:i<((ns.map D.int).length:Int):=fO h1;rw[cS]at h1;have hi:i.toNat<ns.length:=by omega
   have e:wj (ns.map D.int) i=some (D.int (ns.getD i.toNat 0)):=by
    obtain⟨n,rfl⟩:=eA h0;have hn:n<ns.length:=by omega
    refine uV ?_;rw[dz,cV hn];simp[hn]
   refine i' e ⟨M,.refl,?_⟩;have:cell ns i=ns.getD i.toNat 0:=by unfold cell;rw[cZ ⟨h0,h1⟩]
   rw[<-this];exact q
  .have h1:¬i<((ns.map D.int).length:Int):=λz=>h1 (dS z);rw[cS]at h1;refine⟨M,.refl,?_⟩;have:cell ns i=0:=by unfold cell;rw[cX (λz=>h1 z.2)]
   rw[<-this];exact q
 .have h0:¬0<=i:=λz=>h0 (dS z);refine⟨M,.refl,?_⟩;have:cell ns i=0:=by unfold cell;rw[cX (λz=>h0 z.1)]
  rw[<-this];exact q
inductive Wi where
 | bar (x:Str) (ns:QQQ)|shut (x:Str) (ns:QQQ)|always (x y:Str)|night (x y:Str) (f l:Int)|busy (x y:Str)|silent (x y:Str) (n:Int)|wait (x:Str)|breaks (x:Str)
abbrev names(ns:QQQ):D:=.tup (ns.map D.str)
noncomputable def Wi.told:Wi->T0 D
 | .bar x ns=>[.str "bar",.str x,names ns]
 | .shut x ns=>[.str "shut",.str x,names ns]
 | .always x y=>[.str "always",.str x,.str y]
 | .night x y f l=>[.str "night",.str x,.str y,.int f,.int l]
 | .busy x y=>[.str "busy",.str x,.str y]
 | .silent x y n=>[.str "silent",.str x,.str y,.int n]
 | .wait x=>[.str "wait",.str x]
 | .breaks x=>[.str "breaks",.str x]
noncomputable def Wi.cls(a:Ad):Wi->Addr
 | .bar _ _=>a.t
 | .shut _ _=>a.u
 | .always _ _=>a.x
 | .night _ _ _ _=>a.n
 | .busy _ _=>a.y
 | .silent _ _ _=>a.v
 | .wait _=>a.w
 | .breaks _=>a.o
noncomputable def Wi.more:Wi->T0 (Str×D)
 | .bar x ns=>[("phone",.str x),("targets",names ns)]
 | .shut x ns=>[("target",.str x),("callers",names ns)]
 | .always x y=>[("target",.str x),("goal",.str y)]
 | .night x y f l=>[("target",.str x),("goal",.str y),("first",.int f),("last",.int l)]
 | .busy x y=>[("target",.str x),("goal",.str y)]
 | .silent x y n=>[("target",.str x),("goal",.str y),("turns",.int n)]
 | .wait x=>[("phone",.str x)]
 | .breaks x=>[("phone",.str x)]
noncomputable def Wi.nE(v:Wi):T0 (Str×D):=("form",.tup v.told)::v.more
abbrev CN(ns:QQQ)(i:Int):Str:=ns.getD i.toNat Str.empty
noncomputable def wV(row:QQQ)(c m:Int):Nat:=(1+qk c 40692 (if (row.length:Int)<m then(row.length:Int)else m)).toNat
noncomputable def Ut(row:QQQ)(c:Int)(j:Nat):Str:=CN row ((qk c 69621 row.length+(0+(j:Nat))) % row.length)
noncomputable def vC(row:QQQ)(c m:Int):QQQ:=(List.range (wV row c m)).map (Ut row c)
def Qw:qY:=λds M Q=>Bg λr c m row=>ds=[.ref r,.int c,.int m]/\oR M r=some (row.map D.str)/\row≠[]/\0<m/\row.length<=64/\Q (names (vC row c m)) M
def Jq{row:QQQ}(h:row≠[])(x:Int):wj (row.map D.str) (x % row.length)=some (D.str (CN row (x % row.length))):=by
 have hl:0<row.length:=fC.mpr h;have h0:0<=x % row.length:=eP _ (by omega);have h1:x % row.length<row.length:=eL _ (by omega);obtain⟨n,hn⟩:=eA h0;rw[hn]at h1 ⊢;have YG:n<row.length:=by omega
 refine uV ?_;rw[dz,cV YG];simp[CN,YG]
def xN:Fq P w K mg base 2 a.Q Qw:=by
 refine fq G.Q.toDG xI (λr u=>⟨_,(oY (pH 3 xI (pE (qy G) r G.i (qX U1 pb (pO qv rfl G.g ql (qb v0)))))
 (oY (pH 4 xI (pS pb (pE (qy G) r G.i (qX U1 pb (pO (Nf rfl) rfl G.b0 KY (rN U2 (pO qv rfl G.g ql (qb v0))))))))
 (o9 (pz (pT rZ rfl G.z rX (qb (qB rfl (yg (ix:=[none,some 0,some 3]) (N':=["_law_j","_law_row","_law_first"])) (vV rfl G.aa (qb v4)) (qz 0) rQ (pI U1 (pS (pS U2 v0) (pO qv rfl G.g ql (qb U1))))))))))),?_⟩)
 rintro ds M Q ⟨r,c,m,row,rfl,hl,Xt,hm,h64,q⟩
 have Xb:0<row.length:=fC.mpr Xt;have hz:=dH;have el:((row.map D.str).length:Int)=row.length:=by rw[cS]
 refine i' hl ⟨c,69621,_,rfl,by rw[el];omega,?_⟩;refine i' hl ⟨c,40692,_,rfl,by rw[el];split<;>omega,?_⟩;rw[el];have d0:=qP (c:=c) (f:=40692) (m:=if (row.length:Int)<m then(row.length:Int)else m) (by split<;>omega);have d1:=qH (c:=c) (f:=40692) (m:=if (row.length:Int)<m then(row.length:Int)else m) (by split<;>omega);have d2:qk c 40692 (if (row.length:Int)<m then(row.length:Int)else m)<row.length+1:=by refine Int.lt_of_lt_of_le d1 ?_;split<;>omega
 refine⟨rfl,⟨?_,?_⟩,rh (f:=λd=>match d with|.int j=>D.str (CN row ((qk c 69621 row.length+j) % row.length))|_=>.mG) trivial _ [] _ ?_ (λd hd k hk=>?_) λp hp=>?_⟩
 .show -(2 ^ 62)<=1+qk c 40692 (if (row.length:Int)<m then(row.length:Int)else m);omega
 .show 1+qk c 40692 (if (row.length:Int)<m then(row.length:Int)else m)<2 ^ 62;omega
 .rw[cS,eB];show 0+wV row c m<=sizeLine;unfold wV;omega
 .obtain⟨j,_,rfl⟩:=dB.mp hd;refine i' hl ⟨by rw[el];omega,i' hl ?_⟩;rw[el];exact i' (Jq Xt _) hk
 .refine i' (x:=(vC row c m).map D.str) ?_ ⟨M,.new hp,q⟩;unfold oR;rw[pL];show some ([]++((List.range (wV row c m)).map λi=>D.int (0+(i:Nat))).map _)=_;rw[dY,dX];unfold vC;rw[dX];rfl
noncomputable def wc(c:Int)(own all:QQQ):Wi:=
 let x:=CN own (qk c 16807 own.length);let pl:=qk c 39373 all.length;let y:=CN all pl;let z:=CN all ((pl+1+qk c 742938285 ((all.length:Int) - 1)) % all.length);let k:=qk c 1226874159 12
 if k=0 then .bar x (vC all c 3)
 else if k=1 then .shut y (vC own c 3)
 else if k=2 then .always y z
 else if k<5 then .night y z (qk c 22695477 24) ((qk c 22695477 24+1+qk c 48271 23) % 24)
 else if k<7 then .busy y z
 else if k<9 then .silent y z ([1,1,2,3,9].getD (qk c 950706376 5).toNat 0)
 else if k=9 then .wait x
 else .breaks x
def OG:qY:=λds M Q=>F0 λc o n own all=>ds=[.int c,.ref o,.ref n]/\oR M o=some (own.map D.str)/\oR M n=some (all.map D.str)/\own≠[]/\2<=all.length/\own.length<=64/\all.length<=64/\Q (.tup (wc c own all).told) M
def Ic{row:QQQ}{x:Int}(h0:0<=x)(h1:x<row.length):wj (row.map D.str) x=some (D.str (CN row x)):=by
 obtain⟨n,rfl⟩:=eA h0;have YG:n<row.length:=by omega
 refine uV ?_;rw[dz,cV YG];simp[CN,YG]
def PP:Fq P w K mg base 3 a.bp OG:=by
 refine fq G.bp.toDG tj (λr u=>⟨_,(oY (pH 3 tj (pI U1 (pE (qy G) r G.i (qX v0 pb (pO qv rfl G.g ql (qb U1))))))
 (oY (pH 4 tj (pE (qy G) r G.i (qX v0 pb (pO qv rfl G.g ql (qb U2)))))
 (oY (pH 5 tj (pI U2 v4))
 (oY (pH 6 tj (pI U2 (pS (pS (pS v4 pb) (pE (qy G) r G.i (qX v0 pb (pS (pO qv rfl G.g ql (qb U2)) pb)))) (pO qv rfl G.g ql (qb U2)))))
 (oY (pH 7 tj (pE (qy G) r G.i (qX v0 pb pb)))
 (oY (pN (pD u v7 pb)
 (o9 (pz (pK (qX pj U3 (pE (xN G) r G.Q (qX U2 v0 pb))))))
 pF)
 (oY (pN (pD u v7 pb)
 (o9 (pz (pK (qX pj v5 (pE (xN G) r G.Q (qX U1 v0 pb))))))
 pF)
 (oY (pN (pD u v7 pb)
 (o9 (pz (pK (qX pj v5 v6))))
 pF)
 (oY (pN (pD u v7 pb)
 (oY (pH 8 tj (pE (qy G) r G.i (qX v0 pb pb)))
 (o9 (pz (pK (pW pj (pW v5 (qX v6 v8 (pS (pS (pS v8 pb) (pE (qy G) r G.i (qX v0 pb pb))) pb))))))))
 pF)
 (oY (pN (pD u v7 pb)
 (o9 (pz (pK (qX pj v5 v6))))
 pF)
 (oY (pN (pD u v7 pb)
 (o9 (pz (pK (pW pj (qX v5 v6 (pI (pK (pW pb (pW pb (qX pb pb pb)))) (pE (qy G) r G.i (qX v0 pb pb))))))))
 pF)
 (oY (pN (pD u v7 pb)
 (o9 (pz (pK (rN pj U3))))
 pF)
 (o9 (pz (pK (rN pj U3)))))))))))))))),?_⟩)
 rintro ds M Q ⟨c,o,n,own,all,rfl,ho,hn,Xt,h2,l1,l2,q⟩
 have Xb:0<own.length:=fC.mpr Xt;have hne2:all≠[]:=λz=>by rw[z]at h2;simp at h2
 have e1:((own.map D.str).length:Int)=own.length:=by rw[cS]
 have e2:((all.map D.str).length:Int)=all.length:=by rw[cS]
 have p1:(0:Int)<own.length:=by omega
 have p2:(0:Int)<all.length:=by omega
 have p3:(0:Int)<(all.length:Int) - 1:=by omega
 refine i' ho ⟨c,_,_,rfl,by rw[e1];exact p1,?_⟩;rw[e1];refine i' ho (i' (Ic (qP p1) (qH p1)) ?_);refine i' hn ⟨c,_,_,rfl,by rw[e2];exact p2,?_⟩;rw[e2];refine i' hn (i' (Ic (qP p2) (qH p2)) ?_);refine i' hn ⟨c,_,_,rfl,by rw[e2];exact p3,?_⟩;rw[e2];refine i' hn ⟨by rw[e2];exact p2,?_⟩;rw[e2];refine i' hn (i' (Jq hne2 _) ?_);refine⟨c,_,_,rfl,by decide,?_⟩;have Xa:∀t:T0 D,(wc c own all).told=t->∃W9,qp W9 M/\Q (.tup t) W9:=λt e=>⟨M,.refl,e ▸ q⟩;have k0:0<=qk c 1226874159 12:=qP (by decide);refine qA (λh=>?_) (λh=>?_)
 .have h:qk c 1226874159 12=0:=by simpa using h
  refine⟨n,c,3,all,rfl,hn,hne2,by decide,l2,oW rfl,Xa _ ?_⟩;simp only[wc,cZ h,Wi.told]
 have h:¬qk c 1226874159 12=0:=by simpa using h
 refine qA (λg=>?_) (λg=>?_)
 .have g:qk c 1226874159 12=1:=by simpa using g
  refine⟨o,c,3,own,rfl,ho,Xt,by decide,l1,oW rfl,Xa _ ?_⟩;simp only[wc,cX h,cZ g,Wi.told]
 have g:¬qk c 1226874159 12=1:=by simpa using g
 refine qA (λi=>?_) (λi=>?_)
 .have i:qk c 1226874159 12=2:=by simpa using i
  refine⟨oW rfl,Xa _ ?_⟩;simp only[wc,cX h,cX g,cZ i,Wi.told]
 have i:¬qk c 1226874159 12=2:=by simpa using i
 refine qA (λj=>?_) (λj=>?_)
 .have j:qk c 1226874159 12<5:=fO j;refine⟨c,_,_,rfl,by decide,c,_,_,rfl,by decide,by decide,oW rfl,Xa _ ?_⟩;simp only[wc,cX h,cX g,cX i,cZ j,Wi.told]
 have j:¬qk c 1226874159 12<5:=λz=>j (dS z);refine qA (λl=>?_) (λl=>?_)
 .have l:qk c 1226874159 12<7:=fO l;refine⟨oW rfl,Xa _ ?_⟩;simp only[wc,cX h,cX g,cX i,cX j,cZ l,Wi.told]
 have l:¬qk c 1226874159 12<7:=λz=>l (dS z);refine qA (λm=>?_) (λm=>?_)
 .have m:qk c 1226874159 12<9:=fO m;have d0:0<=qk c 950706376 5:=qP (by decide);have d1:qk c 950706376 5<5:=qH (by decide);have e:wj [D.int 1,.int 1,.int 2,.int 3,.int 9] (qk c 950706376 5)=some (D.int ([1,1,2,3,9].getD (qk c 950706376 5).toNat 0)):=by
   obtain⟨t,ht⟩:=eA d0;rw[ht]at d1 ⊢;have:t<5:=by omega
   match t,this with
   | 0,_=>rfl
   | 1,_=>rfl
   | 2,_=>rfl
   | 3,_=>rfl
   | 4,_=>rfl
  refine⟨oW rfl,c,_,_,rfl,by decide,i' e ⟨oW rfl,Xa _ ?_⟩⟩;simp only[wc,cX h,cX g,cX i,cX j,cX l,cZ m,Wi.told]
 have m:¬qk c 1226874159 12<9:=λz=>m (dS z);refine qA (λr=>?_) (λr=>?_)
 .have r:qk c 1226874159 12=9:=by simpa using r
  refine⟨oW rfl,Xa _ ?_⟩;simp only[wc,cX h,cX g,cX i,cX j,cX l,cX m,cZ r,Wi.told]
 have r:¬qk c 1226874159 12=9:=by simpa using r
 refine⟨oW rfl,Xa _ ?_⟩;simp only[wc,cX h,cX g,cX i,cX j,cX l,cX m,cX r,Wi.told]
def NQ(K:qh):qY:=λds M Q=>C8 λp d C=>ds=[.ref p,d]/\M p=some (.ins C [])/\tZ K C "form"/\Q .mG (pB M p (.ins C [("form",d)]))
def L'(K:qh):qY:=λds M Q=>F0 λp t x y C=>ds=[.ref p,.tup t]/\wj t 1=some x/\wj t 2=some y/\M p=some (.ins C [])/\tZ K C "form"/\tZ K C "target"/\tZ K C "goal"/\Q .mG (pB M p (.ins C [("form",.tup t),("target",x),("goal",y)]))
def xZ(a:Ad)(k:Wi->Prop):qY:=λds M Q=>A8 λp v=>ds=[.ref p,.tup (Wi.told v)]/\k v/\M p=some (.ins (v.cls a) [])/\Q .mG (pB M p (.ins (v.cls a) v.nE))
def xH:Fq P w K mg base 1 a.F (NQ K):=by
 refine fq G.F.toDG Em (λr u=>⟨_,(o9 (pY v0 U1)),?_⟩)
 rintro ds M Q ⟨p,d,C,rfl,hp,na,q⟩
 exact oZ hp ⟨na,by decide,_,.refl,q⟩
def zo:Fq P w K mg base 2 a.B (L' K):=by
 refine fq G.B.toDG AM (λr u=>⟨_,(oY (pJ (yT G.aP (xH G) r G.C G.F.toDG (rN v0 U1)))
 (oY (pY v0 (pI U1 pb))
 (o9 (pY v0 (pI U1 pb))))),?_⟩)
 rintro ds M Q ⟨p,t,x,y,C,rfl,e1,e2,hp,n1,n2,n3,q⟩
 refine⟨p,_,C,rfl,hp,n1,i' e1 (oZ pL ⟨n2,by show 1<1000;decide,?_⟩)⟩;refine i' e2 (oZ pL ⟨n3,by show 2<1000;decide,_,?_,q⟩);rw[rB,rB];exact .refl
def Se:Fq P w K mg base 2 a.ao (xZ a λv=>∃x ns,v=.bar x ns):=by
 refine fq G.ao.toDG GA (λr u=>⟨_,(oY (pJ (yT G.aP (xH G) r G.C G.F.toDG (rN v0 U1)))
 (oY (pY v0 (pI U1 pb))
 (o9 (pY v0 (pI U1 pb))))),?_⟩)
 rintro ds M Q ⟨p,v,rfl,⟨x,ns,rfl⟩,hp,q⟩
 refine⟨p,_,_,rfl,hp,(G.bP "form" rfl),oZ pL ⟨(G.bP "phone" rfl),by show 1<1000;decide,?_⟩⟩;refine oZ pL ⟨(G.bP "targets" rfl),by show 2<1000;decide,_,?_,q⟩;rw[rB,rB];exact .refl
def Of:Fq P w K mg base 2 a.ap (xZ a λv=>∃x ns,v=.shut x ns):=by
 refine fq G.ap.toDG Fe (λr u=>⟨_,(oY (pJ (yT G.aP (xH G) r G.C G.F.toDG (rN v0 U1)))
 (oY (pY v0 (pI U1 pb))
 (o9 (pY v0 (pI U1 pb))))),?_⟩)
 rintro ds M Q ⟨p,v,rfl,⟨x,ns,rfl⟩,hp,q⟩
 refine⟨p,_,_,rfl,hp,(G.bQ "form" rfl),oZ pL ⟨(G.bQ "target" rfl),by show 1<1000;decide,?_⟩⟩;refine oZ pL ⟨(G.bQ "callers" rfl),by show 2<1000;decide,_,?_,q⟩;rw[rB,rB];exact .refl
def Mq:Fq P w K mg base 3 a.aq (xZ a λv=>∃x y f l,v=.night x y f l):=by
 refine fq G.aq.toDG C0 (λr u=>⟨_,(oY (pJ (yT G.bX (zo G) r G.Y G.B.toDG (rN v0 U1)))
 (oY (pY v0 (pI U1 pb))
 (o9 (pY v0 (pI U1 pb))))),?_⟩)
 rintro ds M Q ⟨p,v,rfl,⟨x,y,f,l,rfl⟩,hp,q⟩
 refine⟨p,_,_,_,_,rfl,rfl,rfl,hp,(G.aQ "form" rfl),(G.aQ "target" rfl),(G.aQ "goal" rfl),oZ pL ⟨(G.aQ "first" rfl),by show 3<1000;decide,?_⟩⟩;refine oZ pL ⟨(G.aQ "last" rfl),by show 4<1000;decide,_,?_,q⟩;rw[rB,rB];exact .refl
def Kn:Fq P w K mg base 3 a.ar (xZ a λv=>∃x y n,v=.silent x y n):=by
 refine fq G.ar.toDG B6 (λr u=>⟨_,(oY (pJ (yT G.bX (zo G) r G.Y G.B.toDG (rN v0 U1)))
 (o9 (pY v0 (pI U1 pb)))),?_⟩)
 rintro ds M Q ⟨p,v,rfl,⟨x,y,n,rfl⟩,hp,q⟩
 refine⟨p,_,_,_,_,rfl,rfl,rfl,hp,(G.bN "form" rfl),(G.bN "target" rfl),(G.bN "goal" rfl),oZ pL ⟨(G.bN "turns" rfl),by show 3<1000;decide,_,?_,q⟩⟩;rw[rB];exact .refl
def OL:Fq P w K mg base 2 a.au (xZ a λv=>∃x,v=.wait x):=by
 refine fq G.au.toDG Es (λr u=>⟨_,(oY (pJ (yT G.aP (xH G) r G.C G.F.toDG (rN v0 U1)))
 (o9 (pY v0 (pI U1 pb)))),?_⟩)
 rintro ds M Q ⟨p,v,rfl,⟨x,rfl⟩,hp,q⟩
 refine⟨p,_,_,rfl,hp,(G.bY "form" rfl),oZ pL ⟨(G.bY "phone" rfl),by show 1<1000;decide,_,?_,q⟩⟩;rw[rB];exact .refl
def Kr:Fq P w K mg base 2 a.av (xZ a λv=>∃x,v=.breaks x):=by
 refine fq G.av.toDG Cr (λr u=>⟨_,(oY (pJ (yT G.aP (xH G) r G.C G.F.toDG (rN v0 U1)))
 (o9 (pY v0 (pI U1 pb)))),?_⟩)
 rintro ds M Q ⟨p,v,rfl,⟨x,rfl⟩,hp,q⟩
 refine⟨p,_,_,rfl,hp,(G.bZ "form" rfl),oZ pL ⟨(G.bZ "phone" rfl),by show 1<1000;decide,_,?_,q⟩⟩;rw[rB];exact .refl
def HF(a:Ad):qY:=λds M Q=>∃v:Wi,ds=[.tup v.told]/\∀p,M p=none->Q (.ref p) (pB M p (.ins (v.cls a) v.nE))
def JE(a:Ad):qY:=λds M Q=>A8 λp (v:Wi)=>ds=[.ref p]/\M p=some (.ins (v.cls a) v.nE)/\Q (.tup v.told) M
def Hm:qY:=λds M Q=>∃p,ds=[.ref p]/\Q (.tup [.str "end"]) M
def Lv:qY:=λds M Q=>∃p,ds=[.ref p]/\Q (.tup [.str "break"]) M
def QU:qY:=λds M Q=>Bg λp C fs y=>ds=[.ref p]/\M p=some (.ins C fs)/\fs.lookup ("goal":Str)=some y/\Q (.tup [.str "to",y]) M
def QP:qY:=λds M Q=>Bg λp C fs y=>ds=[.ref p]/\M p=some (.ins C fs)/\fs.lookup ("phone":Str)=some y/\Q (.tup [.str "wait",y]) M
def MK(a:Ad):Addr->qY->Prop:=λC sp=>(∃v:Wi,C=v.cls a)/\sp=JE a
def Js(a:Ad):Addr->qY->Prop:=λC sp=>((C=a.t\/C=a.u)/\sp=Hm)\/((C=a.x\/C=a.n\/C=a.y\/C=a.v)/\sp=QU)\/(C=a.w/\sp=QP)\/(C=a.o/\sp=Lv)
def HX:Fq P w K mg base 5 a.bg (HF a):=by
 refine fq G.bg.toDG Cw (λr u=>⟨_,(oY (pH 1 Cw (pI v0 pb))
 (oY (pN (pD u U1 pj)
 (o9 (pz (uL (Se G) r G.t G.ca G.ao.toDG (qb v0))))
 pF)
 (oY (pN (pD u U1 pj)
 (o9 (pz (uL (Of G) r G.u G.cb G.ap.toDG (qb v0))))
 pF)
 (oY (pN (pD u U1 pj)
 (o9 (pz (uL (zo G) r G.x G.cc G.B.toDG (qb v0))))
 pF)
 (oY (pN (pD u U1 pj)
 (o9 (pz (uL (Mq G) r G.n G.cd G.aq.toDG (qb v0))))
 pF)
 (oY (pN (pD u U1 pj)
 (o9 (pz (uL (zo G) r G.y G.ce G.B.toDG (qb v0))))
 pF)
 (oY (pN (pD u U1 pj)
 (o9 (pz (uL (Kn G) r G.v G.cf G.ar.toDG (qb v0))))
 pF)
 (oY (pN (pD u U1 pj)
 (o9 (pz (uL (OL G) r G.w G.cg G.au.toDG (qb v0))))
 pF)
 (oY (pN (pD u U1 pj)
 (o9 (pz (uL (Kr G) r G.o G.ch G.av.toDG (qb v0))))
 pF)
 (o9 Gm)))))))))),?_⟩)
 rintro ds M Q ⟨v,rfl,q⟩
 have Xa:∀(x:Addr) (c0 c1:uK) (C:Addr) (fs:T0 (Str×D)),M x=none->Q (.ref x) (pB M x c1)->∃W9,qp W9 (pB (pB M x c0) x c1)/\Q (.ref x) W9:=λx c0 c1 C fs hx q=>⟨_,by rw[rB];exact .refl,q⟩;cases v with
 | bar x ns=>exact λp hp=>⟨p,.bar x ns,rfl,⟨_,_,rfl⟩,pL,rfl,Xa p _ _ 0 [] hp (q p hp)⟩
 | shut x ns=>exact λp hp=>⟨p,.shut x ns,rfl,⟨_,_,rfl⟩,pL,rfl,Xa p _ _ 0 [] hp (q p hp)⟩
 | always x y=>exact λp hp=>⟨p,_,_,_,_,rfl,rfl,rfl,pL,(G.bR "form" rfl),(G.bR "target" rfl),(G.bR "goal" rfl),rfl,Xa p _ _ 0 [] hp (q p hp)⟩
 | night x y f l=>exact λp hp=>⟨p,.night x y f l,rfl,⟨_,_,_,_,rfl⟩,pL,rfl,Xa p _ _ 0 [] hp (q p hp)⟩
 | busy x y=>exact λp hp=>⟨p,_,_,_,_,rfl,rfl,rfl,pL,(G.bS "form" rfl),(G.bS "target" rfl),(G.bS "goal" rfl),rfl,Xa p _ _ 0 [] hp (q p hp)⟩
 | silent x y n=>exact λp hp=>⟨p,.silent x y n,rfl,⟨_,_,_,rfl⟩,pL,rfl,Xa p _ _ 0 [] hp (q p hp)⟩
 | wait x=>exact λp hp=>⟨p,.wait x,rfl,⟨_,rfl⟩,pL,rfl,Xa p _ _ 0 [] hp (q p hp)⟩
 | breaks x=>exact λp hp=>⟨p,.breaks x,rfl,⟨_,rfl⟩,pL,rfl,Xa p _ _ 0 [] hp (q p hp)⟩
def OA:Fq P w K mg base 1 a.l (JE a):=by
 refine fq G.l.toDG Eo (λr u=>⟨_,(o9 (pz (pq v0))),?_⟩)
 rintro ds M Q ⟨p,v,rfl,hp,q⟩
 exact oZ hp (i' rfl ⟨M,.refl,q⟩)
def Qp:Fq P w K mg base 1 a.aA Hm:=by
 refine fq G.aA.toDG Er (λr u=>⟨_,(o9 (pz (pK (qb pj)))),?_⟩)
 rintro ds M Q ⟨p,rfl,q⟩
 exact⟨oW rfl,M,.refl,q⟩
def MY:Fq P w K mg base 1 a.aB Hm:=by
 refine fq G.aB.toDG Du (λr u=>⟨_,(o9 (pz (pK (qb pj)))),?_⟩)
 rintro ds M Q ⟨p,rfl,q⟩
 exact⟨oW rfl,M,.refl,q⟩
def vq:Fq P w K mg base 1 a.A QU:=by
 refine fq G.A.toDG zX (λr u=>⟨_,(o9 (pz (pK (rN pj (pq v0))))),?_⟩)
 rintro ds M Q ⟨p,C,fs,y,rfl,hp,e,q⟩
 exact oZ hp (i' e ⟨oW rfl,M,.refl,q⟩)
def Nd:Fq P w K mg base 1 a.aC QP:=by
 refine fq G.aC.toDG CS (λr u=>⟨_,(o9 (pz (pK (rN pj (pq v0))))),?_⟩)
 rintro ds M Q ⟨p,C,fs,y,rfl,hp,e,q⟩
 exact oZ hp (i' e ⟨oW rfl,M,.refl,q⟩)
def HI:Fq P w K mg base 1 a.aD Lv:=by
 refine fq G.aD.toDG AL (λr u=>⟨_,(o9 (pz (pK (qb pj)))),?_⟩)
 rintro ds M Q ⟨p,rfl,q⟩
 exact⟨oW rfl,M,.refl,q⟩
def Sk:∀C sp,MK a C sp->xi P w K mg base 1 "told" C (N0 K sp):=by
 rintro C sp ⟨⟨v,rfl⟩,rfl⟩
 have F:=OA (P:=P) (w:=w) (base:=base) G;cases v with
 | bar _ _=>exact⟨G.t.toCls,_,_,_,G.cp,F,G.l.b⟩
 | shut _ _=>exact⟨G.u.toCls,_,_,_,G.cq,F,G.l.b⟩
 | always _ _=>exact⟨G.x.toCls,_,_,_,G.cr,F,G.l.b⟩
 | night _ _ _ _=>exact⟨G.n.toCls,_,_,_,G.cs,F,G.l.b⟩
 | busy _ _=>exact⟨G.y.toCls,_,_,_,G.ct,F,G.l.b⟩
 | silent _ _ _=>exact⟨G.v.toCls,_,_,_,G.cu,F,G.l.b⟩
 | wait _=>exact⟨G.w.toCls,_,_,_,G.cv,F,G.l.b⟩
 | breaks _=>exact⟨G.o.toCls,_,_,_,G.cw,F,G.l.b⟩
def Qi:∀C sp,Js a C sp->xi P w K mg base 1 "wants" C (N0 K sp):=by
 rintro C sp (⟨rfl|rfl,rfl⟩|⟨rfl|rfl|rfl|rfl,rfl⟩|⟨rfl,rfl⟩|⟨rfl,rfl⟩)
 .exact⟨G.t.toCls,_,_,_,G.aA.m8,Qp G,G.aA.b⟩
 .exact⟨G.u.toCls,_,_,_,G.aB.m8,MY G,G.aB.b⟩
 .exact⟨G.x.toCls,_,_,_,G.cx,vq G,G.A.b⟩
 .exact⟨G.n.toCls,_,_,_,G.cy,vq G,G.A.b⟩
 .exact⟨G.y.toCls,_,_,_,G.cz,vq G,G.A.b⟩
 .exact⟨G.v.toCls,_,_,_,G.cA,vq G,G.A.b⟩
 .exact⟨G.w.toCls,_,_,_,G.aC.m8,Nd G,G.aC.b⟩
 .exact⟨G.o.toCls,_,_,_,G.aD.m8,HI G,G.aD.b⟩
noncomputable def ul(x:Str):Bool:=decide ((1:Int)<=x.length)&&(decide ((x.length:Int)<=6)&&x.cps.toList.all λc=>CU ⟨#[c]⟩ ue)
def Ib:qY:=λds M Q=>∃x:Str,ds=[.str x]/\x.length<=1000/\Q (.bl (ul x)) M
def IQ:qY:=λds M Q=>∃w,ds=[.bl true,w]/\Q .mG M
noncomputable def wq(ss:QQQ):Bool:=((sT ss).length:Int)==(ss.length:Int)
def Sj(M:Mp)(x:D)(ss:QQQ):Prop:=x=.tup (ss.map D.str)\/∃a,x=.ref a/\oR M a=some (ss.map D.str)
def Kq:qY:=λds M Q=>A8 λx ss=>ds=[x]/\Sj M x ss/\ss.length<4000/\Q (.bl (wq ss)) M
def zb{α:Type}(f:α->Bool)(l:List α):(l.map f).all id=l.all f:=by rw[jF];rfl
def sr(x:Str)(ss:QQQ):inD (.str x) (ss.map D.str)=ss.any (·==x):=by unfold inD;rw[jK];rfl
theorem qo:∀ss:QQQ,(ss.map D.str).all uQ=true
 | []=>rfl
 | _::r=>by rw[dR,eU,qo r];rfl
noncomputable def sv(cs ks:QQQ)(m:Int):Bool:=decide ((1:Int)<=cs.length)&&(decide ((cs.length:Int)<=m)&&(wq cs&&cs.all λc=>ks.any (·==c)))
def Ka:qY:=λds M Q=>Bg λcs ks k m=>ds=[.tup (cs.map D.str),.ref k,.int m]/\oR M k=some (ks.map D.str)/\cs.length<4000/\Q (.bl (sv cs ks m)) M
def Cv:Fq P w K mg base 1 a.af Ib:=by
 refine fq G.af.toDG H9 (λr u=>⟨_,(o9 (pz (sQ (ug u pb (pO qv rfl G.g ql (qb v0)) (sE rfl G.cN)) (sA (pO (EF rfl) rfl G.bO Fz (qb (qB rfl (yg (ix:=[none]) (N':=["sign"])) (qF v0) (qz 0) rQ (qc u v0 (sE rfl G.cO))))))))),?_⟩)
 rintro ds M Q ⟨x,rfl,hl,q⟩
 have hz:=dH;refine⟨by omega,qA (λh1=>?_) (λh1=>?_)⟩
 .refine qA (λh2=>?_) (λh2=>?_)
  .refine rh (f:=λd=>match d with|.str z=>D.bl (CU z ue)|_=>.mG) trivial _ [] _ ?_ (λd hd k hk=>?_) λp hp=>?_
   .rw[cS];have:x.cps.toList.length=x.length:=by simp[Str.length]
    simp only[dM];omega
   .obtain⟨c,_,rfl⟩:=dB.mp hd;exact hk
   .refine i' pA ?_;have e:([]++(x.cps.toList.map λc=>D.str ⟨#[c]⟩).map λd=>match d with|.str z=>D.bl (CU z ue)|_=>.mG)=x.cps.toList.map λc=>D.bl (CU ⟨#[c]⟩ ue):=by rw[dY,dX];rfl
    rw[e];refine i' (x8 (λc=>CU ⟨#[c]⟩ ue) x.cps.toList) ⟨M,.new hp,?_⟩;rw[zb];have:ul x=x.cps.toList.all λc=>CU ⟨#[c]⟩ ue:=by unfold ul;rw[h1,h2];rfl
    rw[<-this];exact q
  .refine⟨M,.refl,?_⟩;have:ul x=false:=by
    unfold ul;have h2:decide ((x.length:Int)<=6)=false:=by simpa using h2
    rw[h2];simp
   rw[<-this];exact q
 .refine⟨M,.refl,?_⟩;have:ul x=false:=by
   unfold ul;have h1:decide ((1:Int)<=x.length)=false:=by simpa using h1
   rw[h1];rfl
  rw[<-this];exact q
def sL:Fq P w K mg base 1 a.m IQ:=by
 refine fq G.m.toDG QA (λr u=>⟨_,(o9 (pN (yD (vv v0))
 (o9 Gm)
 pF)),?_⟩)
 rintro ds M Q ⟨x,rfl,q⟩
 exact⟨M,.refl,q⟩
def Ea:Fq P w K mg base 1 a.ag Kq:=by
 refine fq G.ag.toDG C4 (λr u=>⟨_,(o9 (pz (qc u (Kj rfl v0 rfl G.g rfl G.cD ql Q9) (pO qv rfl G.g ql (qb v0))))),?_⟩)
 rintro ds M Q ⟨x,ss,rfl,hx,hl,q⟩
 have key:((ss.map D.str).length:Int)=ss.length:=by rw[cS]
 rcases hx with rfl|⟨b,rfl,hb⟩
 .refine i' (L3.B0 ss) ⟨hl,M,.refl,?_⟩;rw[key];exact q
 .refine i' hb (i' (L3.B0 ss) ⟨hl,i' hb ⟨M,.refl,?_⟩⟩);rw[key];exact q
def Af:Fq P w K mg base 2 a.P Ka:=by
 refine fq G.P.toDG Ft (λr u=>⟨_,(o9 (pz (sQ (ug u pb (pO qv rfl G.g ql (qb v0)) U2) (sQ (pE (Ea G) r G.ag (qb v0)) (sA (pO (EF rfl) rfl G.bO Fz (qb (qB rfl (yg (ix:=[none,some 1]) (N':=["name","known"])) (qF v0) (qz 0) rQ (qc u v0 U1))))))))),?_⟩)
 rintro ds M Q ⟨cs,ks,k,m,rfl,hk,hl,q⟩
 have hz:=dH;have key:((cs.map D.str).length:Int)=cs.length:=by rw[cS]
 have end_:∀b:Bool,sv cs ks m=b->∃W9,qp W9 M/\Q (.bl b) W9:=λb e=>⟨M,.refl,e ▸ q⟩;refine qA (λh1=>?_) (λh1=>?_)
 .have h1:decide ((1:Int)<=cs.length)=true:=by rw[<-key];exact h1
  refine qA (λh2=>?_) (λh2=>?_)
  .have h2:decide ((cs.length:Int)<=m)=true:=by rw[<-key];exact h2
   refine⟨_,cs,rfl,.inl rfl,hl,qA (λh3=>?_) (λh3=>?_)⟩
   .refine rh (f:=λd=>match d with|.str z=>D.bl (ks.any (·==z))|_=>.mG) trivial _ [] _ ?_ (λd hd k0 hk0=>?_) λp hp=>?_
    .rw[cS];simp only[dM];omega
    .obtain⟨c,_,rfl⟩:=dB.mp hd;refine i' hk ⟨rfl,qo ks,?_⟩;show k0 (.bl (inD (.str c) (ks.map D.str))) M;rw[sr];exact hk0
    .refine i' pA ?_;have e:([]++(cs.map D.str).map λd=>match d with|.str z=>D.bl (ks.any (·==z))|_=>.mG)=cs.map λc=>D.bl (ks.any (·==c)):=by rw[dY,dX];rfl
     rw[e];refine i' (x8 (λc=>ks.any (·==c)) cs) ⟨M,.new hp,?_⟩;rw[zb];have:sv cs ks m=cs.all λc=>ks.any (·==c):=by unfold sv;rw[h1,h2,h3];rfl
     rw[<-this];exact q
   .refine end_ _ ?_;unfold sv;have h3:wq cs=false:=by simpa using h3
    rw[h3];simp
  .refine end_ _ ?_;unfold sv;have h2:decide ((cs.length:Int)<=m)=false:=by
    rw[<-key]
    simpa using h2
   rw[h2];simp
 .refine end_ _ ?_;unfold sv;have h1:decide ((1:Int)<=cs.length)=false:=by
   rw[<-key]
   simpa using h1
  rw[h1];rfl
abbrev uz:=Str×Int×Int
abbrev uk:=Str×Str×QQQ
abbrev vh:=Bool×Wi
noncomputable def qD(p:uz):D:=.tup [.str p.1,.int p.2.1,.int p.2.2]
noncomputable def qL(g:uk):D:=.tup [.str g.1,.str g.2.1,names g.2.2]
noncomputable def uT(w:vh):D:=.tup [.bl w.1,.tup w.2.told]
structure Fj(p:uz):Prop where
 len:p.1.length<=1000
 nm:ul p.1=true
 l1:1<=p.2.1
 l2:p.2.1<=3
 r1:0<=p.2.2
 r2:p.2.2<=9
structure Ew(pn:QQQ)(g:uk):Prop where
 len:g.1.length<=1000
 nm:ul g.1=true
 man:g.2.1="all"\/g.2.1="turns"
 oW:g.2.2.length<4000
 mem:sv g.2.2 pn 4=true
def xy(ss:QQQ)(x:Str):Prop:=ss.any (·==x)=true
def Bv(pn nm:QQQ):Wi->Prop
 | .bar x ns=>xy pn x/\ns.length<4000/\sv ns nm 6=true
 | .shut x ns=>xy nm x/\ns.length<4000/\sv ns pn 6=true
 | .always x y=>xy nm x/\xy nm y/\x≠y
 | .night x y f l=>xy nm x/\xy nm y/\x≠y/\(0<=f/\f<=23)/\(0<=l/\l<=23)/\f≠l
 | .busy x y=>xy nm x/\xy nm y/\x≠y
 | .silent x y n=>xy nm x/\xy nm y/\x≠y/\1<=n/\n<=9
 | .wait x=>xy pn x
 | .breaks x=>xy pn x
inductive xc(pn nm:QQQ):Str->D->Prop
 | mV (x:Str) (h:xy pn x):xc pn nm "phone" (.str x)
 | name (x:Str) (h:xy nm x):xc pn nm "name" (.str x)
 | mF (cs:QQQ) (l:cs.length<4000) (h:sv cs pn 6=true):xc pn nm "phones" (names cs)
 | names (cs:QQQ) (l:cs.length<4000) (h:sv cs nm 6=true):xc pn nm "names" (names cs)
 | hour (i:Int) (h0:0<=i) (h1:i<=23):xc pn nm "hour" (.int i)
 | turns (i:Int) (h0:1<=i) (h1:i<=9):xc pn nm "turns" (.int i)
def IV:qY:=λds M Q=>IF λk d pl nl (pn nm:QQQ)=>ds=[.str k,d,.ref pl,.ref nl]/\oR M pl=some (pn.map D.str)/\oR M nl=some (nm.map D.str)/\xc pn nm k d/\Q (.bl true) M
def AU:qY:=λds M Q=>A8 λr (ps:List uz)=>ds=[.ref r]/\oR M r=some (ps.map qD)/\1<=ps.length/\ps.length<=8/\(∀p∈ps,Fj p)/\Q .mG M
def AV:qY:=λds M Q=>Bg λr (gs:List uk) pl (pn:QQQ)=>ds=[.ref r,.ref pl]/\oR M r=some (gs.map qL)/\oR M pl=some (pn.map D.str)/\gs.length<=3/\(∀g∈gs,Ew pn g)/\Q .mG M
def Dv:qY:=λds M Q=>F0 λv pl nl (pn nm:QQQ)=>ds=[.tup (Wi.told v),.ref pl,.ref nl]/\oR M pl=some (pn.map D.str)/\oR M nl=some (nm.map D.str)/\Bv pn nm v/\Q .mG M
def AB:qY:=λds M Q=>IF λr (ws:List vh) pl nl (pn nm:QQQ)=>ds=[.ref r,.ref pl,.ref nl]/\oR M r=some (ws.map uT)/\oR M pl=some (pn.map D.str)/\oR M nl=some (nm.map D.str)/\ws.length<=16/\(∀w∈ws,Bv pn nm w.2)/\Q .mG M
def Wv(h:xy ss x):inD (.str x) (ss.map D.str)=true:=by rw[sr];exact h
def Qm:Fq P w K mg base 3 a.bj IV:=by
 refine fq G.bj.toDG CV (λr u=>⟨_,(oY (pN (pD u v0 pj)
 (o9 (pz (qc u U1 U2)))
 pF)
 (oY (pN (pD u v0 pj)
 (o9 (pz (qc u U1 U3)))
 pF)
 (oY (pN (pD u v0 pj)
 (o9 (pz (pE (Af G) r G.P (qX U1 U2 (sE rfl G.b2)))))
 pF)
 (oY (pN (pD u v0 pj)
 (o9 (pz (pE (Af G) r G.P (qX U1 U3 (sE rfl G.b2)))))
 pF)
 (oY (pN (pD u v0 pj)
 (o9 (pz (ug u pb U1 (sE rfl G.cP))))
 pF)
 (o9 (pz (ug u pb U1 (sE rfl G.cQ))))))))),?_⟩)
 rintro ds M Q ⟨k,d,pl,nl,pn,nm,rfl,hp,hn,ok,q⟩
 cases ok with
 | mV x h=>refine i' hp ⟨rfl,qo pn,M,.refl,?_⟩;show Q (.bl (inD (.str x) (pn.map D.str))) M;rw[Wv h];exact q
 | name x h=>refine i' hn ⟨rfl,qo nm,M,.refl,?_⟩;show Q (.bl (inD (.str x) (nm.map D.str))) M;rw[Wv h];exact q
 | mF cs l h=>exact⟨cs,pn,pl,6,rfl,hp,l,M,.refl,by rw[h];exact q⟩
 | names cs l h=>exact⟨cs,nm,nl,6,rfl,hn,l,M,.refl,by rw[h];exact q⟩
 | hour i h0 h1=>refine AF (c:=decide (0<=i)) (dS h0) ⟨M,.refl,?_⟩;show Q (.bl (decide (i<=23))) M;rw[dS h1];exact q
 | turns i h0 h1=>refine AF (c:=decide (1<=i)) (dS h0) ⟨M,.refl,?_⟩;show Q (.bl (decide (i<=9))) M;rw[dS h1];exact q
def AS:Fq P w K mg base 2 a.bh AU:=by
 refine fq G.bh.toDG tY (λr u=>⟨_,(oY (pJ (pE (sL G) r G.m (rN (ug u pb (pO qv rfl G.g ql (qb v0)) (sE rfl G.cG)) pj)))
 (o9 (uM fu rfl (qF v0) (vI (n:=3) rfl (qK (sH 1 tY) (qK (sH 2 tY) (qK (sH 3 tY) uD))))
 (oY (pJ (pE (sL G) r G.m (rN (pE (Cv G) r G.af (qb U1)) pj)))
 (oY (pJ (pE (sL G) r G.m (rN (ug u pb U2 (sE rfl G.cH)) pj)))
 (o9 (pJ (pE (sL G) r G.m (rN (ug u pb U3 (sE rfl G.cI)) pj))))))))),?_⟩)
 rintro ds M Q ⟨r,ps,rfl,XO,h1,h8,mM,q⟩
 have el:((ps.map qD).length:Int)=ps.length:=by rw[cS]
 refine i' XO (AF (c:=decide ((1:Int)<=(ps.map qD).length)) (dS (by omega)) ⟨_,by rw[dS (show((ps.map qD).length:Int)<=8 by omega)],i' XO ?_⟩);refine Bh (λU M'=>M=M'/\∃x y z,U=[some (.ref r),x,y,z]) (λU M' j=>by rw[<-j.1];exact XO) _ _ _ ⟨rfl,none,none,none,rfl⟩ ?_ ?_
 .rintro d hd U M' ⟨rfl,x,y,z,rfl⟩ nx Xj
  obtain⟨p,hp,rfl⟩:=dB.mp hd;have o:=mM p hp;refine⟨rfl,⟨p.1,rfl,o.len,_,by rw[o.nm],?_⟩⟩;refine AF (c:=decide ((1:Int)<=p.2.1)) (dS o.l1) ⟨_,by rw[dS (show p.2.1<=3 from o.l2)],?_⟩;refine AF (c:=decide ((0:Int)<=p.2.2)) (dS o.r1) ⟨_,by rw[dS (show p.2.2<=9 from o.r2)],?_⟩;exact Xj _ _ ⟨rfl,_,_,_,rfl⟩
 .rintro U M' ⟨rfl,x,y,z,rfl⟩
  exact⟨M,.refl,q⟩
def AQ:Fq P w K mg base 3 a.bi AV:=by
 refine fq G.bi.toDG tX (λr u=>⟨_,(oY (pJ (pE (sL G) r G.m (rN (qc u (pO qv rfl G.g ql (qb v0)) (sE rfl G.cJ)) pj)))
 (o9 (uM fu rfl (qF v0) (vI (n:=3) rfl (qK (sH 2 tX) (qK (sH 3 tX) (qK (sH 4 tX) uD))))
 (oY (pJ (pE (sL G) r G.m (rN (pE (Cv G) r G.af (qb U2)) pj)))
 (oY (pJ (pE (sL G) r G.m (rN (qc u U3 (sE rfl G.cK)) pj)))
 (o9 (pJ (pE (sL G) r G.m (rN (pE (Af G) r G.P (qX v4 U1 (sE rfl G.cL))) pj))))))))),?_⟩)
 rintro ds M Q ⟨r,gs,pl,pn,rfl,XO,hp,h3,mM,q⟩
 have el:((gs.map qL).length:Int)=gs.length:=by rw[cS]
 refine i' XO ⟨_,by rw[dS (show((gs.map qL).length:Int)<=3 by omega)],i' XO ?_⟩;refine Bh (λU M'=>M=M'/\∃x y z,U=[some (.ref r),some (.ref pl),x,y,z]) (λU M' j=>by rw[<-j.1];exact XO) _ _ _ ⟨rfl,none,none,none,rfl⟩ ?_ ?_
 .rintro d hd U M' ⟨rfl,x,y,z,rfl⟩ nx Xj
  obtain⟨g,hg,rfl⟩:=dB.mp hd;have o:=mM g hg;refine⟨rfl,⟨g.1,rfl,o.len,_,by rw[o.nm],?_⟩⟩;have hm:inD (.str g.2.1) [.str "all",.str "turns"]=true:=by rcases o.man with e|e<;>(rw[e];rfl)
  refine⟨rfl,rfl,.str "a group's manner is all or turns",eO (λb=>[D.bl b,D.str "a group's manner is all or turns"]) hm,?_⟩;refine⟨g.2.2,pn,pl,4,rfl,hp,o.oW,_,by rw[o.mem],?_⟩;exact Xj _ _ ⟨rfl,_,_,_,rfl⟩
 .rintro U M' ⟨rfl,x,y,z,rfl⟩
  exact⟨M,.refl,q⟩
def C6:Fq P w K mg base 4 a.bk Dv:=by
 refine fq G.bk.toDG tU (λr u=>⟨_,(oY (pJ (pE (sL G) r G.m (rN (Ms G.b1 rfl (pI v0 pb)) pj)))
 (oY (pH 3 tU (KC G.b1 rfl (pI v0 pb)))
 (oY (pH 4 tU (rL v0 (sO pb) sS))
 (oY (pJ (pE (sL G) r G.m (rN (qc u (pO qv rfl G.g ql (qb v4)) (pO qv rfl G.g ql (qb U3))) pj)))
 (oY (uM fu rfl (Si rfl G.cE (rN U3 v4)) (vI (n:=2) rfl (qK (sH 5 tU) (qK (sH 6 tU) uD)))
 (o9 (pJ (pE (sL G) r G.m (rN (pE (Qm G) r G.bj (pW v5 (qX v6 U1 U2))) pj)))))
 (oY (pN (pD u (rL U3 sS (sO pb)) (pK (rN pj pj)))
 (o9 (pJ (pE (sL G) r G.m (rN (qc u (pI v4 pb) (pI v4 pb)) pj))))
 pF)
 (o9 (pN (pD u (rL U3 (sO pb) sS) (pK (rN pj pj)))
 (o9 (pJ (pE (sL G) r G.m (rN (qc u (pI v4 pb) (pI v4 pb)) pj))))
 pF)))))))),?_⟩)
 rintro ds M Q ⟨v,pl,nl,pn,nm,rfl,hp,hn,ok,q⟩
 have part:∀{k:Str} {d:D} {C:DK},xc pn nm k d->C (.bl true) M->IV [.str k,d,.ref pl,.ref nl] M C:=λo c=>⟨_,_,pl,nl,pn,nm,rfl,hp,hn,o,c⟩;have need:∀{x:D} {C:DK},C .mG M->IQ [.bl true,x] M C:=λc=>⟨_,rfl,c⟩;have ne:∀{x y:Str},x≠y->(!(x==y))=true:=λh=>by simpa using h
 have nei:∀{x y:Int},x≠y->(!(x==y))=true:=λh=>by simpa using h
 have Xa:∃W9,qp W9 M/\Q .mG W9:=⟨M,.refl,q⟩;cases v with
 | bar x ns=>obtain⟨h1,h2,h3⟩:=ok;refine⟨_,rfl,_,rfl,?_⟩;refine⟨rfl,_,_,pl,nl,pn,nm,rfl,hp,hn,.mV x h1,_,rfl,trivial,⟨rfl,_,_,pl,nl,pn,nm,rfl,hp,hn,.names ns h2 h3,_,rfl,trivial,?_⟩⟩;exact⟨oW rfl,oW rfl,Xa⟩
 | shut x ns=>obtain⟨h1,h2,h3⟩:=ok;refine⟨_,rfl,_,rfl,?_⟩;refine⟨rfl,_,_,pl,nl,pn,nm,rfl,hp,hn,.name x h1,_,rfl,trivial,⟨rfl,_,_,pl,nl,pn,nm,rfl,hp,hn,.mF ns h2 h3,_,rfl,trivial,?_⟩⟩;exact⟨oW rfl,oW rfl,Xa⟩
 | always x y=>obtain⟨h1,h2,h3⟩:=ok;refine⟨_,rfl,_,rfl,?_⟩;refine⟨rfl,_,_,pl,nl,pn,nm,rfl,hp,hn,.name x h1,_,rfl,trivial,⟨rfl,_,_,pl,nl,pn,nm,rfl,hp,hn,.name y h2,_,rfl,trivial,?_⟩⟩;refine⟨oW rfl,⟨_,by rw[ne h3],?_⟩⟩;exact⟨oW rfl,Xa⟩
 | night x y f l=>obtain⟨h1,h2,h3,h4,h5,h6⟩:=ok;refine⟨_,rfl,_,rfl,?_⟩;refine⟨rfl,_,_,pl,nl,pn,nm,rfl,hp,hn,.name x h1,_,rfl,trivial,⟨rfl,_,_,pl,nl,pn,nm,rfl,hp,hn,.name y h2,_,rfl,trivial,⟨rfl,_,_,pl,nl,pn,nm,rfl,hp,hn,.hour f h4.1 h4.2,_,rfl,trivial,⟨rfl,_,_,pl,nl,pn,nm,rfl,hp,hn,.hour l h5.1 h5.2,_,rfl,trivial,?_⟩⟩⟩⟩;refine⟨oW rfl,⟨_,by rw[ne h3],?_⟩⟩;refine⟨oW rfl,⟨_,by rw[nei h6],?_⟩⟩;exact Xa
 | busy x y=>obtain⟨h1,h2,h3⟩:=ok;refine⟨_,rfl,_,rfl,?_⟩;refine⟨rfl,_,_,pl,nl,pn,nm,rfl,hp,hn,.name x h1,_,rfl,trivial,⟨rfl,_,_,pl,nl,pn,nm,rfl,hp,hn,.name y h2,_,rfl,trivial,?_⟩⟩;refine⟨oW rfl,⟨_,by rw[ne h3],?_⟩⟩;exact⟨oW rfl,Xa⟩
 | silent x y n=>obtain⟨h1,h2,h3,h4,h5⟩:=ok;refine⟨_,rfl,_,rfl,?_⟩;refine⟨rfl,_,_,pl,nl,pn,nm,rfl,hp,hn,.name x h1,_,rfl,trivial,⟨rfl,_,_,pl,nl,pn,nm,rfl,hp,hn,.name y h2,_,rfl,trivial,⟨rfl,_,_,pl,nl,pn,nm,rfl,hp,hn,.turns n h4 h5,_,rfl,trivial,?_⟩⟩⟩;refine⟨oW rfl,⟨_,by rw[ne h3],?_⟩⟩;exact⟨oW rfl,Xa⟩
 | wait x=>refine⟨_,rfl,_,rfl,?_⟩;refine⟨rfl,_,_,pl,nl,pn,nm,rfl,hp,hn,.mV x ok,_,rfl,trivial,?_⟩;exact⟨oW rfl,oW rfl,Xa⟩
 | breaks x=>refine⟨_,rfl,_,rfl,?_⟩;refine⟨rfl,_,_,pl,nl,pn,nm,rfl,hp,hn,.mV x ok,_,rfl,trivial,?_⟩;exact⟨oW rfl,oW rfl,Xa⟩
def AR:Fq P w K mg base 5 a.bl AB:=by
 refine fq G.bl.toDG uI (λr u=>⟨_,(oY (pJ (pE (sL G) r G.m (rN (qc u (pO qv rfl G.g ql (qb v0)) (sE rfl G.cM)) pj)))
 (o9 (uM fu rfl (qF v0) (vI (n:=2) rfl (qK (sH 3 uI) (qK (sH 4 uI) uD)))
 (o9 (pJ (pE (C6 G) r G.bk (qX v4 U1 U2))))))),?_⟩)
 rintro ds M Q ⟨r,ws,pl,nl,pn,nm,rfl,XO,hp,hn,h16,mM,q⟩
 have el:((ws.map uT).length:Int)=ws.length:=by rw[cS]
 refine i' XO ⟨_,by rw[dS (show((ws.map uT).length:Int)<=16 by omega)],i' XO ?_⟩;refine Bh (λU M'=>M=M'/\∃x y,U=[some (.ref r),some (.ref pl),some (.ref nl),x,y]) (λU M' j=>by rw[<-j.1];exact XO) _ _ _ ⟨rfl,none,none,rfl⟩ ?_ ?_
 .rintro d hd U M' ⟨rfl,x,y,rfl⟩ nx Xj
  obtain⟨v,hv,rfl⟩:=dB.mp hd;exact⟨rfl,⟨v.2,pl,nl,pn,nm,rfl,hp,hn,mM v hv,Xj _ _ ⟨rfl,_,_,rfl⟩⟩⟩
 .rintro U M' ⟨rfl,x,y,rfl⟩
  exact⟨M,.refl,q⟩
structure pC where
 mF:List uz
 groups:List uk
 mD:List vh
noncomputable def pC.pn(l:pC):QQQ:=l.mF.map (·.1)
noncomputable def pC.gn(l:pC):QQQ:=l.groups.map (·.1)
noncomputable def pC.nm(l:pC):QQQ:=l.pn++l.gn
structure qV(l:pC):Prop where
 p1:1<=l.mF.length
 p8:l.mF.length<=8
 po:∀p∈l.mF,Fj p
 g3:l.groups.length<=3
 go:∀g∈l.groups,Ew l.pn g
 nd:l.nm.Nodup
 w16:l.mD.length<=16
 wo:∀w∈l.mD,Bv l.pn l.nm w.2
def DE{ss:QQQ}(h:ss.Nodup):wq ss=true:=by unfold wq;rw[Ik ss h];simp
def Do:qY:=λds M Q=>Bg λr1 r2 r3 (l:pC)=>ds=[.ref r1,.ref r2,.ref r3]/\oR M r1=some (l.mF.map qD)/\oR M r2=some (l.groups.map qL)/\oR M r3=some (l.mD.map uT)/\qV l/\Q .mG M
noncomputable def Dg:D->D
 | .tup (x::_)=>x
 | _=>.mG
def yq(ps:List uz):(ps.map qD).map Dg=(ps.map (·.1)).map D.str:=by rw[dX,dX];rfl
def yQ(ps:List uk):(ps.map qL).map Dg=(ps.map (·.1)).map D.str:=by rw[dX,dX];rfl
def Dt:Fq P w K mg base 6 a.bm Do:=by
 refine fq G.bm.toDG vK (λr u=>⟨_,(oY (pJ (pE (AS G) r G.bh (qb v0)))
 (oY (wz (i:=3) vK.nd rfl (Or.inl rfl) rfl (yg (ix:=[none]) (N':=["phone"])) (qF v0) (qz 0) rQ (pI v0 pb))
 (oY (pJ (pE (AQ G) r G.bi (rN U1 U3)))
 (oY (pH 4 vK (pS U3 (qB rfl (yg (ix:=[none]) (N':=["group"])) (qF U1) (qz 0) rQ (pI v0 pb))))
 (oY (pJ (pE (sL G) r G.m (rN (pE (Ea G) r G.ag (qb v4)) pj)))
 (o9 (pJ (pE (AR G) r G.bl (qX U2 U3 v4))))))))),?_⟩)
 rintro ds M Q ⟨r1,r2,r3,l,rfl,h1,h2,h3,ok,q⟩
 have hz:=dH;have l1:=ok.p8;have l2:=ok.g3;refine⟨r1,l.mF,rfl,h1,ok.p1,ok.p8,ok.po,i' h1 ?_⟩;refine rh (f:=Dg) h1 _ [] _ (by rw[cS];simp only[dM];omega) (λd hd k hk=>?_) λp hp=>?_
 .obtain⟨x,_,rfl⟩:=dB.mp hd;exact hk
 rw[dY,yq];have s1:=qp.new (c:=.lst ((l.mF.map (·.1)).map D.str)) hp;have lp:oR (pB M p (.lst ((l.mF.map (·.1)).map D.str))) p=some (l.pn.map D.str):=pA;generalize pB M p (.lst ((l.mF.map (·.1)).map D.str))=M1 at s1 lp ⊢;refine⟨r2,l.groups,p,l.pn,rfl,s1.lst h2,lp,ok.g3,ok.go,?_⟩;refine i' (s1.lst h2) (rh (f:=Dg) (s1.lst h2) _ [] _ (by rw[cS];simp only[dM];omega) (λd hd k hk=>?_) λp2 Xf=>?_)
 .obtain⟨x,_,rfl⟩:=dB.mp hd;exact hk
 rw[dY,yQ];have s2:=qp.new (c:=.lst ((l.groups.map (·.1)).map D.str)) Xf;refine i' (s2.lst lp) (i' pA ⟨?_,λp3 hp3=>?_⟩)
 .rw[cS,cS,cS];show(l.mF.map (·.1)).length+_<=_;rw[cS];omega
 have en:l.pn.map D.str++(l.groups.map (·.1)).map D.str=l.nm.map D.str:=by unfold pC.nm;rw[dP];rfl
 rw[en];have s3:=s2.trans (qp.new (c:=.lst (l.nm.map D.str)) hp3);have l3:=@pA (pB M1 p2 (.lst ((l.groups.map (·.1)).map D.str))) p3 (l.nm.map D.str);generalize pB (pB M1 p2 (.lst ((l.groups.map (·.1)).map D.str))) p3 (.lst (l.nm.map D.str))=M3 at s3 l3 ⊢;have ln:l.nm.length<4000:=by unfold pC.nm pC.pn pC.gn;rw[cW,cS,cS];omega
 refine⟨_,l.nm,rfl,.inr ⟨p3,rfl,l3⟩,ln,_,by rw[DE ok.nd],?_⟩;exact⟨r3,l.mD,p,p3,l.pn,l.nm,rfl,s3.lst (s1.lst h3),s3.lst lp,l3,ok.w16,ok.wo,M,s1.trans s3,q⟩
noncomputable def QK(ph gr ws on pr gd:Addr):T0 (Str×D):=[("phones",.ref ph),("groups",.ref gr),("wishes",.ref ws),("on",.ref on),("phone_rows",.ref pr),("group_rows",.ref gd)]
noncomputable def SK(l:pC):T0 (qS×D):=l.mF.map λp=>(Sum.inr p.1,qD p)
noncomputable def Ht(l:pC):T0 (qS×D):=l.groups.map λg=>(Sum.inr g.1,qL g)
def sC(a:Ad)(M:Mp)(rs:QXQ)(ws:List vh):Prop:=rs.length=ws.length/\∀(i:Nat) (r:Addr) (v:vh),rs[i]?=some r->ws[i]?=some v->M r=some (.ins (v.2.cls a) v.2.nE)
def se(a:Ad)(M:Mp)(p:Addr)(l:pC):Prop:=To λph gr ws on pr gd (rs:QXQ)=>M p=some (.ins a.h (QK ph gr ws on pr gd))/\oR M ph=some (l.mF.map qD)/\oR M gr=some (l.groups.map qL)/\
 oR M ws=some (rs.map D.ref)/\oR M on=some (l.mD.map λw=>D.bl w.1)/\zd M pr=some (SK l)/\zd M gd=some (Ht l)/\sC a M rs l.mD
def sC.keep{p:Addr}(h:sC a M rs ws)(k:sd p M M')(n:∀r∈rs,r≠p):sC a M' rs ws:=⟨h.1,λi r v e1 e2=>k r _ (n r (fm e1)) (h.2 i r v e1 e2)⟩
def sC.sub(h:sC a M rs ws)(k:qp M M'):sC a M' rs ws:=⟨h.1,λi r v e1 e2=>k r _ (h.2 i r v e1 e2)⟩
def se.sub{p:Addr}(h:se a M p l)(s:qp M M'):se a M' p l:=by obtain⟨ph,gr,ws,on,pr,gd,rs,h1,h2,h3,h4,h5,h6,h7,h8⟩:=h;exact⟨ph,gr,ws,on,pr,gd,rs,s _ _ h1,s.lst h2,s.lst h3,s.lst h4,s.lst h5,s.dk h6,s.dk h7,h8.sub s⟩
def Qr(a:Ad):qY:=λds M Q=>F0 λp r1 r2 r3 (l:pC)=>ds=[.ref p,.ref r1,.ref r2,.ref r3]/\M p=some (.ins a.h [])/\oR M r1=some (l.mF.map qD)/\oR M r2=some (l.groups.map qL)/\oR M r3=some (l.mD.map uT)/\qV l/\
 ∀M',sd p M M'->se a M' p l->(∀W9,(∀b c,(b=p\/M b=none)->M' b=some c->W9 b=some c)->se a W9 p l)->Q .mG M'
def rA{p x:Addr}{c:uK}(k:sd p M N)(hp:N p=some c)(h:N x=none):M x=none:=by
 cases e:M x with
 | none=>rfl
 | some d=>
  have n:x≠p:=λz=>by rw[z,hp]at h;cases h
  rw[k x d n e]at h;cases h
def xX{a:Addr}{es:T0 (qS×D)}(h:zd M a=some es):M a=some (.dk es):=by
 unfold zd at h;split at h
 .rename_i e;rw[e];cases h;rfl
 .cases h
theorem wQ{α:Type}(f:α->Str)(g:α->D):∀l:List α,wH (l.map λx=>D.tup [.str (f x),g x])=some (l.map λx=>(Sum.inr (f x),g x))
 | []=>rfl
 | x::r=>by show(wH (r.map λx=>D.tup [.str (f x),g x])).map ((Sum.inr (f x),g x)::·)=_;rw[wQ f g r];rfl
def Kg{ss:QQQ}(h:ss.Nodup):(ss.map λx=>(Sum.inr x:qS)).Nodup:=by
 induction ss with
 | nil=>exact eG
 | cons x r ih=>obtain⟨h1,h2⟩:=dO.mp h;rw[dR];refine dO.mpr ⟨λz=>h1 ?_,ih h2⟩;obtain⟨y,hy,e⟩:=dB.mp z;cases e;exact hy
def yE{α:Type}{f:α->Str}{g:α->D}{l:List α}(h:(l.map f).Nodup):((l.map λx=>((Sum.inr (f x):qS),g x)).map (·.1)).Nodup:=by rw[dX];have:=Kg h;rw[dX]at this;exact this
noncomputable def Bl(d:D):D:=.tup [Dg d,d]
noncomputable def WJ:D->D
 | .tup (x::_)=>x
 | _=>.mG
def RN(ws:List vh):(ws.map uT).map WJ=ws.map λw=>D.bl w.1:=by rw[dX];rfl
def Gw(ps:List uz):(ps.map qD).map Bl=ps.map λp=>D.tup [.str p.1,qD p]:=by rw[dX];rfl
def Ha(ps:List uk):(ps.map qL).map Bl=ps.map λp=>D.tup [.str p.1,qL p]:=by rw[dX];rfl
def sC.snoc{r:Addr}{v:vh}(h:sC a M rs ws)(n:M r=none):sC a (pB M r (.ins (v.2.cls a) v.2.nE)) (rs++[r]) (ws++[v]):=by
 refine⟨by rw[cW,cW,h.1];rfl,λi r' v' e1 e2=>?_⟩;by_cases hi:i<rs.length
 .rw[eZ hi]at e1;rw[eZ (by rw[<-h.1];exact hi)]at e2;have:=h.2 i r' v' e1 e2;rw[tW (Tp this n)];exact this
 .have YJ:i=rs.length:=by have:=(cU.mp e1).1;rw[cW,dN]at this;omega
  subst YJ;rw[eR (dg _)]at e1;rw[h.1,eR (dg _)]at e2;simp only[g9,iB,jp]at e1 e2;subst e1 e2;exact pL
def PC:Fq P w K mg base 7 a.al (Qr a):=by
 refine fq G.al.toDG ER (λr u=>⟨_,(oY (pJ (pE (Dt G) r G.bm (qX U1 U2 U3)))
 (oY (pY v0 (pT su rfl G.r sj (qb U1)))
 (oY (pY v0 (pT su rfl G.r sj (qb U2)))
 (oY (pY v0 (qB rfl (yg (ix:=[none,none]) (N':=["on","wish"])) (qF U3) (vI (n:=2) rfl (qK (qz 0) (qK (qz 1) uD))) rQ (pE (HX G) r G.bg (qb U1))))
 (oY (pY v0 (qB rfl (yg (ix:=[none,none]) (N':=["on","wish"])) (qF U3) (vI (n:=2) rfl (qK (qz 0) (qK (qz 1) uD))) rQ v0))
 (oY (pY v0 (pT (EB rfl) rfl G.bT Fb (qb (qB rfl (yg (ix:=[none]) (N':=["phone"])) (qF U1) (qz 0) rQ (pK (rN (pI v0 pb) v0))))))
 (o9 (pY v0 (pT (EB rfl) rfl G.bT Fb (qb (qB rfl (yg (ix:=[none]) (N':=["group"])) (qF U2) (qz 0) rQ (pK (rN (pI v0 pb) v0))))))))))))),?_⟩)
 rintro ds M Q ⟨p,r1,r2,r3,l,rfl,hp,h1,h2,h3,ok,q⟩
 have hz:=dH;have l1:=ok.p8;have l2:=ok.g3;have l3:=ok.w16;refine⟨r1,r2,r3,l,rfl,h1,h2,h3,ok,?_⟩;refine i' h1 λph hph=>?_;obtain⟨n1,e1,k1,c1,p1⟩:=sX (fs':=[("phones",.ref ph)]) (c:=.lst (l.mF.map qD)) hp hph;refine oZ e1 ⟨(G.Z "phones" rfl),by show 0<1000;decide,?_⟩;show uq _ _ _ _ (pB (pB M ph (.lst (l.mF.map qD))) p (.ins a.h [("phones",.ref ph)]));generalize pB (pB M ph (.lst (l.mF.map qD))) p (.ins a.h [("phones",.ref ph)])=N1 at k1 c1 p1 ⊢;have XN:=k1.lst (pP h1 hp) h1;have h2':=k1.lst (pP h2 hp) h2;have ZD:=k1.lst (pP h3 hp) h3;have f1:oR N1 ph=some (l.mF.map qD):=rM c1;refine i' h2' λgr hgr=>?_;obtain⟨n2,e2,k2,c2,p2⟩:=sX (fs':=[("phones",.ref ph),("groups",.ref gr)]) (c:=.lst (l.groups.map qL)) p1 hgr;refine oZ e2 ⟨(G.Z "groups" rfl),by show 1<1000;decide,?_⟩;show uq _ _ _ _ (pB (pB N1 gr (.lst (l.groups.map qL))) p (.ins a.h [("phones",.ref ph),("groups",.ref gr)]));generalize pB (pB N1 gr (.lst (l.groups.map qL))) p (.ins a.h [("phones",.ref ph),("groups",.ref gr)])=N2 at k2 c2 p2 ⊢;have g1:=k2.lst (pP XN p1) XN;have g2:=k2.lst (pP h2' p1) h2';have g3:=k2.lst (pP ZD p1) ZD;have f2:=k2.lst (pP f1 p1) f1;have f3:oR N2 gr=some (l.groups.map qL):=rM c2;have kk2:=k1.trans k2;have m2:M gr=none:=rA k1 p1 hgr;clear XN h2' ZD f1 c1 c2 k1 k2 e1 e2;refine i' g3 ?_;refine Bp (l.mD.map uT) (λpre acc U Mx=>(∃x y,U=[x,y])/\qp N2 Mx/\∃rs:QXQ,acc=rs.map D.ref/\(∀r∈rs,N2 r=none)/\sC a Mx rs (l.mD.take pre.length)) (λpre acc U Mx j=>j.2.1.lst g3) _ [] [] _ _ rfl (by rw[cS];simp only[dM];omega) ⟨⟨none,none,rfl⟩,.refl,[],rfl,λr hr=>absurd hr (dD),rfl,λi r v e=>by simp at e⟩ ?_ ?_
 .rintro pre d post e acc U Mx ⟨⟨x,y,rfl⟩,sx,rs,rfl,fr,wa⟩ k hk
  obtain⟨v,hv,rfl⟩:∃v,l.mD[pre.length]?=some v/\d=uT v:=by
   have:(l.mD.map uT)[pre.length]?=some d:=by rw[<-e];simp
   rw[dz]at this;cases z:l.mD[pre.length]? with
   | none=>rw[z]at this;cases this
   | some v=>rw[z]at this;exact⟨v,rfl,(df this).symm⟩
  refine⟨rfl,⟨v.2,rfl,λr hr=>hk _ _ _ ⟨⟨_,_,rfl⟩,sx.trans (.new hr),rs++[r],?_,λr' hr'=>?_,?_⟩⟩⟩
  .rw[dP];rfl
  .rcases dU.mp hr' with z|z
   .exact fr r' z
   .rw[dv.mp z];exact sx.none hr
  .rw[cW,dN,gU,hv];exact wa.snoc hr
 rintro acc U Mx ⟨⟨x,y,rfl⟩,sx,rs,rfl,fr,wa⟩ ws hws
 have wa:sC a Mx rs l.mD:=by rw[cS,fE]at wa;exact wa
 obtain⟨n3,e3,k3,c3,p3⟩:=sX (fs':=[("phones",.ref ph),("groups",.ref gr),("wishes",.ref ws)]) (c:=.lst (rs.map D.ref)) (sx _ _ p2) hws;refine oZ e3 ⟨(G.Z "wishes" rfl),by show 2<1000;decide,?_⟩;show uq _ _ _ _ (pB (pB Mx ws (.lst (rs.map D.ref))) p (.ins a.h [("phones",.ref ph),("groups",.ref gr),("wishes",.ref ws)]));generalize pB (pB Mx ws (.lst (rs.map D.ref))) p (.ins a.h [("phones",.ref ph),("groups",.ref gr),("wishes",.ref ws)])=N3 at k3 c3 p3 ⊢;have px:=sx _ _ p2;have i1:=k3.lst (pP (sx.lst g1) px) (sx.lst g1);have i2:=k3.lst (pP (sx.lst g2) px) (sx.lst g2);have i3:=k3.lst (pP (sx.lst g3) px) (sx.lst g3);have f4:=k3.lst (pP (sx.lst f2) px) (sx.lst f2);have f5:=k3.lst (pP (sx.lst f3) px) (sx.lst f3);have f6:oR N3 ws=some (rs.map D.ref):=rM c3;have rp:∀r∈rs,r≠p:=λr hr z=>by have:=fr r hr;rw[z,p2]at this;cases this
 have w3:=wa.keep k3 rp;have kk3:=(kk2.trans sx.keep).trans k3;have m3:M ws=none:=rA (kk2.trans sx.keep) px hws;have mr:∀r∈rs,M r=none:=λr hr=>rA kk2 p2 (fr r hr);clear g1 g2 g3 f2 f3 c3 k3 e3 wa px kk2;refine i' i3 (BS (f:=WJ) (λU=>∃x y,U=[x,y]) i3 _ [] _ ⟨none,none,rfl⟩ (by rw[cS];simp only[dM];omega) (λd hd U hj k hk=>?_) λon hon=>?_)
 .obtain⟨x,y,rfl⟩:=hj;obtain⟨v,_,rfl⟩:=dB.mp hd;exact⟨rfl,hk _ ⟨_,_,rfl⟩⟩
 rw[dY,RN];obtain⟨n4,e4,k4,c4,p4⟩:=sX (fs':=[("phones",.ref ph),("groups",.ref gr),("wishes",.ref ws),("on",.ref on)]) (c:=.lst (l.mD.map λw=>D.bl w.1)) p3 hon;refine oZ e4 ⟨(G.Z "on" rfl),by show 3<1000;decide,?_⟩;show uq _ _ _ _ (pB (pB N3 on (.lst (l.mD.map λw=>D.bl w.1))) p (.ins a.h [("phones",.ref ph),("groups",.ref gr),("wishes",.ref ws),("on",.ref on)]));generalize pB (pB N3 on (.lst (l.mD.map λw=>D.bl w.1))) p (.ins a.h [("phones",.ref ph),("groups",.ref gr),("wishes",.ref ws),("on",.ref on)])=N4 at k4 c4 p4 ⊢;have j1:=k4.lst (pP i1 p3) i1;have j2:=k4.lst (pP i2 p3) i2;have f7:=k4.lst (pP f4 p3) f4;have f8:=k4.lst (pP f5 p3) f5;have f9:=k4.lst (pP f6 p3) f6;have fa:oR N4 on=some (l.mD.map λw=>D.bl w.1):=rM c4;have w4:=w3.keep k4 rp;have Y8:=kk3.trans k4;have m4:M on=none:=rA kk3 p3 hon;clear i1 i2 i3 f4 f5 f6 c4 k4 e4 w3 kk3;refine i' j1 (rh (f:=Bl) j1 _ [] _ (by rw[cS];simp only[dM];omega) (λd hd k hk=>?_) λq1 XG=>?_)
 .obtain⟨v,_,rfl⟩:=dB.mp hd;exact⟨oW rfl,hk⟩
 rw[dY,Gw];have ZE:=qp.new (c:=.lst (l.mF.map λp=>D.tup [.str p.1,qD p])) XG;refine i' pA (i' (wQ (λp:uz=>p.1) qD l.mF) ⟨yE (iw (List.sublist_append_left _ _) ok.nd),λpr hpr=>?_⟩);obtain⟨n5,e5,k5,c5,p5⟩:=sX (fs':=[("phones",.ref ph),("groups",.ref gr),("wishes",.ref ws),("on",.ref on),("phone_rows",.ref pr)]) (c:=.dk (l.mF.map λx=>(Sum.inr x.1,qD x))) (ZE _ _ p4) hpr;refine oZ e5 ⟨(G.Z "phone_rows" rfl),by show 4<1000;decide,?_⟩;have k5:=ZE.keep.trans k5;have YZ:vJ "phone_rows" (.ref pr) [("phones",.ref ph),("groups",.ref gr),("wishes",.ref ws),("on",.ref on)]=([("phones",.ref ph),("groups",.ref gr),("wishes",.ref ws),("on",.ref on),("phone_rows",.ref pr)]:T0 (Str×D)):=rfl;rw[YZ];generalize pB (pB (pB N4 q1 (.lst (l.mF.map λp=>D.tup [.str p.1,qD p]))) pr (.dk (l.mF.map λx=>(Sum.inr x.1,qD x)))) p (.ins a.h [("phones",.ref ph),("groups",.ref gr),("wishes",.ref ws),("on",.ref on),("phone_rows",.ref pr)])=N5 at k5 c5 p5 ⊢;have mm:=k5.lst (pP j2 p4) j2;have fb:=k5.lst (pP f7 p4) f7;have fc:=k5.lst (pP f8 p4) f8;have fd:=k5.lst (pP f9 p4) f9;have fe:=k5.lst (pP fa p4) fa;have ff:zd N5 pr=some (SK l):=Ck c5;have w5:=w4.keep k5 rp;have Y9:=Y8.trans k5;have m5:M pr=none:=rA (Y8.trans ZE.keep) (ZE _ _ p4) hpr;clear j1 j2 f7 f8 f9 fa c5 k5 e5 w4 Y8;refine i' mm (rh (f:=Bl) mm _ [] _ (by rw[cS];simp only[dM];omega) (λd hd k hk=>?_) λq2 Yq=>?_)
 .obtain⟨v,_,rfl⟩:=dB.mp hd;exact⟨oW rfl,hk⟩
 rw[dY,Ha];have sq2:=qp.new (c:=.lst (l.groups.map λg=>D.tup [.str g.1,qL g])) Yq;refine i' pA (i' (wQ (λp:uk=>p.1) qL l.groups) ⟨yE (iw (ju _ _) ok.nd),λgd hgd=>?_⟩);obtain⟨n6,e6,k6,c6,p6⟩:=sX (fs':=QK ph gr ws on pr gd) (c:=.dk (Ht l)) (sq2 _ _ p5) hgd;have k6:=sq2.keep.trans k6;refine oZ e6 ⟨(G.Z "group_rows" rfl),by show 5<1000;decide,_,.refl,?_⟩;have m6:M gd=none:=rA (Y9.trans sq2.keep) (sq2 _ _ p5) hgd;have w6:=w5.keep k6 rp;have y1:=k6.lst (pP fb p5) fb;have y2:=k6.lst (pP fc p5) fc;have y3:=k6.lst (pP fd p5) fd;have y4:=k6.lst (pP fe p5) fe;have y5:=k6.dk (CA ff p5) ff;refine q _ (Y9.trans k6) ⟨ph,gr,ws,on,pr,gd,rs,p6,y1,y2,y3,y4,y5,Ck c6,w6⟩ λW9 hs=>?_;exact⟨ph,gr,ws,on,pr,gd,rs,hs _ _ (.inl rfl) p6,rM (hs _ _ (.inr hph) (pU y1)),rM (hs _ _ (.inr m2) (pU y2)),rM (hs _ _ (.inr m3) (pU y3)),rM (hs _ _ (.inr m4) (pU y4)),Ck (hs _ _ (.inr m5) (xX y5)),Ck (hs _ _ (.inr m6) c6),w6.1,λi r v e1 e2=>hs _ _ (.inr (mr r (fm e1))) (w6.2 i r v e1 e2)⟩
theorem xQ{α:Type}(f:α->Str)(g:α->D)(k:Str):∀l:List α,vn (l.map λx=>((Sum.inr (f x):qS),g x)) (Sum.inr k)=(l.find? λx=>decide (f x=k)).map g
 | []=>rfl
 | x::r=>by
  have ih:=xQ f g k r;unfold vn at ih ⊢;rw[dR,fH,fH];by_cases h:f x=k
  .have h':decide ((Sum.inr (f x):qS)=Sum.inr k)=true:=dS (by rw[h]);simp[h]
  .have h':¬(Sum.inr (f x):qS)=Sum.inr k:=λz=>h (jV z);simp only[h,h',decide_false];exact ih
noncomputable def pC.mV(l:pC)(x:Str):Option uz:=l.mF.find? λp=>decide (p.1=x)
noncomputable def pC.group(l:pC)(x:Str):Option uk:=l.groups.find? λg=>decide (g.1=x)
noncomputable def pC.mC(l:pC)(x:Str):QQQ:=(l.group x).elim [x] λg=>g.2.2
noncomputable def pC.mK(l:pC)(x:Str):Str:=(l.group x).elim "one" λg=>g.2.1
def Gd(l:pC)(x:Str):vn (SK l) (Sum.inr x)=(l.mV x).map qD:=xQ (λp:uz=>p.1) qD x l.mF
def vX(l:pC)(x:Str):vn (Ht l) (Sum.inr x)=(l.group x).map qL:=xQ (λp:uk=>p.1) qL x l.groups
def yL(a:Ad):qY:=λds M Q=>A8 λp (l:pC)=>ds=[.ref p]/\se a M p l/\l.mF.length<=100/\∀q,M q=none->Q (.ref q) (pB M q (.lst (l.pn.map D.str)))
def Fi(a:Ad):qY:=λds M Q=>A8 λp (l:pC)=>ds=[.ref p]/\se a M p l/\l.mF.length<=100/\l.groups.length<=100/\∀q,M q=none->Q (.ref q) (pB M q (.lst (l.nm.map D.str)))
def Fp(a:Ad):qY:=λds M Q=>Bg λp x v (l:pC)=>ds=[.ref p,.str x]/\se a M p l/\l.mV x=some v/\Q (.int v.2.1) M
def GM(a:Ad):qY:=λds M Q=>Bg λp x v (l:pC)=>ds=[.ref p,.str x]/\se a M p l/\l.mV x=some v/\Q (.int v.2.2) M
def Ab(a:Ad):qY:=λds M Q=>C8 λp x (l:pC)=>ds=[.ref p,.str x]/\se a M p l/\∀q,M q=none->Q (.ref q) (pB M q (.lst ((l.mC x).map D.str)))
def C1(a:Ad):qY:=λds M Q=>C8 λp x (l:pC)=>ds=[.ref p,.str x]/\se a M p l/\Q (.str (l.mK x)) M
def sy:Fq P w K mg base 1 a.L (yL a):=by
 refine fq G.L.toDG yb (λr u=>⟨_,(o9 (pz (qB rfl (yg (ix:=[none]) (N':=["phone"])) (qF (pq v0)) (qz 0) rQ (pI v0 pb)))),?_⟩)
 rintro ds M Q ⟨p,l,rfl,hp,hl,q⟩
 have hz:=dH;obtain⟨ph,gr,ws,on,pr,gd,rs,h1,h2,h3,h4,h5,h6,h7,h8⟩:=hp;refine oZ h1 (i' rfl (i' h2 ?_));refine rh (f:=Dg) h2 _ [] _ (by rw[cS];simp only[dM];omega) (λd hd k hk=>?_) λq1 XG=>?_
 .obtain⟨x,_,rfl⟩:=dB.mp hd;exact hk
 rw[dY,yq];exact⟨_,.refl,q q1 XG⟩
def yi:Fq P w K mg base 2 a.am (Fi a):=by
 refine fq G.am.toDG Di (λr u=>⟨_,(o9 (pz (pS (vD v0 G.h.toCls G.L (sy G) r) (qB rfl (yg (ix:=[none]) (N':=["group"])) (qF (pq v0)) (qz 0) rQ (pI v0 pb))))),?_⟩)
 rintro ds M Q ⟨p,l,rfl,hp,hl,Z1,q⟩
 have hz:=dH;have Xl:=hp;obtain⟨ph,gr,ws,on,pr,gd,rs,h1,h2,h3,h4,h5,h6,h7,h8⟩:=hp;refine oZ h1 ⟨rfl,_,⟨rfl,rfl⟩,p,l,rfl,Xl,hl,λq1 XG=>?_⟩;have s1:=qp.new (c:=.lst (l.pn.map D.str)) XG;have e1:=@pA M q1 (l.pn.map D.str);generalize pB M q1 (.lst (l.pn.map D.str))=M1 at s1 e1 ⊢;have ZD:=s1.lst h3;refine oZ (s1 _ _ h1) (i' rfl (i' ZD ?_));refine rh (f:=Dg) ZD _ [] _ (by rw[cS];simp only[dM];omega) (λd hd k hk=>?_) λq2 Yq=>?_
 .obtain⟨x,_,rfl⟩:=dB.mp hd;exact hk
 rw[dY,yQ];have s2:=qp.new (c:=.lst ((l.groups.map (·.1)).map D.str)) Yq;refine i' (s2.lst e1) (i' pA ⟨?_,λq3 hq3=>?_⟩)
 .rw[cS,cS,cS];show(l.mF.map (·.1)).length+_<=_;rw[cS];omega
 have en:l.pn.map D.str++(l.groups.map (·.1)).map D.str=l.nm.map D.str:=by unfold pC.nm;rw[dP];rfl
 rw[en];exact⟨_,(s1.trans s2).upd,q q3 ((s1.trans s2).none hq3)⟩
def Dh:Fq P w K mg base 1 a.bF (Fp a):=by
 refine fq G.bF.toDG Dj (λr u=>⟨_,(o9 (pz (pI (zp u (pq v0) U1) pb))),?_⟩)
 rintro ds M Q ⟨p,x,v,l,rfl,hp,hv,q⟩
 obtain⟨ph,gr,ws,on,pr,gd,rs,h1,h2,h3,h4,h5,h6,h7,h8⟩:=hp;exact oZ h1 (i' rfl (i' rfl (i' h6 (i' (x:=qD v) (by rw[Gd,hv];rfl) ⟨M,.refl,q⟩))))
def yZ:Fq P w K mg base 1 a.aO (GM a):=by
 refine fq G.aO.toDG ET (λr u=>⟨_,(o9 (pz (pI (zp u (pq v0) U1) pb))),?_⟩)
 rintro ds M Q ⟨p,x,v,l,rfl,hp,hv,q⟩
 obtain⟨ph,gr,ws,on,pr,gd,rs,h1,h2,h3,h4,h5,h6,h7,h8⟩:=hp;exact oZ h1 (i' rfl (i' rfl (i' h6 (i' (x:=qD v) (by rw[Gd,hv];rfl) ⟨M,.refl,q⟩))))
def uj:Fq P w K mg base 1 a.X (Ab a):=by
 refine fq G.X.toDG zF (λr u=>⟨_,(oY (pN (NJ u U1 (pq v0))
 (o9 (pz (pT su rfl G.r sj (qb (pI (zp u (pq v0) U1) pb)))))
 pF)
 (o9 (pz (qT (qb U1))))),?_⟩)
 rintro ds M Q ⟨p,x,l,rfl,hp,q⟩
 obtain⟨ph,gr,ws,on,pr,gd,rs,h1,h2,h3,h4,h5,h6,h7,h8⟩:=hp;refine oZ h1 (i' rfl (i' h7 ?_));cases e:l.group x with
 | none=>refine K0 (c:=(vn (Ht l) (Sum.inr x)).isSome) (by rw[vX,e];rfl) ⟨oW rfl,λq1 XG=>⟨_,.refl,?_⟩⟩;have:=q q1 XG;unfold pC.mC at this;rw[e]at this;exact this
 | some g=>refine AF (c:=(vn (Ht l) (Sum.inr x)).isSome) (by rw[vX,e];rfl) (oZ h1 (i' rfl (i' rfl (i' h7 (i' (x:=qL g) (by rw[vX,e];rfl) λq1 XG=>⟨_,.refl,?_⟩)))));have:=q q1 XG;unfold pC.mC at this;rw[e]at this;exact this
def xl:Fq P w K mg base 1 a.aM (C1 a):=by
 refine fq G.aM.toDG CM (λr u=>⟨_,(oY (pN (NJ u U1 (pq v0))
 (o9 (pz (pI (zp u (pq v0) U1) pb)))
 pF)
 (o9 (pz pj))),?_⟩)
 rintro ds M Q ⟨p,x,l,rfl,hp,q⟩
 obtain⟨ph,gr,ws,on,pr,gd,rs,h1,h2,h3,h4,h5,h6,h7,h8⟩:=hp;refine oZ h1 (i' rfl (i' h7 ?_));cases e:l.group x with
 | none=>refine K0 (c:=(vn (Ht l) (Sum.inr x)).isSome) (by rw[vX,e];rfl) ⟨M,.refl,?_⟩;unfold pC.mK at q;rw[e]at q;exact q
 | some g=>refine AF (c:=(vn (Ht l) (Sum.inr x)).isSome) (by rw[vX,e];rfl) (oZ h1 (i' rfl (i' rfl (i' h7 (i' (x:=qL g) (by rw[vX,e];rfl) ⟨M,.refl,?_⟩)))));unfold pC.mK at q;rw[e]at q;exact q
noncomputable def Py:T0 Int:=[1,1,2,2,3]
noncomputable def Ot:T0 Int:=[0,1,1,2,5,9]
noncomputable def Oq:QQQ:=["all","turns"]
noncomputable def G6(t:T0 Int)(i:Int):Int:=t.getD i.toNat 0
noncomputable def vH(s:Int)(i:Nat):uz:=(xw s (0+(i:Nat)),G6 Py (qk (s+17*(0+(i:Nat))*(0+(i:Nat))) 16807 5),G6 Ot (qk (s+17*(0+(i:Nat))*(0+(i:Nat))) 39373 6))
noncomputable def rH(s m:Int):Nat:=(2+qk s 48271 (m - 1)).toNat
noncomputable def qm(s m:Int):List uz:=(List.range (rH s m)).map (vH s)
noncomputable def zT(s:Int)(own:QQQ)(i:Nat):uk:=(xw s (8+(0+(i:Nat))),CN Oq (qk (s+5*(0+(i:Nat))) 742938285 2),vC own (s+11*(0+(i:Nat))) 4)
noncomputable def vB(s:Int):Nat:=(qk s 69621 3).toNat
noncomputable def qQ(s:Int)(own:QQQ):List uk:=(List.range (vB s)).map (zT s own)
def He{ts:T0 Int}{i:Int}(h0:0<=i)(h1:i<ts.length):wj (ts.map D.int) i=some (D.int (G6 ts i)):=by
 obtain⟨n,rfl⟩:=eA h0;have YG:n<ts.length:=by omega
 refine uV ?_;rw[dz,cV YG];simp[G6,YG]
def Ct{pre post:T0 D}{d:D}(e:pre++d::post=(List.range n).map λi=>D.int (0+(i:Nat))):d=.int (0+(pre.length:Nat))/\pre.length<n:=by
 have h:((List.range n).map λi=>D.int (0+(i:Nat)))[pre.length]?=some d:=by rw[<-e];simp
 have hl:pre.length<n:=by
  have:=(cU.mp h).1
  simpa using this
 rw[dz,iY hl]at h;exact⟨(df h).symm,hl⟩
def CJ{α β:Type}(f:Nat->α)(g:α->β)(n:Nat):((List.range n).map f).map g++[g (f n)]=((List.range (n+1)).map f).map g:=by rw[iS,dP,dP];rfl
def Hs:qY:=λds M Q=>A8 λs m=>ds=[.int s,.int m]/\2<=m/\m<=100/\∀q,M q=none->Q (.ref q) (pB M q (.lst ((qm s m).map qD)))
def Ia:qY:=λds M Q=>C8 λs o own=>ds=[.int s,.ref o]/\oR M o=some (own.map D.str)/\own≠[]/\own.length<=64/\∀q,M q=none->Q (.ref q) (pB M q (.lst ((qQ s own).map qL)))
def yp{s m:Int}(h2:2<=m)(h:m<=100):rH s m<=100/\2<=rH s m:=by have d0:=qP (c:=s) (f:=48271) (m:=m - 1) (by omega);have d1:=qH (c:=s) (f:=48271) (m:=m - 1) (by omega);unfold rH;omega
def wM{s:Int}:vB s<=3:=by have d0:=qP (c:=s) (f:=69621) (m:=3) (by decide);have d1:=qH (c:=s) (f:=69621) (m:=3) (by decide);unfold vB;omega
def Il:Fq P w K mg base 2 a.bn Hs:=by
 refine fq G.bn.toDG uE (λr u=>⟨_,(oY (pH 2 uE (qT sV))
 (oY (uM fu rfl (vV rfl G.aa (qb (pS pb (pE (qy G) r G.i (qX v0 pb (pS U1 pb)))))) (sH 3 uE)
 (oY (pH 4 uE (pI (pK (pW pb (pW pb (qX pb pb pb)))) (pE (qy G) r G.i (qX (pS v0 (pS (pS pb U3) U3)) pb pb))))
 (o9 (pJ (rJ U2 (qb (pK (qX (pE (JL G) r G.ah (rN v0 U3)) v4 (pI (pK (pW pb (pW pb (pW pb (qX pb pb pb))))) (pE (qy G) r G.i (qX (pS v0 (pS (pS pb U3) U3)) pb pb)))))))))))
 (o9 (pz U2)))),?_⟩)
 rintro ds M Q ⟨s,m,rfl,h2,h100,q⟩
 have hz:=dH;have d0:=qP (c:=s) (f:=48271) (m:=m - 1) (by omega);have d1:=qH (c:=s) (f:=48271) (m:=m - 1) (by omega);have nl:=(yp (s:=s) h2 h100).1;refine⟨oW rfl,λr hr=>⟨s,_,_,rfl,by show 0<m - 1;omega,rfl,⟨?_,?_⟩,?_⟩⟩
 .show -(2 ^ 62)<=2+qk s 48271 (m - 1);omega
 .show 2+qk s 48271 (m - 1)<2 ^ 62;omega
 refine wG ((List.range (rH s m)).map λi=>D.int (0+(i:Nat))) (λpre U M'=>M'=pB M r (.lst (((List.range pre.length).map (vH s)).map qD))/\∃x y,U=[some (.int s),some (.int m),some (.ref r),x,y]) (λ_ _ _ _=>trivial) _ [] _ _ rfl ⟨rfl,none,none,rfl⟩ ?_ ?_
 .rintro pre d post e U M' ⟨rfl,x,y,rfl⟩ nx Xj
  obtain⟨rfl,Xg⟩:=Ct e;generalize hi:pre.length=i at Xg Xj ⊢;have cm:Dp (17*(0+(i:Int))) (0+(i:Int)):=.inr ⟨by omega,by omega⟩;have c17:Dp 17 (0+(i:Int)):=.inl ⟨by decide,by decide⟩;have t5:wj [D.int 1,.int 1,.int 2,.int 2,.int 3] (qk (s+17*(0+(i:Int))*(0+(i:Int))) 16807 5)=some (.int (vH s i).2.1):=He (ts:=Py) (qP (by decide)) (qH (by decide));have t6:wj [D.int 0,.int 1,.int 1,.int 2,.int 5,.int 9] (qk (s+17*(0+(i:Int))*(0+(i:Int))) 39373 6)=some (.int (vH s i).2.2):=He (ts:=Ot) (qP (by decide)) (qH (by decide));refine⟨oW rfl,c17,cm,_,_,_,rfl,by decide,i' t5 ?_⟩;refine⟨by show(oR _ r).isSome=true;rw[pA];rfl,s,_,rfl,oW rfl,c17,cm,_,_,_,rfl,by decide,i' t6 ⟨oW rfl,i' pA ⟨?_,?_⟩⟩⟩
  .rw[cS,cS,eB];omega
  .refine Xj _ _ ⟨?_,_,_,rfl⟩;rw[rB,cW,hi];show pB M r (.lst (_++[qD (vH s i)]))=_;rw[CJ];rfl
 .rintro U M' ⟨rfl,x,y,rfl⟩
  refine⟨_,.refl,?_⟩;rw[cS,eB];exact q r hr
def Ho:Fq P w K mg base 3 a.bo Ia:=by
 refine fq G.bo.toDG uC (λr u=>⟨_,(oY (pH 2 uC (qT sV))
 (oY (uM fu rfl (vV rfl G.aa (qb (pE (qy G) r G.i (qX v0 pb pb)))) (sH 3 uC)
 (oY (pH 4 uC (pI (pK (rN pj pj)) (pE (qy G) r G.i (qX (pS v0 (pS pb U3)) pb pb))))
 (o9 (pJ (rJ U2 (qb (pK (qX (pE (JL G) r G.ah (rN v0 (pS pb U3))) v4 (pE (xN G) r G.Q (qX U1 (pS v0 (pS pb U3)) pb))))))))))
 (o9 (pz U2)))),?_⟩)
 rintro ds M Q ⟨s,o,own,rfl,ho,Xt,h64,q⟩
 have hz:=dH;have d0:=qP (c:=s) (f:=69621) (m:=3) (by decide);have d1:=qH (c:=s) (f:=69621) (m:=3) (by decide);have nl:=wM (s:=s);refine⟨oW rfl,λr hr=>⟨s,_,_,rfl,by decide,rfl,⟨?_,?_⟩,?_⟩⟩
 .show -(2 ^ 62)<=qk s 69621 3;omega
 .show qk s 69621 3<2 ^ 62;omega
 have nor:o≠r:=λz=>by rw[z]at ho;unfold oR at ho;rw[hr]at ho;cases ho
 refine wG ((List.range (vB s)).map λi=>D.int (0+(i:Nat))) (λpre U M'=>M'=pB M r (.lst (((List.range pre.length).map (zT s own)).map qL))/\∃x y,U=[some (.int s),some (.ref o),some (.ref r),x,y]) (λ_ _ _ _=>trivial) _ [] _ _ rfl ⟨rfl,none,none,rfl⟩ ?_ ?_
 .rintro pre d post e U M' ⟨rfl,x,y,rfl⟩ nx Xj
  obtain⟨rfl,Xg⟩:=Ct e;generalize hi:pre.length=i at Xg Xj ⊢;have c5:Dp 5 (0+(i:Int)):=.inl ⟨by decide,by decide⟩;have c11:Dp 11 (0+(i:Int)):=.inl ⟨by decide,by decide⟩;have tm:wj [D.str "all",.str "turns"] (qk (s+5*(0+(i:Int))) 742938285 2)=some (.str (zT s own i).2.1):=Ic (row:=Oq) (qP (by decide)) (qH (by decide));have XJ:oR (pB M r (.lst (((List.range i).map (zT s own)).map qL))) o=some (own.map D.str):=by unfold oR;rw[tW nor];exact ho
  refine⟨oW rfl,c5,_,_,_,rfl,by decide,i' tm ?_⟩;refine⟨by show(oR _ r).isSome=true;rw[pA];rfl,s,_,rfl,c11,o,_,_,own,rfl,XJ,Xt,by decide,h64,oW rfl,i' pA ⟨?_,?_⟩⟩
  .rw[cS,cS,eB];omega
  .refine Xj _ _ ⟨?_,_,_,rfl⟩;rw[rB,cW,hi];show pB M r (.lst (_++[qL (zT s own i)]))=_;rw[CJ];rfl
 .rintro U M' ⟨rfl,x,y,rfl⟩
  refine⟨_,.refl,?_⟩;rw[cS,eB];exact q r hr
noncomputable def IP(ns:T0 Int)(own nm:QQQ)(i:Nat):vh:=(decide (0<qk (cell ns (1+(0+(i:Nat)))+31*(0+(i:Nat))*(0+(i:Nat))) 22695477 6),wc (cell ns (1+(0+(i:Nat)))+31*(0+(i:Nat))*(0+(i:Nat))) own nm)
noncomputable def wJ(s:Int):Nat:=(qk s 950706376 11).toNat
noncomputable def B4(ns:T0 Int)(m:Int):pC:=
 let s:=cell ns 0;let own:=(qm s m).map (·.1);let gs:=qQ s own
 ⟨qm s m,gs,(List.range (wJ s)).map (IP ns own (own++gs.map (·.1)))⟩
def Nx:qY:=λds M Q=>A8 λns m=>ds=[.rl (ns.map D.int),.int m]/\2<=m/\m<=8/\∀r1 r2 r3 M',qp M M'->oR M' r1=some ((B4 ns m).mF.map qD)->oR M' r2=some ((B4 ns m).groups.map qL)->oR M' r3=some ((B4 ns m).mD.map uT)->Q (.tup [.ref r1,.ref r2,.ref r3]) M'
def Lx:Fq P w K mg base 4 a.bq Nx:=by
 refine fq G.bq.toDG rY (λr u=>⟨_,(oY (pH 2 rY (pE (Gn G) r G.I (rN v0 pb)))
 (oY (pH 3 rY (pE (Il G) r G.bn (rN U2 U1)))
 (oY (wz (i:=4) rY.nd rfl (Or.inl rfl) rfl (yg (ix:=[none]) (N':=["_law_phone"])) (qF U3) (qz 0) rQ (pI v0 pb))
 (oY (pH 5 rY (pE (Ho G) r G.bo (rN U2 v4)))
 (oY (pH 6 rY (pS v4 (qB rfl (yg (ix:=[none]) (N':=["_law_group"])) (qF v5) (qz 0) rQ (pI v0 pb))))
 (oY (pH 7 rY (qT sV))
 (oY (uM fu rfl (vV rfl G.aa (qb (pE (qy G) r G.i (qX U2 pb pb)))) (sH 8 rY)
 (oY (pH 9 rY (pS (pE (Gn G) r G.I (rN v0 (pS pb v8))) (pS (pS pb v8) v8)))
 (o9 (pJ (rJ v7 (qb (pK (rN (qc u (pE (qy G) r G.i (qX v9 pb pb)) pb) (pE (PP G) r G.bp (qX v9 v4 v6))))))))))
 (o9 (pz (pK (qX U3 v5 v7))))))))))),?_⟩)
 rintro ds M Q ⟨ns,m,rfl,h2,h8,q⟩
 have hz:=dH;have pl:=yp (s:=cell ns 0) h2 (by omega);have p8:rH (cell ns 0) m<=8:=by have d1:=qH (c:=cell ns 0) (f:=48271) (m:=m - 1) (by omega);unfold rH;omega
 have gl:=wM (s:=cell ns 0);have lp:(qm (cell ns 0) m).length=rH (cell ns 0) m:=by unfold qm;rw[cS,eB]
 refine⟨ns,0,rfl,cell ns 0,m,rfl,h2,by omega,λr1 XO=>?_⟩;have s1:=qp.new (c:=.lst ((qm (cell ns 0) m).map qD)) XO;have a1:=@pA M r1 ((qm (cell ns 0) m).map qD);generalize pB M r1 (.lst ((qm (cell ns 0) m).map qD))=M1 at s1 a1 ⊢;refine i' a1 (rh (f:=Dg) a1 _ [] _ (by rw[cS];simp only[dM];omega) (λd hd k hk=>?_) λo ho=>?_)
 .obtain⟨x,_,rfl⟩:=dB.mp hd;exact hk
 rw[dY,yq];have s2:=s1.trans (qp.new (c:=.lst (((qm (cell ns 0) m).map (·.1)).map D.str)) ho);have b1:=(qp.new (c:=.lst (((qm (cell ns 0) m).map (·.1)).map D.str)) ho).lst a1;have bo:=@pA M1 o (((qm (cell ns 0) m).map (·.1)).map D.str);generalize pB M1 o (.lst (((qm (cell ns 0) m).map (·.1)).map D.str))=M2 at s2 b1 bo ⊢;have ol:((qm (cell ns 0) m).map (·.1)).length=rH (cell ns 0) m:=by rw[cS,lp]
 have one:(qm (cell ns 0) m).map (·.1)≠[]:=λz=>by rw[z]at ol;have:0=rH (cell ns 0) m:=ol;omega
 have Xl:B4 ns m=⟨qm (cell ns 0) m,qQ (cell ns 0) ((qm (cell ns 0) m).map (·.1)),(List.range (wJ (cell ns 0))).map (IP ns ((qm (cell ns 0) m).map (·.1)) ((qm (cell ns 0) m).map (·.1)++(qQ (cell ns 0) ((qm (cell ns 0) m).map (·.1))).map (·.1)))⟩:=rfl;rw[Xl]at q;generalize (qm (cell ns 0) m).map (·.1)=own at bo ol one q ⊢;refine⟨cell ns 0,o,own,rfl,bo,one,by omega,λr2 Zn=>?_⟩;have t3:=qp.new (c:=.lst ((qQ (cell ns 0) own).map qL)) Zn;have c2:=@pA M2 r2 ((qQ (cell ns 0) own).map qL);have c1:=t3.lst b1;have co:=t3.lst bo;have s3:=s2.trans t3;generalize pB M2 r2 (.lst ((qQ (cell ns 0) own).map qL))=M3 at s3 c1 c2 co ⊢;have gll:(qQ (cell ns 0) own).length=vB (cell ns 0):=by unfold qQ;rw[cS,eB]
 refine i' c2 (rh (f:=Dg) c2 _ [] _ (by rw[cS];simp only[dM];omega) (λd hd k hk=>?_) λx4 hx4=>?_)
 .obtain⟨x,_,rfl⟩:=dB.mp hd;exact hk
 rw[dY,yQ];have t4:=qp.new (c:=.lst (((qQ (cell ns 0) own).map (·.1)).map D.str)) hx4;refine i' (t4.lst co) (i' pA ⟨?_,λn hn=>?_⟩)
 .rw[cS,cS,cS];omega
 have en:own.map D.str++((qQ (cell ns 0) own).map (·.1)).map D.str=(own++(qQ (cell ns 0) own).map (·.1)).map D.str:=by rw[dP]
 rw[en];have nl:(own++(qQ (cell ns 0) own).map (·.1)).length=rH (cell ns 0) m+vB (cell ns 0):=by rw[cW,cS,ol,gll]
 have t5:=t4.trans (qp.new (c:=.lst ((own++(qQ (cell ns 0) own).map (·.1)).map D.str)) hn);have en5:=@pA (pB M3 x4 (.lst (((qQ (cell ns 0) own).map (·.1)).map D.str))) n ((own++(qQ (cell ns 0) own).map (·.1)).map D.str);have e1:=t5.lst c1;have e2:=t5.lst c2;have eo:=t5.lst co;have s5:=s3.trans t5;generalize pB (pB M3 x4 (.lst (((qQ (cell ns 0) own).map (·.1)).map D.str))) n (.lst ((own++(qQ (cell ns 0) own).map (·.1)).map D.str))=M5 at s5 e1 e2 eo en5 ⊢;generalize own++(qQ (cell ns 0) own).map (·.1)=nm at en5 nl q ⊢;have d0:=qP (c:=cell ns 0) (f:=950706376) (m:=11) (by decide);have d1:=qH (c:=cell ns 0) (f:=950706376) (m:=11) (by decide);refine⟨oW rfl,λr3 ZF=>⟨_,_,_,rfl,by decide,rfl,⟨?_,?_⟩,?_⟩⟩
 .show -(2 ^ 62)<=qk (cell ns 0) 950706376 11;omega
 .show qk (cell ns 0) 950706376 11<2 ^ 62;omega
 have t6:=qp.new (c:=.lst []) ZF;have g3:=@pA M5 r3 [];have no:o≠r3:=λz=>by have:=pU eo;rw[z,ZF]at this;cases this
 have nn:n≠r3:=λz=>by have:=pU en5;rw[z,ZF]at this;cases this
 have n1:r1≠r3:=λz=>by have:=pU e1;rw[z,ZF]at this;cases this
 have n2:r2≠r3:=λz=>by have:=pU e2;rw[z,ZF]at this;cases this
 have f1:=t6.lst e1;have f2:=t6.lst e2;have fo:=t6.lst eo;have fn:=t6.lst en5;have k6:qp M (pB M5 r3 (.lst [])):=s5.trans t6;have nr:M r3=none:=s5.none ZF;generalize pB M5 r3 (.lst [])=M6 at f1 f2 fo fn k6 g3 ⊢;have wl:wJ (cell ns 0)<=10:=by unfold wJ;omega
 refine wG ((List.range (wJ (cell ns 0))).map λi=>D.int (0+(i:Nat))) (λpre U M'=>sd r3 M6 M'/\oR M' r3=some (((List.range pre.length).map (IP ns own nm)).map uT)/\∃x y,U=[some (.rl (ns.map D.int)),some (.int m),some (.int (cell ns 0)),some (.ref r1),some (.ref o),some (.ref r2),some (.ref n),some (.ref r3),x,y]) (λp U M' j=>trivial) _ [] _ _ rfl ⟨λ_ _ _ h=>h,g3,none,none,rfl⟩ ?_ ?_
 .rintro pre d post e U M' ⟨kp,lr,x,y,rfl⟩ nx Xj
  obtain⟨rfl,Xg⟩:=Ct e;generalize hi:pre.length=i at Xg Xj lr ⊢;have c31:Dp 31 (0+(i:Int)):=.inl ⟨by decide,by decide⟩;have cm:Dp (31*(0+(i:Int))) (0+(i:Int)):=.inr ⟨by omega,by omega⟩;refine⟨ns,_,rfl,c31,cm,?_⟩;refine⟨by show(oR M' r3).isSome=true;rw[lr];rfl,_,_,_,rfl,by decide,_,o,n,own,nm,rfl,kp.lst no fo,kp.lst nn fn,one,by omega,by omega,by omega,oW rfl,i' lr ⟨?_,?_⟩⟩
  .rw[cS,cS,eB];omega
  .refine Xj _ _ ⟨kp.trans .put,?_,_,_,rfl⟩;rw[pA,cW,hi];show some (_++[uT (IP ns own nm i)])=_;rw[CJ];rfl
 .rintro U M' ⟨kp,lr,x,y,rfl⟩
  rw[cS,eB]at lr;exact⟨oW rfl,M',.refl,q r1 r2 r3 M' (λb c h=>kp b c (λz=>by rw[z,nr]at h;cases h) (k6 b c h)) (kp.lst n1 f1) (kp.lst n2 f2) lr⟩
theorem Cs(x:Array Nat):∀(n:Nat) (acc:Array Nat),((List.replicate n x).foldl (·++·) acc).toList=acc.toList++(List.replicate n x.toList).flatten
 | 0,acc=>by simp
 | n+1,acc=>by rw[eF,fU,Cs x n (acc++x),eF,fN,i9,fk]
theorem Gb(c:Nat):∀n:Nat,(List.replicate n [c]).flatten=List.replicate n c
 | 0=>rfl
 | n+1=>by rw[eF,fN,Gb c n,eF];rfl
def D0(i n:Int):(yt (ua i) n).cps.toList=List.replicate n.toNat (97+i.toNat):=by show((List.replicate n.toNat (ua i).cps).foldl (·++·) #[]:Array Nat).toList=_;rw[Cs];show[]++(List.replicate n.toNat [97+i.toNat]).flatten=_;rw[dY,Gb]
def xK(s v:Int):(xw s v).cps.toList=List.replicate (uf s).toNat (97+(s / 36 % 26).toNat)++(97+((s / 936+v) % 26).toNat)::List.replicate (size s - 1 - uf s).toNat (97+(s / 36 % 26).toNat):=by show((yt (ua (s / 36 % 26)) (uf s)).cps++(ua ((s / 936+v) % 26)).cps++(yt (ua (s / 36 % 26)) (size s - 1 - uf s)).cps).toList=_;rw[i9,i9,D0,D0];show _++[97+((s / 936+v) % 26).toNat]++_=_;rw[fk];rfl
def Ca(s v:Int):1<=(xw s v).length/\(xw s v).length<=6:=by
 have e:(xw s v).length=(xw s v).cps.toList.length:=by simp[Str.length]
 rw[e,xK,cW,eh,iK,iK];have h1:=GV s;have h2:=ID s;have h3:0<=uf s:=eP _ (by omega);have h4:uf s<size s:=eL _ h1;omega
def Nb{i:Int}(h0:0<=i)(h1:i<26):CU ⟨#[97+i.toNat]⟩ ue=true:=by
 obtain⟨n,rfl⟩:=eA h0;have hn:n<26:=by omega
 have key:∀n:_root_.Fin 26,CU ⟨#[97+n.val]⟩ ue=true:=by decide+kernel
 exact key ⟨n,hn⟩
def DR(s v:Int):ul (xw s v)=true:=by
 obtain⟨h1,h2⟩:=Ca s v;unfold ul;rw[dS (show(1:Int)<=(xw s v).length by omega),dS (show((xw s v).length:Int)<=6 by omega),eI,eI,eC];intro c hc;rw[xK]at hc;have k1:=Nb (eP (s / 36) (show(26:Int)≠0 by decide)) (eL (s / 36) (by decide));have k2:=Nb (eP (s / 936+v) (show(26:Int)≠0 by decide)) (eL (s / 936+v) (by decide));rcases dU.mp hc with z|z
 .rw[jL z];exact k1
 .rcases de.mp z with z|z
  .rw[z];exact k2
  .rw[jL z];exact k1
def BV{s u v:Int}(hu:0<=u)(hu':u<26)(hv:0<=v)(hv':v<26)(e:xw s u=xw s v):u=v:=by
 have e':(xw s u).cps.toList=(xw s v).cps.toList:=by rw[e]
 rw[xK,xK]at e';have:=(List.append_cancel_left e');have:=(gk this).1;have a1:=eP (s / 936+u) (show(26:Int)≠0 by decide);have a2:=eP (s / 936+v) (show(26:Int)≠0 by decide);have h:(s / 936+u) % 26=(s / 936+v) % 26:=by omega
 omega
def EU{ss:QQQ}{x:Str}(h:x∈ss):xy ss x:=gw.mpr ⟨x,h,by simp⟩
def Bi{row:QQQ}{i:Int}(h0:0<=i)(h1:i<row.length):CN row i∈row:=by
 obtain⟨n,rfl⟩:=eA h0;have hn:n<row.length:=by omega
 have:CN row (n:Int)=row[n]:=by simp[CN,hn]
 rw[this];exact hZ hn
def Jb{row:QQQ}{i j:Int}(nd:row.Nodup)(h0:0<=i)(h1:i<row.length)(g0:0<=j)(g1:j<row.length)(e:CN row i=CN row j):i=j:=by
 obtain⟨n,rfl⟩:=eA h0;obtain⟨k,rfl⟩:=eA g0;have hn:n<row.length:=by omega
 have hk:k<row.length:=by omega
 have e1:CN row (n:Int)=row[n]:=by simp[CN,hn]
 have e2:CN row (k:Int)=row[k]:=by simp[CN,hk]
 rw[e1,e2]at e;have pw:=jv.mp nd;rcases Nat.lt_trichotomy n k with z|z|z
 .exact absurd e (pw n k hn hk z)
 .rw[z]
 .exact absurd e.symm (pw k n hk hn z)
def zL{α:Type}(f:Nat->α)(n:Nat)(h:∀i j,i<n->j<n->f i=f j->i=j):((List.range n).map f).Nodup:=by refine jv.mpr λi j hi hj Xg e=>?_;rw[cS,eB]at hi hj;rw[lR,lR,kW,kW]at e;have:=h i j hi hj e;omega
def B9{row:QQQ}{c m:Int}(hr:row≠[])(hm:0<m):1<=wV row c m/\(wV row c m:Int)<=m/\wV row c m<=row.length:=by
 have hl:0<row.length:=fC.mpr hr;have d0:=qP (c:=c) (f:=40692) (m:=if (row.length:Int)<m then(row.length:Int)else m) (by split<;>omega);have d1:=qH (c:=c) (f:=40692) (m:=if (row.length:Int)<m then(row.length:Int)else m) (by split<;>omega);unfold wV;by_cases h:(row.length:Int)<m
 .rw[cZ h]at d0 d1 ⊢;omega
 .rw[cX h]at d0 d1 ⊢;omega
def Cm{row:QQQ}{c:Int}(hr:row≠[])(j:Nat):0<=(qk c 69621 row.length+(0+(j:Nat))) % (row.length:Int)/\(qk c 69621 row.length+(0+(j:Nat))) % (row.length:Int)<row.length:=by have hl:0<row.length:=fC.mpr hr;exact⟨eP _ (by omega),eL _ (by omega)⟩
def IW{d n i j:Int}(hn:0<n)(hi:0<=i)(YJ:i<n)(hj:0<=j)(hj':j<n)(e:(d+i) % n=(d+j) % n):i=j:=by
 have h1:=j9 (d+i) n;have h2:=j9 (d+j) n;generalize (d+i) / n=a at h1;generalize (d+j) / n=b at h2;have h3:i - j=n*(a - b):=by rw[Int.mul_sub];omega
 rcases Int.lt_trichotomy (a - b) 0 with z|z|z
 .have:n*(a - b)<=n*(-1):=iX (by omega) (by omega);omega
 .rw[z]at h3;omega
 .have:n*1<=n*(a - b):=iX (by omega) (by omega);omega
def Hl{row:QQQ}{c m:Int}(nd:row.Nodup)(hr:row≠[])(hm:0<m):(vC row c m).Nodup:=by have hl:0<row.length:=fC.mpr hr;obtain⟨_,_,l3⟩:=B9 (c:=c) hr hm;refine zL _ _ λi j hi hj e=>?_;obtain⟨a0,a1⟩:=Cm (c:=c) hr i;obtain⟨b0,b1⟩:=Cm (c:=c) hr j;have e':=Jb nd a0 a1 b0 b1 e;have:=IW (d:=qk c 69621 row.length) (n:=row.length) (i:=0+(i:Nat)) (j:=0+(j:Nat)) (by omega) (by omega) (by omega) (by omega) (by omega) e';omega
def xn{row:QQQ}{c m k:Int}(nd:row.Nodup)(hr:row≠[])(hm:0<m)(hk:m<=k):sv (vC row c m) row k=true:=by
 obtain⟨l1,l2,l3⟩:=B9 (c:=c) hr hm;have el:(vC row c m).length=wV row c m:=by unfold vC;rw[cS,eB]
 unfold sv;rw[el,dS (show(1:Int)<=wV row c m by omega),dS (show(wV row c m:Int)<=k by omega),DE (Hl nd hr hm),eI,eI,eI,eC];intro x hx;unfold vC at hx;obtain⟨j,_,rfl⟩:=dB.mp hx;obtain⟨a0,a1⟩:=Cm (c:=c) hr j;exact EU (Bi a0 a1)
def CL{row:QQQ}{c m:Int}(hr:row≠[])(hm:0<m)(h:m<=100):(vC row c m).length<4000:=by
 obtain⟨l1,l2,l3⟩:=B9 (c:=c) hr hm;have el:(vC row c m).length=wV row c m:=by unfold vC;rw[cS,eB]
 omega
def Ph{c:Int}{own all:QQQ}(no:own.Nodup)(na:all.Nodup)(ho:own≠[])(ha:2<=all.length):Bv own all (wc c own all):=by
 have hl:(0:Int)<own.length:=by have:=fC.mpr ho;omega
 have ha0:all≠[]:=λz=>by rw[z]at ha;simp at ha
 have hx:=EU (Bi (qP (c:=c) (f:=16807) hl) (qH (c:=c) (f:=16807) hl));have p0:=qP (c:=c) (f:=39373) (m:=all.length) (by omega);have p1:=qH (c:=c) (f:=39373) (m:=all.length) (by omega);have e0:=qP (c:=c) (f:=742938285) (m:=(all.length:Int) - 1) (by omega);have e1:=qH (c:=c) (f:=742938285) (m:=(all.length:Int) - 1) (by omega);have z0:=eP (qk c 39373 all.length+1+qk c 742938285 ((all.length:Int) - 1)) (show(all.length:Int)≠0 by omega);have z1:=eL (qk c 39373 all.length+1+qk c 742938285 ((all.length:Int) - 1)) (show(0:Int)<all.length by omega);have hy:=EU (Bi p0 p1);have hzz:=EU (Bi z0 z1);have ne:CN all (qk c 39373 all.length)≠CN all ((qk c 39373 all.length+1+qk c 742938285 ((all.length:Int) - 1)) % all.length):=λz=>by
  have q:=Jb na p0 p1 z0 z1 z;have q2:(qk c 39373 all.length+0) % (all.length:Int)=(qk c 39373 all.length+(1+qk c 742938285 ((all.length:Int) - 1))) % (all.length:Int):=by rw[Int.add_zero,Int.emod_eq_of_lt p0 p1,<-Int.add_assoc];exact q
  have:=IW (by omega) (by omega) (by omega) (by omega) (by omega) q2;omega
 have f0:=qP (c:=c) (f:=22695477) (m:=24) (by decide);have f1:=qH (c:=c) (f:=22695477) (m:=24) (by decide);have g0:=qP (c:=c) (f:=48271) (m:=23) (by decide);have g1:=qH (c:=c) (f:=48271) (m:=23) (by decide);have t0:=qP (c:=c) (f:=950706376) (m:=5) (by decide);have t1:=qH (c:=c) (f:=950706376) (m:=5) (by decide);unfold wc;simp only;split
 .exact⟨hx,CL ha0 (by decide) (by decide),xn na ha0 (by decide) (by decide)⟩
 .split
  .exact⟨hy,CL ho (by decide) (by decide),xn no ho (by decide) (by decide)⟩
  .split
   .exact⟨hy,hzz,ne⟩
   .split
    .refine⟨hy,hzz,ne,⟨f0,by omega⟩,⟨eP _ (by decide),?_⟩,?_⟩
     .have:=eL (qk c 22695477 24+1+qk c 48271 23) (show(0:Int)<24 by decide);omega
     .omega
    .split
     .exact⟨hy,hzz,ne⟩
     .split
      .refine⟨hy,hzz,ne,?_⟩;generalize qk c 950706376 5=d at t0 t1;have:d=0\/d=1\/d=2\/d=3\/d=4:=by omega
       rcases this with z|z|z|z|z<;>(subst z;decide)
      .split
       .exact hx
       .exact hx
def NU(s:Int)(i:Nat):Fj (vH s i):=by
 have t0:=qP (c:=s+17*(0+(i:Nat))*(0+(i:Nat))) (f:=16807) (m:=5) (by decide);have t1:=qH (c:=s+17*(0+(i:Nat))*(0+(i:Nat))) (f:=16807) (m:=5) (by decide);have u0:=qP (c:=s+17*(0+(i:Nat))*(0+(i:Nat))) (f:=39373) (m:=6) (by decide);have u1:=qH (c:=s+17*(0+(i:Nat))*(0+(i:Nat))) (f:=39373) (m:=6) (by decide);have a:1<=(vH s i).2.1/\(vH s i).2.1<=3:=by
  show 1<=G6 Py (qk (s+17*(0+(i:Nat))*(0+(i:Nat))) 16807 5)/\G6 Py (qk (s+17*(0+(i:Nat))*(0+(i:Nat))) 16807 5)<=3;generalize qk (s+17*(0+(i:Nat))*(0+(i:Nat))) 16807 5=d at t0 t1;have:d=0\/d=1\/d=2\/d=3\/d=4:=by omega
  rcases this with z|z|z|z|z<;>(subst z;decide)
 have b:0<=(vH s i).2.2/\(vH s i).2.2<=9:=by
  show 0<=G6 Ot (qk (s+17*(0+(i:Nat))*(0+(i:Nat))) 39373 6)/\G6 Ot (qk (s+17*(0+(i:Nat))*(0+(i:Nat))) 39373 6)<=9;generalize qk (s+17*(0+(i:Nat))*(0+(i:Nat))) 39373 6=d at u0 u1;have:d=0\/d=1\/d=2\/d=3\/d=4\/d=5:=by omega
  rcases this with z|z|z|z|z|z<;>(subst z;decide)
 exact⟨dW (Ca s (0+(i:Nat))).2 (by decide),DR _ _,a.1,a.2,b.1,b.2⟩
def LX{s:Int}{own:QQQ}(nd:own.Nodup)(hr:own≠[])(i:Nat):Ew own (zT s own i):=by
 have t0:=qP (c:=s+5*(0+(i:Nat))) (f:=742938285) (m:=2) (by decide);have t1:=qH (c:=s+5*(0+(i:Nat))) (f:=742938285) (m:=2) (by decide);refine⟨dW (Ca s (8+(0+(i:Nat)))).2 (by decide),DR _ _,?_,CL hr (by decide) (by decide),xn nd hr (by decide) (by decide)⟩;show CN Oq (qk (s+5*(0+(i:Nat))) 742938285 2)="all"\/CN Oq (qk (s+5*(0+(i:Nat))) 742938285 2)="turns";generalize qk (s+5*(0+(i:Nat))) 742938285 2=d at t0 t1;have:d=0\/d=1:=by omega
 rcases this with z|z
 .subst z;exact .inl rfl
 .subst z;exact .inr rfl
def Li(s m:Int):(qm s m).map (·.1)=(List.range (rH s m)).map λi=>xw s (0+(i:Nat)):=by unfold qm;rw[dX];rfl
def FU{s m:Int}(h2:2<=m)(h8:m<=8):((qm s m).map (·.1)).Nodup/\∀own,((qm s m).map (·.1)++(qQ s own).map (·.1)).Nodup:=by
 have d1:=qH (c:=s) (f:=48271) (m:=m - 1) (by omega);have d0:=qP (c:=s) (f:=48271) (m:=m - 1) (by omega);have p8:rH s m<=8:=by unfold rH;omega
 have g3:=wM (s:=s);have a:((qm s m).map (·.1)).Nodup:=by rw[Li];refine zL _ _ λi j hi hj e=>?_;have:=BV (by omega) (by omega) (by omega) (by omega) e;omega
 refine⟨a,λown=>?_⟩;have ge:(qQ s own).map (·.1)=(List.range (vB s)).map λi=>xw s (8+(0+(i:Nat))):=by unfold qQ;rw[dX];rfl
 rw[gj];refine⟨a,?_,λx hx y hy e=>?_⟩
 .rw[ge];refine zL _ _ λi j hi hj e=>?_;have:=BV (by omega) (by omega) (by omega) (by omega) e;omega
 .rw[Li]at hx;rw[ge]at hy;obtain⟨i,hi,rfl⟩:=dB.mp hx;obtain⟨j,hj,rfl⟩:=dB.mp hy;have hi:=gc.mp hi;have hj:=gc.mp hj;have:=BV (by omega) (by omega) (by omega) (by omega) e;omega
def Oz{m:Int}(h2:2<=m)(h8:m<=8):qV (B4 ns m):=by
 obtain⟨n1,n2⟩:=FU (s:=cell ns 0) h2 h8;have pl:=yp (s:=cell ns 0) h2 (by omega);have p8:rH (cell ns 0) m<=8:=by have d1:=qH (c:=cell ns 0) (f:=48271) (m:=m - 1) (by omega);unfold rH;omega
 have lp:(qm (cell ns 0) m).length=rH (cell ns 0) m:=by unfold qm;rw[cS,eB]
 have ol:((qm (cell ns 0) m).map (·.1)).length=rH (cell ns 0) m:=by rw[cS,lp]
 have one:(qm (cell ns 0) m).map (·.1)≠[]:=λz=>by rw[z]at ol;have:0=rH (cell ns 0) m:=ol;omega
 have gl:(qQ (cell ns 0) ((qm (cell ns 0) m).map (·.1))).length=vB (cell ns 0):=by unfold qQ;rw[cS,eB]
 refine⟨?_,?_,λp hp=>?_,?_,λg hg=>?_,n2 _,?_,λv hv=>?_⟩
 .show 1<=(qm (cell ns 0) m).length;omega
 .show(qm (cell ns 0) m).length<=8;omega
 .obtain⟨i,_,rfl⟩:=dB.mp hp;exact NU _ i
 .show(qQ (cell ns 0) ((qm (cell ns 0) m).map (·.1))).length<=3;rw[gl];exact wM
 .obtain⟨i,_,rfl⟩:=dB.mp hg;exact LX n1 one i
 .show((List.range (wJ (cell ns 0))).map _).length<=16;rw[cS,eB];have d1:=qH (c:=cell ns 0) (f:=950706376) (m:=11) (by decide);unfold wJ;omega
 .obtain⟨i,hi,rfl⟩:=dB.mp hv;refine Ph n1 (n2 _) one ?_;show 2<=((qm (cell ns 0) m).map (·.1)++_).length;rw[cW,ol];omega
structure pk where
 st:Str
 cr:Str
 way:QQQ
 at_:QQQ
 ms:QQQ
 hd:Option Str
 si:Int
 wd:Option Str
structure rP where
 i:Nat
 f:Str
 g:Str
 y:Str
inductive Ev
 | new (n:Nat) (x:Str)
 | leg (v:rP)
 | asks (i:Nat) (z:Str) (ns:List Nat)
 | next (z:Str) (n:Int)
 | merge (i j:Nat) (ms:QQQ)
 | turn
 | sw (b:Bool) (i:Nat)
 | rings (i:Nat) (ps:QQQ)
 | quiet (i:Nat)
 | waits (i:Nat) (x:Str)
 | talks (i:Nat) (ms:QQQ)
 | held (i:Nat) (x:Str)
 | leaves (i:Nat) (x:Str)
 | over (i:Nat) (w:Str)
structure qd where
 p:Addr
 h:Int
 t:Int
 calls:List pk
 mR:List rP
 ps:List (Str×Int)
 on:List Bool
 log:List Ev
 fo:QXQ
noncomputable def vZ(ns:T0 Nat):D:=.tup (ns.map λn=>D.int (n:Nat))
noncomputable def rP.d(v:rP):D:=.tup [.int (v.i:Nat),.str v.f,.str v.g,.str v.y]
noncomputable def TK(b:Bool):Str:=if b=true then "on" else "off"
noncomputable def Ev.d:Ev->D
 | .new n x=>.tup [.str "new",.int (n:Nat),.str x]
 | .leg v=>.tup [.str "leg",.int (v.i:Nat),.str v.f,.str v.g,.str v.y]
 | .asks i z ns=>.tup [.str "asks",.int (i:Nat),.str z,vZ ns]
 | .next z n=>.tup [.str "next",.str z,.int n]
 | .merge i j ms=>.tup [.str "merge",.int (i:Nat),.int (j:Nat),names ms]
 | .turn=>.tup [.str "turn"]
 | .sw b i=>.tup [.str (TK b),.int (i:Nat)]
 | .rings i ps=>.tup [.str "rings",.int (i:Nat),names ps]
 | .quiet i=>.tup [.str "quiet",.int (i:Nat)]
 | .waits i x=>.tup [.str "waits",.int (i:Nat),.str x]
 | .talks i ms=>.tup [.str "talks",.int (i:Nat),names ms]
 | .held i x=>.tup [.str "held",.int (i:Nat),.str x]
 | .leaves i x=>.tup [.str "leaves",.int (i:Nat),.str x]
 | .over i w=>.tup [.str "over",.int (i:Nat),.str w]
noncomputable def hasS(ss:QQQ)(x:Str):Bool:=ss.any (·==x)
noncomputable def rC(ss:QQQ)(x:Str):QQQ:=ss.filter λy=>!(y==x)
noncomputable def yO(x:Str):pk:=⟨"rings",x,[],[],[],none,0,none⟩
noncomputable def pk.over(c:pk)(w:Str):pk:={c with st:="over",wd:=some w,at_:=[],ms:=[],hd:=none}
noncomputable def pk.drop(c:pk)(x:Str):pk:={c with at_:=rC c.at_ x,ms:=rC c.ms x}
noncomputable def pk.ring(c:pk)(ps:QQQ):pk:={c with st:="rings",at_:=ps,si:=0}
noncomputable def pk.nA(c:pk)(ms:QQQ):pk:={c with st:="talks",ms:=ms,at_:=[],hd:=none}
noncomputable def pk.wait(c:pk)(x:Str):pk:={c with st:="waits",at_:=[x]}
noncomputable def pk.hold(c:pk)(x:Str):pk:={c with st:="held",hd:=some x}
noncomputable def pk.nC(c:pk):pk:={c with at_:=[]}
noncomputable def pk.mem(c:pk)(ms:QQQ):pk:={c with ms:=ms}
noncomputable def pk.go(c:pk)(g:Str):pk:={c with way:=c.way++[g]}
noncomputable def pk.tick(c:pk):pk:=if (c.st=="rings")=true then{c with si:=c.si+1}else c
noncomputable def rP.to(m k:Nat)(v:rP):rP:=if v.i=m then{v with i:=k}else v
noncomputable def BL(ps:T0 (Str×Int))(z:Str)(n:Int):T0 (Str×Int):=if ps.any (λp=>decide (p.1=z))=true then ps.map (λp=>if p.1=z then(p.1,n)else p)else ps++[(z,n)]
noncomputable def xg(V:qd)(i:Nat)(f:pk->pk):qd:={V with calls:=V.calls.modify i f}
noncomputable def qE(V:qd)(e:Ev):qd:={V with log:=V.log++[e]}
noncomputable def TF(V:qd):Ev->qd
 | .new _ x=>{V with calls:=V.calls++[yO x]}
 | .leg v=>{V with mR:=V.mR++[v],calls:=V.calls.modify v.i (·.go v.g)}
 | .asks _ _ _=>V
 | .next z n=>{V with ps:=BL V.ps z n}
 | .merge i j ms=>{V with calls:=(V.calls.modify i (·.over "merged")).modify j (·.mem ms),mR:=V.mR.map (rP.to i j)}
 | .turn=>{V with t:=V.t+1,calls:=V.calls.map pk.tick}
 | .sw b i=>{V with on:=V.on.set i b}
 | .rings i ps=>xg V i (·.ring ps)
 | .quiet i=>xg V i pk.nC
 | .waits i x=>xg V i (·.wait x)
 | .talks i ms=>xg V i (·.nA ms)
 | .held i x=>xg V i (·.hold x)
 | .leaves i x=>xg V i (·.drop x)
 | .over i w=>xg V i (·.over w)
noncomputable def pV(V:qd)(e:Ev):qd:=TF (qE V e) e
noncomputable def qu(V:qd)(es:T0 Ev):qd:=es.foldl pV V
def Ev.ok(V:qd):Ev->Prop
 | .new _ _=>True
 | .leg v=>v.i<V.calls.length
 | .asks _ _ _=>True
 | .next _ _=>True
 | .merge i j ms=>i<V.calls.length/\j<V.calls.length/\i≠j/\ms.length<=100
 | .turn=>True
 | .sw _ i=>i<V.on.length
 | .rings i ps=>i<V.calls.length/\ps.length<=100
 | .quiet i=>i<V.calls.length
 | .waits i _=>i<V.calls.length
 | .talks i ms=>i<V.calls.length/\ms.length<=100
 | .held i _=>i<V.calls.length
 | .leaves i _=>i<V.calls.length
 | .over i _=>i<V.calls.length
def C5:qd->T0 Ev->Prop
 | _,[]=>True
 | V,e::r=>e.ok V/\C5 (pV V e) r
def rc(V:qd)(es fs:T0 Ev):qu V (es++fs)=qu (qu V es) fs:=lh ..
theorem wu:∀{V:qd} {es fs:T0 Ev},C5 V es->C5 (qu V es) fs->C5 V (es++fs)
 | _,[],_,_,h=>h
 | _,_::_,_,h,g=>⟨h.1,wu h.2 g⟩
theorem Ba:∀(es:T0 Ev) (V:qd),(qu V es).log=V.log++es
 | [],V=>(eY _).symm
 | e::r,V=>by
  show(qu (pV V e) r).log=_;rw[Ba r];have:(pV V e).log=V.log++[e]:=by cases e<;>rfl
  rw[this,fk];rfl
noncomputable def pk.mP(c:pk)(x:Str):Bool:=(c.st=="talks")&&hasS c.ms x
noncomputable def pk.hasB(c:pk)(x:Str):Bool:=if (c.st=="rings")=true then(x==c.cr)||hasS c.at_ x else if (c.st=="waits")=true then x==c.cr else(c.st=="talks"||c.st=="held")&&hasS c.ms x
noncomputable def pk.mX(c:pk)(x:Str):Bool:=if (c.st=="held")=true then hasS c.ms x&&!((c.hd==some x))else c.mP x
noncomputable def pk.mQ(c:pk)(x:Str):Bool:=(c.st=="rings"||c.st=="waits")&&(x==c.cr)
noncomputable def pk.mJ(c:pk)(x:Str):Bool:=(c.st=="waits")&&hasS c.at_ x
noncomputable def pk.nv(c:pk)(x:Str):Bool:=c.mQ x||(hasS c.at_ x||hasS c.ms x)
noncomputable def pk.mS(c:pk)(x:Str):Bool:=c.mP x&&(c.ms.length==2)
noncomputable def uS(V:qd)(x:Str):Nat:=(V.calls.filter (·.hasB x)).length
noncomputable def wA(l:pC)(x:Str):Int:=(l.mV x).elim 0 λv=>v.2.1
noncomputable def vt(l:pC)(x:Str):Int:=(l.mV x).elim 0 λv=>v.2.2
noncomputable def tS(l:pC)(V:qd)(x:Str):Bool:=decide ((uS V x:Int)<wA l x)
noncomputable def uh(l:pC)(V:qd)(c z:Str):QQQ:=(l.mC z).filter λx=>!(x==c)&&tS l V x
noncomputable def xE(l:pC)(V:qd)(c z:Str):Bool:=(uh l V c z).isEmpty
noncomputable def vw(V:qd)(x:Str):Option Nat:=V.calls.findIdx? (·.mP x)
noncomputable def Ey(V:qd)(x:Str):Option Nat:=V.calls.findIdx? (·.mX x)
noncomputable def JK(V:qd)(x:Str):Option Nat:=V.calls.findIdx? (·.mQ x)
noncomputable def Ax(V:qd)(x:Str):Bool:=V.calls.any (·.mJ x)
noncomputable def ON:Option Nat->D
 | none=>.mG
 | some j=>.int (j:Nat)
noncomputable def FR(f l h:Int):Bool:=if f<l then decide (f<=h)&&decide (h<l)else decide (h>=f)||decide (h<l)
noncomputable def HE(l:pC)(x:Str)(ms:QQQ):Bool:=ms.all λm=>decide (vt l m<vt l x)
noncomputable def Hj(l:pC)(V:qd)(x c z:Str):Bool:=if (!(c==x)||(z==x))=true then false else if (!(hasS l.pn z)||!(xE l V c z))=true then false else((vw V z).bind (V.calls[·]?)).elim false λk=>(k.ms.length==2)&&HE l x k.ms
noncomputable def zg(l:pC)(V:qd)(c z:Str):Wi->Bool
 | .bar x ns=>(c==x)&&hasS ns z
 | .shut x ns=>(z==x)&&hasS ns c
 | .always x _=>z==x
 | .night x _ f m=>(z==x)&&FR f m ((V.h+V.t) % 24)
 | .busy x _=>(z==x)&&xE l V c z
 | .silent _ _ _=>false
 | .wait x=>if (!(z==x)||(c==x))=true then false else xE l V c z&&!(Ax V z)
 | .breaks x=>Hj l V x c z
noncomputable def GW(c:pk):Wi->Bool
 | .silent x _ n=>(c.way.getLast?==some x)&&decide (n<=c.si)
 | _=>false
noncomputable def Ij(l:pC)(V:qd)(f:Wi->Bool):T0 Nat:=(List.range V.on.length).filter λi=>V.on.getD i false&&(l.mD[i]?).elim false λw=>f w.2
noncomputable def zB(l:pC)(V:qd)(c z:Str):T0 Nat:=Ij l V (zg l V c z)
noncomputable def uR(ms:QQQ)(n:Nat):QQQ:=ms.drop n++ms.take n
noncomputable def zC(V:qd)(z:Str):Nat:=((V.ps.find? λp=>decide (p.1=z)).elim 0 λp=>p.2).toNat
noncomputable def xq(l:pC)(V:qd)(c z:Str):QQQ:=if (l.mK z=="turns")=true then((uR (l.mC z) (zC V z)).filter λx=>hasS (uh l V c z) x).take 1 else uh l V c z
inductive vo
 | engaged (z:Str)
 | rings (z:Str) (ps:QQQ)
 | waits (z:Str)
 | breaks (z:Str)
 | barred
 | ring (ns:QQQ)
noncomputable def vo.d:vo->D
 | .engaged z=>.tup [.str "engaged",.str z]
 | .rings z ps=>.tup [.str "rings",.str z,names ps]
 | .waits z=>.tup [.str "waits",.str z]
 | .breaks z=>.tup [.str "breaks",.str z]
 | .barred=>.tup [.str "barred"]
 | .ring ns=>.tup [.str "ring",names ns]
noncomputable def Hv(l:pC)(V:qd)(c z:Str):vo:=match xq l V c z with
 | []=>.engaged z
 | x::r=>.rings z (x::r)
noncomputable def Ja(z:Str):Wi->Sum vo Str
 | .bar _ _=>.inl .barred
 | .shut _ _=>.inl .barred
 | .always _ y=>.inr y
 | .night _ y _ _=>.inr y
 | .busy _ y=>.inr y
 | .silent _ y _=>.inr y
 | .wait _=>.inl (.waits z)
 | .breaks _=>.inl (.breaks z)
abbrev sR:=T0 (Str×T0 Nat)
noncomputable def uH(l:pC)(V:qd)(c:Str):Nat->Str->QQQ->sR->vo×sR
 | 0,_,_,st=>(.barred,st)
 | n+1,z,way,st=>if hasS way z=true then(.ring (way.drop (way.findIdx (·==z))),st)else
  match zB l V c z with
  | []=>(Hv l V c z,st++[(z,[])])
  | i::r=>(l.mD[i]?).elim (.barred,st) λw=>match Ja z w.2 with
   | .inl e=>(e,st++[(z,i::r)])
   | .inr y=>uH l V c n y (way++[z]) (st++[(z,i::r)])
noncomputable def ui(l:pC)(V:qd)(c z:Str)(way:QQQ):vo×sR:=uH l V c (l.nm.length+1) z way []
noncomputable def rf(i:Nat):Option Str->sR->T0 Ev
 | _,[]=>[]
 | none,(z,fs)::r=>.asks i z fs::rf i (some z) r
 | some y,(z,fs)::r=>.leg ⟨i,y,z,y⟩::.asks i z fs::rf i (some z) r
noncomputable def QR(ms:QQQ)(x:Str):Int:=((ms.findIdx (·==x):Nat)+1) % (ms.length:Int)
noncomputable def rR(l:pC)(V:qd)(i:Nat):vo->T0 Ev
 | .rings z ps=>(if (l.mK z=="turns")=true then[.next z (QR (l.mC z) (ps.headD Str.empty))]else[])++[.rings i ps]
 | .waits z=>[.waits i z]
 | .breaks z=>match vw V z,V.calls[i]? with
  | some j,some c=>[.merge i j ((V.calls[j]?).elim [] (·.ms)++[c.cr])]
  | _,_=>[]
 | .engaged _=>[.over i "engaged"]
 | .barred=>[.over i "barred"]
 | .ring _=>[.over i "ring"]
noncomputable def sY(i:Nat)(st:sR):vo->T0 Ev
 | .ring ns=>(st.getLast?).elim [] λs=>[.leg ⟨i,s.1,ns.headD Str.empty,s.1⟩]
 | _=>[]
noncomputable def uF(l:pC)(V:qd)(i:Nat):T0 Ev:=(V.calls[i]?).elim [] λc=>
 let r:=ui l V c.cr (c.way.getLastD Str.empty) c.way.dropLast
 rf i none r.2++(sY i r.2 r.1++rR l V i r.1)
noncomputable def xR(l:pC)(V:qd)(y z:Str):T0 Ev:=
 let es:=[Ev.new V.calls.length y,.leg ⟨V.calls.length,y,z,y⟩]
 es++uF l (qu V es) V.calls.length
noncomputable def uW(V:qd)(x:Str)(i:Nat):T0 Ev:=(V.calls[i]?).elim [] λc=>if c.mQ x=true then[.over i "left"]else if hasS c.at_ x=true then .leaves i x::(if rC c.at_ x=[]then[.over i "refused"]else[])else if 2<c.ms.length then[.leaves i x]else[.over i "done"]
noncomputable def so(l:pC)(V:qd)(i:Nat)(fs:T0 Nat):T0 Ev:=match fs.head?.bind (l.mD[·]?)with
 | some (_,.silent x y _)=>
  let es:=[Ev.asks i x fs,.quiet i,.leg ⟨i,x,y,x⟩]
  es++uF l (qu V es) i
 | _=>[]
noncomputable def wX(l:pC)(V:qd)(i:Nat):T0 Nat:=(V.calls[i]?).elim [] λc=>if (c.st=="rings")=true then Ij l V (GW c)else[]
noncomputable def qR(l:pC):T0 Nat->qd->T0 Ev
 | [],_=>[]
 | i::r,V=>so l V i (wX l V i)++qR l r (qu V (so l V i (wX l V i)))
noncomputable def xS(l:pC)(V:qd):T0 Ev:=.turn::qR l (List.range V.calls.length) (pV V .turn)
inductive tI
 | call (y z:Str)
 | num (w x:Str) (ns:List Int)
 | turn
 | sw (b:Bool) (i:Int)
noncomputable def tI.d:tI->D
 | .call y z=>.tup [.str "call",.str y,.str z]
 | .num w x ns=>.tup (.str w::.str x::ns.map D.int)
 | .turn=>.tup [.str "turn"]
 | .sw b i=>.tup [.str (TK b),.int i]
def tI.m7:tI->Prop
 | .num w _ ns=>((w="answer"\/w="hang"\/w="hold"\/w="back")/\ns.length=1)\/((w="hand"\/w="join")/\ns.length=2)
 | _=>True
noncomputable def ur(V:qd)(x:Str):Option Str:=if (Ey V x).isSome=true then some "bound" else if (JK V x).isSome=true then some "calls" else none
noncomputable def yW(n:Nat)(i:Int):Bool:=decide (0<=i)&&decide (i<(n:Int))
noncomputable def IR(w x:Str):List pk->Bool
 | []=>false
 | c::r=>if (w=="answer")=true then hasS c.at_ x else if (w=="hang")=true then c.nv x else if (w=="hold")=true then c.mS x else if (w=="back")=true then c.hd==some x else(c.hd==some x)&&(r.head?.elim false λd=>d.mS x)
noncomputable def tG(V:qd)(ns:T0 Int):List pk:=ns.filterMap λi=>V.calls[i.toNat]?
noncomputable def FY(l:pC)(V:qd)(y z:Str):Option Str:=if hasS l.nm z=false then some "name" else if ((ur V y).isNone&&!(tS l V y))=true then some "full" else ur V y
noncomputable def K5(l:pC)(V:qd)(w x:Str)(ns:T0 Int):Option Str:=if ns.all (yW V.calls.length)=false then some "call" else if IR w x (tG V ns)=false then some "call" else if (w=="answer"||w=="back")=false then none else
 if ((ur V x).isNone&&((tG V ns).head?.elim false (λc=>c.mJ x)&&!(tS l V x)))=true then some "full" else ur V x
noncomputable def OI(V:qd)(b:Bool)(i:Int):Option Str:=if yW V.on.length i=false then some "wish" else if (V.on.getD i.toNat false==b)=true then some "wish" else none
noncomputable def vL(l:pC)(V:qd):tI->Option Str
 | .turn=>none
 | .sw b i=>OI V b i
 | .call y z=>if hasS l.pn y=false then some "name" else FY l V y z
 | .num w x ns=>if hasS l.pn x=false then some "name" else K5 l V w x ns
noncomputable def qw(c:pk)(x:Str):Str:=(rC c.ms x).headD Str.empty
noncomputable def AW(V:qd)(w x:Str)(i:Nat):Ev:=(V.calls[i]?).elim .turn λc=>if (w=="answer")=true then .talks i [c.cr,x]else if (w=="hold")=true then .held i x else .talks i c.ms
noncomputable def DY(V:qd)(w x:Str)(i j:Nat):Ev:=(V.calls[i]?).elim .turn λc=>(V.calls[j]?).elim .turn λd=>.merge i j (if (w=="hand")=true then[qw c x,qw d x]else[x,qw c x,qw d x])
noncomputable def uu(l:pC)(V:qd):tI->T0 Ev
 | .call y z=>xR l V y z
 | .num w x [i]=>if (w=="hang")=true then uW V x i.toNat else[AW V w x i.toNat]
 | .num w x [i,j]=>[DY V w x i.toNat j.toNat]
 | .num _ _ _=>[]
 | .turn=>xS l V
 | .sw b i=>[.sw b i.toNat]
structure rm where
 p:Addr
 wy:Addr
structure sP where
 b:Addr
 ca:Addr
 le:Addr
 nx:Addr
 on:Addr
 lo:Addr
 cs:List rm
noncomputable def CQ:Option Str->D
 | none=>.mG
 | some x=>.str x
noncomputable def qZ(c:pk)(wy ad md:Addr):T0 (Str×D):=[("state",.str c.st),("caller",.str c.cr),("way",.ref wy),("at",.ref ad),("members",.ref md),("holder",CQ c.hd),("since",.int c.si),("word",CQ c.wd)]
noncomputable def tR(p:D)(h t:Int)(ca le nx on lo:Addr):T0 (Str×D):=[("plan",p),("hour",.int h),("turn",.int t),("calls",.ref ca),("legs",.ref le),("nexts",.ref nx),("on",.ref on),("log",.ref lo)]
noncomputable def tE(ps:T0 (Str×Int)):T0 (qS×D):=ps.map λp=>((Sum.inr p.1:qS),D.int p.2)
noncomputable def sP.lists(A:sP):QXQ:=A.ca::A.le::A.on::A.lo::A.cs.map (·.wy)
noncomputable def sP.foot(A:sP):QXQ:=A.b::A.nx::(A.lists++A.cs.map (·.p))
def rF(a:Ad)(M:Mp)(L:QXQ)(k:rm)(c:pk):Prop:=A8 λad md=>M k.p=some (.ins a.e (qZ c k.wy ad md))/\oR M k.wy=some (c.way.map D.str)/\oR M ad=some (c.at_.map D.str)/\oR M md=some (c.ms.map D.str)/\ad∉L/\md∉L
structure pG(a:Ad)(M:Mp)(A:sP)(V:qd):Prop where
 at_:M A.b=some (.ins a.c (tR (.ref V.p) V.h V.t A.ca A.le A.nx A.on A.lo))
 ca:oR M A.ca=some (A.cs.map λk=>D.ref k.p)
 le:oR M A.le=some (V.mR.map rP.d)
 nx:zd M A.nx=some (tE V.ps)
 on:oR M A.on=some (V.on.map D.bl)
 lo:oR M A.lo=some (V.log.map Ev.d)
 len:A.cs.length=V.calls.length
 cs:∀(i:Nat) k c,A.cs[i]?=some k->V.calls[i]?=some c->rF a M (A.lists++V.fo) k c
 nl:A.lists.Nodup
 np:(A.b::A.cs.map (·.p)).Nodup
 fo:∀x∈V.fo,∃c,M x=some c
def wO{F:QXQ}{M:Mp}{p:Addr}{c:uK}(h:∀x∈F,∃c,M x=some c):∀x∈F,∃d,pB M p c x=some d:=λx hx=>by
 by_cases z:x=p
 .exact⟨c,by rw[z];exact pL⟩
 .obtain⟨d,e⟩:=h x hx;exact⟨d,sd.put x d z e⟩
def rF.sub{k:rm}{c:pk}(h:rF a M L k c)(s:qp M M'):rF a M' L k c:=by obtain⟨ad,md,h1,h2,h3,h4,h5⟩:=h;exact⟨ad,md,s _ _ h1,s.lst h2,s.lst h3,s.lst h4,h5⟩
def pG.sub{A:sP}{V:qd}(h:pG a M A V)(s:qp M M'):pG a M' A V:=⟨s _ _ h.at_,s.lst h.ca,s.lst h.le,s.dk h.nx,s.lst h.on,s.lst h.lo,h.len,λi k c e1 e2=>(h.cs i k c e1 e2).sub s,h.nl,h.np,λx hx=>(h.fo x hx).imp λc e=>s x c e⟩
def rF.nM{k:rm}{c:pk}{x:Addr}{ds:T0 D}(h:rF a M L k c)(kp:sd x M M')(hl:oR M x=some ds)(hx:x∈L)(hn:k.wy≠x):rF a M' L k c:=by obtain⟨ad,md,h1,h2,h3,h4,h5,h6⟩:=h;exact⟨ad,md,kp _ _ (λz=>by rw[z,pU hl]at h1;cases h1) h1,kp.lst hn h2,kp.lst (λz=>h5 (z ▸ hx)) h3,kp.lst (λz=>h6 (z ▸ hx)) h4,h5,h6⟩
def rF.nR{k:rm}{c:pk}{x C:Addr}{fs:T0 (Str×D)}(h:rF a M L k c)(kp:sd x M M')(hi:M x=some (.ins C fs))(hn:k.p≠x):rF a M' L k c:=by obtain⟨ad,md,h1,h2,h3,h4,h5⟩:=h;exact⟨ad,md,kp _ _ hn h1,kp.lst (pP h2 hi) h2,kp.lst (pP h3 hi) h3,kp.lst (pP h4 hi) h4,h5⟩
def uJ{a p:Addr}{ds:T0 (qS×D)}{es:T0 D}(h:zd M a=some ds)(hp:oR M p=some es):a≠p:=λz=>by subst z;unfold zd at h;rw[pU hp]at h;cases h
def rF.oN{k:rm}{c:pk}{x:Addr}{ds:T0 (qS×D)}(h:rF a M L k c)(kp:sd x M M')(hd:zd M x=some ds):rF a M' L k c:=by obtain⟨ad,md,h1,h2,h3,h4,h5⟩:=h;exact⟨ad,md,kp _ _ (λz=>by rw[z,xX hd]at h1;cases h1) h1,kp.lst (dI (uJ hd h2)) h2,kp.lst (dI (uJ hd h3)) h3,kp.lst (dI (uJ hd h4)) h4,h5⟩
def qG{α:Type}{l:List α}{i:Nat}{x:α}(h:l[i]?=some x):x∈l:=fm h
def pG.ne{A:sP}{V:qd}(h:pG a M A V):A.ca≠A.le/\A.ca≠A.on/\A.ca≠A.lo/\A.le≠A.on/\A.le≠A.lo/\A.on≠A.lo/\∀k∈A.cs,k.wy≠A.ca/\k.wy≠A.le/\k.wy≠A.on/\k.wy≠A.lo:=by
 have n:=h.nl;unfold sP.lists at n;obtain⟨n1,n⟩:=dO.mp n;obtain⟨n2,n⟩:=dO.mp n;obtain⟨n3,n⟩:=dO.mp n;obtain⟨n4,n⟩:=dO.mp n;have w:∀k∈A.cs,k.wy∈A.cs.map (·.wy):=λk hk=>dB.mpr ⟨k,hk,rfl⟩;refine⟨λz=>n1 (z ▸ by simp),λz=>n1 (z ▸ by simp),λz=>n1 (z ▸ by simp),λz=>n2 (z ▸ by simp),λz=>n2 (z ▸ by simp),λz=>n3 (z ▸ by simp),λk hk=>⟨λz=>n1 ?_,λz=>n2 ?_,λz=>n3 ?_,λz=>n4 ?_⟩⟩
 .rw[<-z];exact dA _ (dA _ (dA _ (w k hk)))
 .rw[<-z];exact dA _ (dA _ (w k hk))
 .rw[<-z];exact dA _ (w k hk)
 .rw[<-z];exact w k hk
def pG.nY{A:sP}{V:qd}(_:pG a M A V):A.ca∈A.lists/\A.le∈A.lists/\A.lo∈A.lists/\(∀k∈A.cs,k.wy∈A.lists)/\A.on∈A.lists:=by unfold sP.lists;refine⟨by simp,by simp,by simp,?_,by simp⟩;exact λk hk=>by simp;exact .inr (.inr (.inr (.inr ⟨k,hk,rfl⟩)))
def pG.oF{A:sP}{V:qd}(h:pG a M A V):A.ca∈A.lists++V.fo/\A.le∈A.lists++V.fo/\A.lo∈A.lists++V.fo/\(∀k∈A.cs,k.wy∈A.lists++V.fo)/\A.on∈A.lists++V.fo:=by obtain⟨h1,h2,h3,h4,h5⟩:=h.nY;exact⟨fg _ h1,fg _ h2,fg _ h3,λk hk=>fg _ (h4 k hk),fg _ h5⟩
def qJ(A:sP)(M:Mp)(A':sP)(M':Mp):Prop:=(∀x c,x∉A.foot->M x=some c->M' x=some c)/\(∀x∈A'.foot,x∈A.foot\/M x=none)/\(∀(i:Nat) k,A.cs[i]?=some k->A'.cs[i]?=some k)/\∀x c,M x=some c->∃d,M' x=some d
def Ed{M:Mp}{p y:Addr}{c d:uK}(h:M y=some d):∃e,pB M p c y=some e:=by
 by_cases z:y=p
 .exact⟨c,by rw[z];exact pL⟩
 .exact⟨d,sd.put y d z h⟩
def qJ.refl{A:sP}:qJ A M A M:=⟨λ_ _ _ h=>h,λ_ h=>.inl h,λ_ _ h=>h,λ_ c h=>⟨c,h⟩⟩
def qJ.trans{A A1 A2:sP}{M M1 M2:Mp}(s:qJ A M A1 M1)(u:qJ A1 M1 A2 M2):qJ A M A2 M2:=by
 refine⟨λx c n h=>u.1 x c (λz=>?_) (s.1 x c n h),λx hx=>?_,λi k h=>u.2.2.1 i k (s.2.2.1 i k h),λx c h=>(s.2.2.2 x c h).elim λd e=>u.2.2.2 x d e⟩
 .rcases s.2.1 x z with y|y
  .exact n y
  .rw[y]at h;cases h
 .rcases u.2.1 x hx with z|z
  .exact s.2.1 x z
  .by_cases y:x∈A.foot
   .exact .inl y
   .refine .inr ?_;cases e:M x with
    | none=>rfl
    | some c=>rw[s.1 x c y e]at z;cases z
def qJ.keep{A:sP}{x:Addr}{c:uK}(h:x∈A.foot)(k:sd x M (pB M x c)):qJ A M A (pB M x c):=⟨λy c n e=>k y c (λz=>n (z ▸ h)) e,λ_ h=>.inl h,λ_ _ h=>h,λ_ _ h=>Ed h⟩
def qJ.sub{A:sP}(s:qp M M'):qJ A M A M':=⟨λy c _ e=>s y c e,λ_ h=>.inl h,λ_ _ h=>h,λx c h=>⟨c,s x c h⟩⟩
def sP.mO(A:sP):A.b∈A.foot/\A.nx∈A.foot/\A.ca∈A.foot/\A.le∈A.foot/\A.lo∈A.foot/\(∀k∈A.cs,k.p∈A.foot)/\∀k∈A.cs,k.wy∈A.foot:=by unfold sP.foot sP.lists;exact⟨by simp,by simp,by simp,by simp,by simp,λk hk=>by simp;exact .inr (.inr (.inr (.inr (.inr (.inr (.inr ⟨k,hk,rfl⟩)))))),λk hk=>by simp;exact .inr (.inr (.inr (.inr (.inr (.inr (.inl ⟨k,hk,rfl⟩))))))⟩
def sP.nF(A:sP){x:Addr}(h:x∈A.lists):x∈A.foot:=by unfold sP.foot;exact dA _ (dA _ (dU.mpr (.inl h)))
variable {M M1:Mp}{A:sP}{V:qd}
def Ff{α:Type}{l:List α}{i j:Nat}{x y:α}(h:(l.set i x)[j]?=some y):(j=i/\y=x/\i<l.length)\/(j≠i/\l[j]?=some y):=by
 by_cases z:j=i
 .subst z;by_cases hl:j<l.length
  .rw[eJ hl]at h;exact .inl ⟨rfl,(df h).symm,hl⟩
  .rw[gA (by rw[ii];omega)]at h;cases h
 .rw[eN (dI z)]at h;exact .inr ⟨z,h⟩
def NG{α β:Type}{f:α->β}{l:List α}{i j:Nat}{x y:α}(nd:(l.map f).Nodup)(h1:l[i]?=some x)(h2:l[j]?=some y)(e:f x=f y):i=j:=by
 have e1:(l.map f)[i]?=some (f x):=by rw[dz,h1];rfl
 have e2:(l.map f)[j]?=some (f y):=by rw[dz,h2];rfl
 obtain⟨l1,q1⟩:=cU.mp e1;obtain⟨l2,q2⟩:=cU.mp e2;exact(lD nd).mp (q1.trans (e.trans q2.symm))
def pG.nw(h:pG a M A V):(A.cs.map (·.wy)).Nodup:=(dO.mp (dO.mp (dO.mp (dO.mp h.nl).2).2).2).2
def pG.oQ(h:pG a M A V):(A.cs.map (·.p)).Nodup/\∀k∈A.cs,k.p≠A.b:=⟨(dO.mp h.np).2,λk hk z=>(dO.mp h.np).1 (z ▸ dB.mpr ⟨k,hk,rfl⟩)⟩
def pG.oj(h:pG a M A V){es:T0 Ev}:pG a (pB M A.lo (.lst (es.map Ev.d))) A {V with log:=es}/\qJ A M A (pB M A.lo (.lst (es.map Ev.d))):=by have kp:sd A.lo M (pB M A.lo (.lst (es.map Ev.d))):=.put;obtain⟨n1,n2,n3,n4,n5,n6,nw⟩:=h.ne;exact⟨⟨kp _ _ (dI (pP h.lo h.at_)) h.at_,kp.lst n3 h.ca,kp.lst n5 h.le,kp.dk (uJ h.nx h.lo) h.nx,kp.lst n6 h.on,pA,h.len,λi k c e1 e2=>(h.cs i k c e1 e2).nM kp h.lo h.oF.2.2.1 (nw k (qG e1)).2.2.2,h.nl,h.np,wO h.fo⟩,.keep A.mO.2.2.2.2.1 kp⟩
def pG.oq(h:pG a M A V){es:List rP}:pG a (pB M A.le (.lst (es.map rP.d))) A {V with mR:=es}/\qJ A M A (pB M A.le (.lst (es.map rP.d))):=by have kp:sd A.le M (pB M A.le (.lst (es.map rP.d))):=.put;obtain⟨n1,n2,n3,n4,n5,n6,nw⟩:=h.ne;exact⟨⟨kp _ _ (dI (pP h.le h.at_)) h.at_,kp.lst n1 h.ca,pA,kp.dk (uJ h.nx h.le) h.nx,kp.lst (dI n4) h.on,kp.lst (dI n5) h.lo,h.len,λi k c e1 e2=>(h.cs i k c e1 e2).nM kp h.le h.oF.2.1 (nw k (qG e1)).2.1,h.nl,h.np,wO h.fo⟩,.keep A.mO.2.2.2.1 kp⟩
def pG.oG(h:pG a M A V){bs:T0 Bool}:pG a (pB M A.on (.lst (bs.map D.bl))) A {V with on:=bs}/\qJ A M A (pB M A.on (.lst (bs.map D.bl))):=by have kp:sd A.on M (pB M A.on (.lst (bs.map D.bl))):=.put;obtain⟨n1,n2,n3,n4,n5,n6,nw⟩:=h.ne;exact⟨⟨kp _ _ (dI (pP h.on h.at_)) h.at_,kp.lst n2 h.ca,kp.lst n4 h.le,kp.dk (uJ h.nx h.on) h.nx,pA,kp.lst (dI n6) h.lo,h.len,λi k c e1 e2=>(h.cs i k c e1 e2).nM kp h.on h.oF.2.2.2.2 (nw k (qG e1)).2.2.1,h.nl,h.np,wO h.fo⟩,.keep (A.nF h.nY.2.2.2.2) kp⟩
def pG.oJ(h:pG a M A V){ps:T0 (Str×Int)}:pG a (pB M A.nx (.dk (tE ps))) A {V with ps:=ps}/\qJ A M A (pB M A.nx (.dk (tE ps))):=by have kp:sd A.nx M (pB M A.nx (.dk (tE ps))):=.put;exact⟨⟨kp _ _ (dI (CA h.nx h.at_)) h.at_,kp.lst (dI (uJ h.nx h.ca)) h.ca,kp.lst (dI (uJ h.nx h.le)) h.le,Ck pL,kp.lst (dI (uJ h.nx h.on)) h.on,kp.lst (dI (uJ h.nx h.lo)) h.lo,h.len,λi k c e1 e2=>(h.cs i k c e1 e2).oN kp h.nx,h.nl,h.np,wO h.fo⟩,.keep A.mO.2.1 kp⟩
def pG.putT(h:pG a M A V){t:Int}:pG a (pB M A.b (.ins a.c (tR (.ref V.p) V.h t A.ca A.le A.nx A.on A.lo))) A {V with t:=t}/\qJ A M A (pB M A.b (.ins a.c (tR (.ref V.p) V.h t A.ca A.le A.nx A.on A.lo))):=by have kp:sd A.b M (pB M A.b (.ins a.c (tR (.ref V.p) V.h t A.ca A.le A.nx A.on A.lo))):=.put;exact⟨⟨pL,kp.lst (pP h.ca h.at_) h.ca,kp.lst (pP h.le h.at_) h.le,kp.dk (CA h.nx h.at_) h.nx,kp.lst (pP h.on h.at_) h.on,kp.lst (pP h.lo h.at_) h.lo,h.len,λi k c e1 e2=>(h.cs i k c e1 e2).nR kp h.at_ (h.oQ.2 k (qG e1)),h.nl,h.np,wO h.fo⟩,.keep A.mO.1 kp⟩
def pG.nZ(h:pG a M A V){i:Nat}{k:rm}{c c':pk}{ad md:Addr}(e1:A.cs[i]?=some k)(e2:V.calls[i]?=some c)(ew:c'.way=c.way)(la:oR M ad=some (c'.at_.map D.str))(lm:oR M md=some (c'.ms.map D.str))(na:ad∉A.lists++V.fo)(nm:md∉A.lists++V.fo):
  pG a (pB M k.p (.ins a.e (qZ c' k.wy ad md))) A {V with calls:=V.calls.set i c'}/\qJ A M A (pB M k.p (.ins a.e (qZ c' k.wy ad md))):=by
 have kp:sd k.p M (pB M k.p (.ins a.e (qZ c' k.wy ad md))):=.put;obtain⟨_,_,h1,h2,_⟩:=h.cs i k c e1 e2;refine⟨⟨kp _ _ (dI (h.oQ.2 k (qG e1))) h.at_,kp.lst (pP h.ca h1) h.ca,kp.lst (pP h.le h1) h.le,kp.dk (CA h.nx h1) h.nx,kp.lst (pP h.on h1) h.on,kp.lst (pP h.lo h1) h.lo,by rw[h.len,ii],λj k' d f1 f2=>?_,h.nl,h.np,wO h.fo⟩,.keep (A.mO.2.2.2.2.2.1 k (qG e1)) kp⟩;rcases Ff f2 with⟨rfl,rfl,_⟩|⟨hj,f2⟩
 .rw[e1]at f1;cases f1;exact⟨ad,md,pL,by rw[ew];exact kp.lst (pP h2 h1) h2,kp.lst (pP la h1) la,kp.lst (pP lm h1) lm,na,nm⟩
 .exact(h.cs j k' d f1 f2).nR kp h1 λz=>hj (NG h.oQ.1 f1 e1 z)
def pG.oa(h:pG a M A V){i:Nat}{k:rm}{c:pk}{ws:QQQ}(e1:A.cs[i]?=some k)(e2:V.calls[i]?=some c):
  pG a (pB M k.wy (.lst (ws.map D.str))) A {V with calls:=V.calls.set i {c with way:=ws}}/\qJ A M A (pB M k.wy (.lst (ws.map D.str))):=by
 have kp:sd k.wy M (pB M k.wy (.lst (ws.map D.str))):=.put;obtain⟨ad,md,h1,h2,h3,h4,h5,h6⟩:=h.cs i k c e1 e2;obtain⟨n1,n2,n3,n4,n5,n6,nw⟩:=h.ne;obtain⟨w1,w2,w3,w4⟩:=nw k (qG e1);have kL:=h.oF.2.2.2.1 k (qG e1);refine⟨⟨kp _ _ (dI (pP h2 h.at_)) h.at_,kp.lst (dI w1) h.ca,kp.lst (dI w2) h.le,kp.dk (uJ h.nx h2) h.nx,kp.lst (dI w3) h.on,kp.lst (dI w4) h.lo,by rw[h.len,ii],λj k' d f1 f2=>?_,h.nl,h.np,wO h.fo⟩,.keep (A.mO.2.2.2.2.2.2 k (qG e1)) kp⟩;rcases Ff f2 with⟨rfl,rfl,_⟩|⟨hj,f2⟩
 .rw[e1]at f1;cases f1;exact⟨ad,md,kp _ _ (dI (pP h2 h1)) h1,pA,kp.lst (λz=>h5 (z ▸ kL)) h3,kp.lst (λz=>h6 (z ▸ kL)) h4,h5,h6⟩
 .exact(h.cs j k' d f1 f2).nM kp h2 kL λz=>hj (NG h.nw f1 e1 z)
noncomputable def sP.add(A:sP)(k:rm):sP:={A with cs:=A.cs++[k]}
def Ac(A:sP)(k:rm):(A.add k).lists=A.lists++[k.wy]:=by unfold sP.add sP.lists;rw[dP];rfl
def pG.oC(h:pG a M A V):(∀x∈A.lists,∃ds,oR M x=some ds)/\∀x∈A.foot,∃c,M x=some c:=by
 have hc:∀k∈A.cs,(∃ds,oR M k.wy=some ds)/\∃c,M k.p=some c:=λk hk=>by
  obtain⟨i,hi,e⟩:=gL hk;have e1:A.cs[i]?=some k:=by rw[cV hi,e]
  have X1:i<V.calls.length:=by rw[<-h.len];exact hi
  have e2:V.calls[i]?=some V.calls[i]:=cV X1;obtain⟨ad,md,h1,h2,_⟩:=h.cs i k _ e1 e2;exact⟨⟨_,h2⟩,_,h1⟩
 have hl:∀x∈A.lists,∃ds,oR M x=some ds:=λx hx=>by
  unfold sP.lists at hx;simp only[de,dB]at hx;rcases hx with rfl|rfl|rfl|rfl|⟨k,hk,rfl⟩
  .exact⟨_,h.ca⟩
  .exact⟨_,h.le⟩
  .exact⟨_,h.on⟩
  .exact⟨_,h.lo⟩
  .exact(hc k hk).1
 refine⟨hl,λx hx=>?_⟩;unfold sP.foot at hx;simp only[de,dU,dB]at hx;rcases hx with rfl|rfl|hx|⟨k,hk,rfl⟩
 .exact⟨_,h.at_⟩
 .exact⟨_,xX h.nx⟩
 .obtain⟨ds,e⟩:=hl x hx;exact⟨_,pU e⟩
 .exact(hc k hk).2
def pG.nS(h:pG a M A V){x:Addr}(hx:M x=none):x∉A.lists:=λz=>by obtain⟨ds,e⟩:=h.oC.1 x z;have:=pU e;rw[hx]at this;cases this
def pG.ng(h:pG a M A V){x:Addr}(hx:M x=none):x∉A.lists++V.fo:=λz=>by
 rcases dU.mp z with z|z
 .exact h.nS hx z
 .obtain⟨c,e⟩:=h.fo x z;rw[hx]at e;cases e
def pG.nQ(h:pG a M A V){x:Addr}(hx:M x=none):x∉A.foot:=λz=>by obtain⟨ds,e⟩:=h.oC.2 x z;rw[hx]at e;cases e
def pG.nW(h:pG a M A V)(s:qp M M1){p wy ad md:Addr}{c:pk}(hp:M p=none)(hw:M wy=none)(ha:M ad=none)(hm:M md=none)(h1:M1 p=some (.ins a.e (qZ c wy ad md)))(h2:oR M1 wy=some (c.way.map D.str))(h3:oR M1 ad=some (c.at_.map D.str))(h4:oR M1 md=some (c.ms.map D.str))(n1:ad≠wy)(n2:md≠wy):
  pG a (pB M1 A.ca (.lst ((A.cs.map λk=>D.ref k.p)++[.ref p]))) (A.add ⟨p,wy⟩) {V with calls:=V.calls++[c]}/\qJ A M (A.add ⟨p,wy⟩) (pB M1 A.ca (.lst ((A.cs.map λk=>D.ref k.p)++[.ref p]))):=by
 have h':=h.sub s;have kp:sd A.ca M1 (pB M1 A.ca (.lst ((A.cs.map λk=>D.ref k.p)++[.ref p]))):=.put;obtain⟨m1,m2,m3,m4,m5,m6,nw⟩:=h.ne;have wL:wy∉A.lists:=h.nS hw;have cL:=h.oF.1;have nl':∀x,x∉A.lists++V.fo->x≠wy->x∉(A.add ⟨p,wy⟩).lists++V.fo:=λx h1 h2=>by
  rw[Ac,dU,dU,dv]
  rintro ((z|z)|z)
  .exact h1 (fg _ z)
  .exact h2 z
  .exact h1 (d9 _ z)
 have old:∀x c,M x=some c->x≠wy:=λx c e z=>by rw[z,hw]at e;cases e
 refine⟨⟨kp _ _ (dI (pP h'.ca h'.at_)) h'.at_,?_,kp.lst (dI m1) h'.le,kp.dk (uJ h'.nx h'.ca) h'.nx,kp.lst (dI m2) h'.on,kp.lst (dI m3) h'.lo,?_,λi k d e1 e2=>?_,?_,?_,wO h'.fo⟩,λx d n e=>kp x d (λz=>n (z ▸ A.mO.2.2.1)) (s x d e),λx hx=>?_,λi k e=>by show(A.cs++[(⟨p,wy⟩:rm)])[i]?=some k;rw[eZ (cU.mp e).1];exact e,λx d e=>Ed (s x d e)⟩
 .show oR _ A.ca=some ((A.cs++[(⟨p,wy⟩:rm)]).map λk=>D.ref k.p);rw[dP];exact pA
 .show(A.cs++[(⟨p,wy⟩:rm)]).length=(V.calls++[c]).length;rw[cW,cW,h.len];rfl
 .have e1:(A.cs++[(⟨p,wy⟩:rm)])[i]?=some k:=e1;have e2:(V.calls++[c])[i]?=some d:=e2;by_cases hi:i<A.cs.length
  .rw[eZ hi]at e1;rw[eZ (by rw[<-h.len];exact hi)]at e2;obtain⟨ad',md',g1,g2,g3,g4,g5,g6⟩:=(h.cs i k d e1 e2);refine⟨ad',md',kp _ _ (λz=>by have:=s _ _ g1;rw[z,pU h'.ca]at this;cases this) (s _ _ g1),kp.lst (nw k (qG e1)).1 (s.lst g2),kp.lst (λz=>g5 (z ▸ cL)) (s.lst g3),kp.lst (λz=>g6 (z ▸ cL)) (s.lst g4),nl' _ g5 (old _ _ (pU g3)),nl' _ g6 (old _ _ (pU g4))⟩
  .have YJ:i=A.cs.length:=by have:=(cU.mp e1).1;rw[cW,dN]at this;omega
   subst YJ;rw[eR (dg _)]at e1;rw[h.len,eR (dg _)]at e2;simp only[g9,iB,jp]at e1 e2;subst e1 e2;have q1:p≠A.ca:=λz=>by rw[z,pU h'.ca]at h1;cases h1
   have q2:wy≠A.ca:=λz=>wL (z ▸ h.nY.1);exact⟨ad,md,kp p _ q1 h1,kp.lst (a:=wy) q2 h2,kp.lst (λz=>h.ng ha (z ▸ cL)) h3,kp.lst (λz=>h.ng hm (z ▸ cL)) h4,nl' _ (h.ng ha) n1,nl' _ (h.ng hm) n2⟩
 .rw[Ac];refine gj.mpr ⟨h.nl,dO.mpr ⟨dD,eG⟩,λx hx y hy=>?_⟩;rw[dv]at hy;subst hy;exact λz=>wL (z ▸ hx)
 .show(A.b::(A.cs++[(⟨p,wy⟩:rm)]).map (·.p)).Nodup;rw[dP,<-List.cons_append];refine gj.mpr ⟨h.np,dO.mpr ⟨dD,eG⟩,λx hx y hy=>?_⟩;rw[dR,iO,dv]at hy;subst hy;refine λz=>h.nQ hp (z ▸ ?_);rcases de.mp hx with y|y
  .rw[y];exact A.mO.1
  .obtain⟨k,hk,rfl⟩:=dB.mp y;exact A.mO.2.2.2.2.2.1 k hk
 .unfold sP.foot at hx;rw[Ac]at hx;have hx:x∈A.b::A.nx::(A.lists++[wy]++(A.cs++[(⟨p,wy⟩:rm)]).map (·.p)):=hx;simp only[de,dU,dP,dR,iO,dD,eX]at hx;unfold sP.foot;simp only[de,dU];rcases hx with z|z|(z|z)|(z|z)
  .exact .inl (.inl z)
  .exact .inl (.inr (.inl z))
  .exact .inl (.inr (.inr (.inl z)))
  .exact .inr (by rw[z];exact hw)
  .exact .inl (.inr (.inr (.inr z)))
  .exact .inr (by rw[z];exact hp)
def pG.oh{V:qd}{p:Addr}{es:List rP}(h:pG a M A V)(hp:M p=none):
  pG a (pB (pB M p (.lst (es.map rP.d))) A.b (.ins a.c (tR (.ref V.p) V.h V.t A.ca p A.nx A.on A.lo))) {A with le:=p} {V with mR:=es}/\qJ A M {A with le:=p} (pB (pB M p (.lst (es.map rP.d))) A.b (.ins a.c (tR (.ref V.p) V.h V.t A.ca p A.nx A.on A.lo))):=by
 have t:=qp.new (c:=.lst (es.map rP.d)) hp;have lp:=@pA M p (es.map rP.d);have h1:=h.sub t;have np:p∉A.lists:=h.nS hp;have nf:p∉A.foot:=h.nQ hp;have old:∀x c,M x=some c->x≠p:=λx c e z=>by rw[z,hp]at e;cases e
 generalize pB M p (.lst (es.map rP.d))=M1 at t lp h1 ⊢;have kp:sd A.b M1 (pB M1 A.b (.ins a.c (tR (.ref V.p) V.h V.t A.ca p A.nx A.on A.lo))):=.put;have sub:∀x,x∉A.lists++V.fo->x≠p->x∉({A with le:=p}:sP).lists++V.fo:=λx h1 h2 z=>by
  rcases dU.mp z with z|z
  rotate_left
  .exact h1 (d9 _ z)
  have h1:x∉A.lists:=λy=>h1 (fg _ y);unfold sP.lists at h1 z;simp only[de,fK]at h1 z;rcases z with z|z|z|z|z
  .exact h1.1 z
  .exact h2 z
  .exact h1.2.2.1 z
  .exact h1.2.2.2.1 z
  .exact h1.2.2.2.2 z
 refine⟨⟨pL,kp.lst (pP h1.ca h1.at_) h1.ca,kp.lst (pP lp h1.at_) lp,kp.dk (CA h1.nx h1.at_) h1.nx,kp.lst (pP h1.on h1.at_) h1.on,kp.lst (pP h1.lo h1.at_) h1.lo,h.len,λi k c e1 e2=>?_,?_,h.np,wO h1.fo⟩,λx c n e=>kp x c (λz=>n (z ▸ A.mO.1)) (t x c e),λx hx=>?_,λi k e=>e,λx d e=>Ed (t x d e)⟩
 .obtain⟨ad,md,g1,g2,g3,g4,g5,g6⟩:=(h.cs i k c e1 e2);obtain⟨ad',md',f1,f2,f3,f4,f5⟩:=((h.cs i k c e1 e2).sub t).nR kp h1.at_ (h.oQ.2 k (qG e1));have q1:=kp _ _ (λz=>h.oQ.2 k (qG e1) z) (t _ _ g1);exact⟨ad,md,q1,f2,kp.lst (pP (t.lst g3) h1.at_) (t.lst g3),kp.lst (pP (t.lst g4) h1.at_) (t.lst g4),sub _ g5 (old _ _ (pU g3)),sub _ g6 (old _ _ (pU g4))⟩
 .have n:=h.nl;unfold sP.lists at n np ⊢;simp only[de,fK]at np;simp only[dO,de,fK]at n ⊢;exact⟨⟨λz=>np.1 z.symm,n.1.2⟩,⟨np.2.2.1,np.2.2.2.1,np.2.2.2.2⟩,n.2.2⟩
 .by_cases z:x=p
  .exact .inr (z ▸ hp)
  .refine .inl ?_;unfold sP.foot sP.lists at hx ⊢;simp only[de,dU]at hx ⊢;rcases hx with y|y|(y|y|y|y|y)|y
   .exact .inl y
   .exact .inr (.inl y)
   .exact .inr (.inr (.inl (.inl y)))
   .exact absurd y z
   .exact .inr (.inr (.inl (.inr (.inr (.inl y)))))
   .exact .inr (.inr (.inl (.inr (.inr (.inr (.inl y))))))
   .exact .inr (.inr (.inl (.inr (.inr (.inr (.inr y))))))
   .exact .inr (.inr (.inr y))
def pG.frame{V:qd}(h:pG a M A V)(st:qJ A1 M A2 M')(h1:∀x∈A1.foot,x∉A.foot)(h2:∀x∈A1.foot,x∈V.fo\/M x=none):pG a M' A V:=by
 have hf:∀x∈A.foot,∀c,M x=some c->M' x=some c:=λx hx c e=>st.1 x c (λz=>h1 x z hx) e;have hl:∀{x:Addr} {ds:T0 D},x∈A.foot->oR M x=some ds->oR M' x=some ds:=λhx e=>rM (hf _ hx _ (pU e));have ho:∀{x:Addr} {ds:T0 D},x∉A.lists++V.fo->oR M x=some ds->oR M' x=some ds:=λ{x ds} hx e=>rM (st.1 x _ (λz=>(h2 x z).elim (λy=>hx (d9 _ y)) λy=>by rw[pU e]at y;cases y) (pU e));obtain⟨f1,f2,f3,f4,f5,f6,f7⟩:=A.mO;exact⟨hf _ f1 _ h.at_,hl f3 h.ca,hl f4 h.le,Ck (hf _ f2 _ (xX h.nx)),hl (A.nF h.nY.2.2.2.2) h.on,hl f5 h.lo,h.len,λi k c e1 e2=>by
  obtain⟨ad,md,g1,g2,g3,g4,g5,g6⟩:=h.cs i k c e1 e2;exact⟨ad,md,hf _ (f6 k (qG e1)) _ g1,hl (f7 k (qG e1)) g2,ho g5 g3,ho g6 g4,g5,g6⟩,h.nl,h.np,λx hx=>(h.fo x hx).elim λc e=>st.2.2.2 x c e⟩
def zj(x:D)(l:T0 D):wj (x::l) 0=some x:=by
 unfold wj;have:G7 (x::l).length 0=some 0:=by unfold G7;rw[eh];simp
 rw[this];rfl
def xB(f:pk->Str->Bool)(a:Ad):qY:=λds M Q=>Bg λL k c x=>ds=[.ref k.p,.str x]/\rF a M L k c/\Q (.bl (f c x)) M
abbrev HU:=xB pk.hasB
abbrev yY:=xB pk.mP
abbrev EZ:=xB pk.mX
abbrev yJ:=xB pk.mQ
abbrev vE:=xB pk.mJ
abbrev FD:=xB pk.mS
abbrev wY:=xB pk.nv
noncomputable def Om(x:Str):D->Bool
 | .str y=>!(y==x)
 | _=>false
def y0(a:Ad):qY:=λds M Q=>IF λL k c x y r=>ds=[.ref k.p,.str x]/\rF a M L k c/\c.ms.length<=100/\rC c.ms x=y::r/\Q (.str y) M
def Bs(ss:QQQ)(x:Str):[]++(List.filter (Om x) (ss.map D.str)).map id=(rC ss x).map D.str:=by rw[dY,je,gQ];rfl
def DB{k:Addr}{ks:QQQ}{c:Str}{K:DK}(hk:oR M k=some (ks.map D.str))(h:K (.bl (hasS ks c)) M):Te false (.str c) (.ref k) M K:=by refine i' hk ⟨rfl,qo ks,?_⟩;show K (.bl (inD (.str c) (ks.map D.str))) M;rw[sr];exact h
def WK(w x y:Str):inD (.str w) [.str x,.str y]=(w==x||w==y):=by rw[show[D.str x,D.str y]=[x,y].map D.str from rfl,sr,gi];simp only[fY,List.any_nil,kt,gP,fh];exact⟨λh=>h.imp l8 l8,λh=>h.imp l8 l8⟩
def Sl:Fq P w K mg base 1 a.bI (HU a):=by
 refine fq G.bI.toDG Gx (λr u=>⟨_,(oY (pN (pD u (pq v0) pj)
 (o9 (pz (IJ (qc u U1 (pq v0)) (sA (qc u U1 (pq v0))))))
 pF)
 (oY (pN (pD u (pq v0) pj)
 (o9 (pz (qc u U1 (pq v0))))
 pF)
 (o9 (pz (sQ (qc u (pq v0) (pK (rN pj pj))) (sA (qc u U1 (pq v0)))))))),?_⟩)
 rintro ds M Q ⟨L,k,c,x,rfl,⟨ad,md,h1,h2,h3,h4,_⟩,q⟩
 unfold pk.hasB at q;refine oZ h1 (i' rfl ?_);refine qA (c:=c.st=="rings") (λg=>?_) (λg=>?_)
 .rw[cZ g]at q;refine oZ h1 (i' rfl (qA (c:=x==c.cr) (λg2=>?_) (λg2=>?_)))
  .rw[g2]at q;exact⟨M,.refl,q⟩
  .rw[show(x==c.cr)=false from dF.mpr g2,fM]at q;exact oZ h1 (i' rfl (DB h3 ⟨M,.refl,q⟩))
 .rw[cX g]at q;refine oZ h1 (i' rfl ?_);refine qA (c:=c.st=="waits") (λg2=>?_) (λg2=>?_)
  .rw[cZ g2]at q;exact oZ h1 (i' rfl ⟨M,.refl,q⟩)
  .rw[cX g2]at q;refine oZ h1 (i' rfl ⟨oW rfl,rfl,rfl,?_⟩);show if inD (.str c.st) [.str "talks",.str "held"]=true then _ else _
   rw[WK];refine qA (λg3=>?_) (λg3=>?_)
   .rw[g3,eI]at q;exact oZ h1 (i' rfl (DB h4 ⟨M,.refl,q⟩))
   .rw[show(c.st=="talks"||c.st=="held")=false from dF.mpr g3,eQ]at q;exact⟨M,.refl,q⟩
def vM:Fq P w K mg base 1 a.T (yY a):=by
 refine fq G.T.toDG yS (λr u=>⟨_,(o9 (pz (sQ (qc u (pq v0) pj) (sA (qc u U1 (pq v0)))))),?_⟩)
 rintro ds M Q ⟨L,k,c,x,rfl,⟨ad,md,h1,h2,h3,h4,_⟩,q⟩
 unfold pk.mP at q;refine oZ h1 (i' rfl (qA (c:=c.st=="talks") (λg=>?_) (λg=>?_)))
 .rw[g,eI]at q;exact oZ h1 (i' rfl (DB h4 ⟨M,.refl,q⟩))
 .rw[show(c.st=="talks")=false from dF.mpr g,eQ]at q;exact⟨M,.refl,q⟩
def K9:Fq P w K mg base 2 a.bH (EZ a):=by
 refine fq G.bH.toDG Dk (λr u=>⟨_,(oY (pN (pD u (pq v0) pj)
 (o9 (pz (sQ (qc u U1 (pq v0)) (sA (qc u U1 (pq v0))))))
 pF)
 (o9 (pz (pR v0 G.e.toCls G.T (vM G) r (qb U1))))),?_⟩)
 rintro ds M Q ⟨L,k,c,x,rfl,hc,q⟩
 obtain⟨ad,md,h1,h2,h3,h4,_⟩:=id hc;unfold pk.mX at q;refine oZ h1 (i' rfl ?_);refine qA (c:=c.st=="held") (λg=>?_) (λg=>?_)
 .rw[cZ g]at q;refine oZ h1 (i' rfl (i' h4 ⟨rfl,qo c.ms,?_⟩));show if inD (.str x) (c.ms.map D.str)=true then _ else _
  rw[sr];refine qA (c:=hasS c.ms x) (λg2=>?_) (λg2=>?_)
  .rw[g2,eI]at q;refine oZ h1 (i' rfl ?_);cases e:c.hd with
   | none=>rw[e]at q;exact⟨M,.refl,q⟩
   | some y=>
    rw[e]at q;refine⟨M,.refl,?_⟩;rw[show(!(some y==some x))=!(x==y)from by
     show(!(y==x))=_;rw[ma]]at q
    exact q
  .rw[show hasS c.ms x=false from dF.mpr g2,eQ]at q;exact⟨M,.refl,q⟩
 .rw[cX g]at q;exact oZ h1 ⟨rfl,_,⟨rfl,rfl⟩,L,k,c,x,rfl,hc,M,.refl,q⟩
def Cf:Fq P w K mg base 1 a.V (yJ a):=by
 refine fq G.V.toDG ya (λr u=>⟨_,(o9 (pz (sQ (qc u (pq v0) (pK (rN pj pj))) (sA (qc u U1 (pq v0)))))),?_⟩)
 rintro ds M Q ⟨L,k,c,x,rfl,⟨ad,md,h1,h2,h3,h4,_⟩,q⟩
 unfold pk.mQ at q;refine oZ h1 (i' rfl ⟨oW rfl,rfl,rfl,?_⟩);show if inD (.str c.st) [.str "rings",.str "waits"]=true then _ else _
 rw[WK];refine qA (λg3=>?_) (λg3=>?_)
 .rw[g3,eI]at q;exact oZ h1 (i' rfl ⟨M,.refl,q⟩)
 .rw[show(c.st=="rings"||c.st=="waits")=false from dF.mpr g3,eQ]at q;exact⟨M,.refl,q⟩
def Gz:Fq P w K mg base 1 a.aw (vE a):=by
 refine fq G.aw.toDG yB (λr u=>⟨_,(o9 (pz (sQ (qc u (pq v0) pj) (sA (qc u U1 (pq v0)))))),?_⟩)
 rintro ds M Q ⟨L,k,c,x,rfl,⟨ad,md,h1,h2,h3,h4,_⟩,q⟩
 unfold pk.mJ at q;refine oZ h1 (i' rfl (qA (c:=c.st=="waits") (λg=>?_) (λg=>?_)))
 .rw[g,eI]at q;exact oZ h1 (i' rfl (DB h3 ⟨M,.refl,q⟩))
 .rw[show(c.st=="waits")=false from dF.mpr g,eQ]at q;exact⟨M,.refl,q⟩
def LA:Fq P w K mg base 2 a.bG (wY a):=by
 refine fq G.bG.toDG wC (λr u=>⟨_,(o9 (pz (IJ (pR v0 G.e.toCls G.V (Cf G) r (qb U1)) (IJ (qc u U1 (pq v0)) (sA (qc u U1 (pq v0))))))),?_⟩)
 rintro ds M Q ⟨L,k,c,x,rfl,hc,q⟩
 obtain⟨ad,md,h1,h2,h3,h4,_⟩:=id hc;unfold pk.nv at q;refine oZ h1 ⟨rfl,_,⟨rfl,rfl⟩,L,k,c,x,rfl,hc,qA (c:=c.mQ x) (λg=>?_) (λg=>?_)⟩
 .rw[g]at q;exact⟨M,.refl,q⟩
 .rw[show c.mQ x=false from dF.mpr g,fM]at q;refine oZ h1 (i' rfl (i' h3 ⟨rfl,qo c.at_,?_⟩));show if inD (.str x) (c.at_.map D.str)=true then _ else _
  rw[sr];refine qA (c:=hasS c.at_ x) (λg2=>?_) (λg2=>?_)
  .rw[g2]at q;exact⟨M,.refl,q⟩
  .rw[show hasS c.at_ x=false from dF.mpr g2,fM]at q;exact oZ h1 (i' rfl (DB h4 ⟨M,.refl,q⟩))
def GH:Fq P w K mg base 2 a.ay (FD a):=by
 refine fq G.ay.toDG Df (λr u=>⟨_,(o9 (pz (sQ (pR v0 G.e.toCls G.T (vM G) r (qb U1)) (sA (qc u (pO qv rfl G.g ql (qb (pq v0))) pb))))),?_⟩)
 rintro ds M Q ⟨L,k,c,x,rfl,hc,q⟩
 obtain⟨ad,md,h1,h2,h3,h4,_⟩:=id hc;unfold pk.mS at q;refine oZ h1 ⟨rfl,_,⟨rfl,rfl⟩,L,k,c,x,rfl,hc,qA (c:=c.mP x) (λg=>?_) (λg=>?_)⟩
 .rw[g,eI]at q;refine oZ h1 (i' rfl (i' h4 ⟨M,.refl,?_⟩));rw[cS];have:(((c.ms.length:Nat):Int)==2)=(c.ms.length==2):=by rw[gi,fh,fh];omega
  show Q (.bl (((c.ms.length:Nat):Int)==2)) M;rw[this];exact q
 .rw[show c.mP x=false from dF.mpr g,eQ]at q;exact⟨M,.refl,q⟩
def G5:Fq P w K mg base 1 a.ax (y0 a):=by
 refine fq G.ax.toDG yu (λr u=>⟨_,(o9 (pz (pI (qB rfl (yg (ix:=[none,some 1]) (N':=["member","phone"])) (qF (pq v0)) (qz 0) (vP (pD u v0 U1)) v0) pb))),?_⟩)
 rintro ds M Q ⟨L,k,c,x,y,r,rfl,hc,hl,e,q⟩
 have hz:=dH;obtain⟨ad,md,h1,h2,h3,h4,_⟩:=id hc;refine oZ h1 (i' rfl (i' h4 (tM (f:=id) (t:=Om x) h4 _ [] _ (by rw[cS];simp only[dM];omega) (λd hd k0 hk=>?_) (λd hd _ k0 hk=>?_) λp hp=>?_)))
 .obtain⟨y,hy,rfl⟩:=dB.mp hd;exact hk
 .obtain⟨y,hy,rfl⟩:=dB.mp hd;exact hk
 rw[Bs,e];exact i' pA (i' (zj _ _) ⟨M,.new hp,q⟩)
theorem B2:∀bs:T0 Bool,AK (.bl true) (bs.map D.bl)=bs.findIdx? id
 | []=>rfl
 | b::r=>by rw[dR,List.findIdx?_cons];unfold AK;rw[B2 r];cases b<;>rfl
theorem MT(x:D):∀ds:T0 D,(AK x ds).isSome=ds.any λd=>Pe d x
 | []=>rfl
 | d::r=>by
  unfold AK;rw[fY];by_cases h:Pe d x=true
  .rw[cZ h,h];rfl
  .rw[cX h,jo,MT x r,show Pe d x=false from dF.mpr h,fM]
theorem B':∀bs:T0 Bool,(bs.map D.bl).all uQ=true
 | []=>rfl
 | _::r=>by rw[dR,eU,B' r];rfl
structure Rd(a:Ad)(M:Mp)(A:sP)(V:qd)(l:pC):Prop where
 bd:pG a M A V
 k:V.calls.length<=1000000
 pl:se a M V.p l
 ok:qV l
 on:V.on.length=l.mD.length
 ms:∀c∈V.calls,(∀x∈c.ms,x∈l.pn)/\c.ms.length<=100
def Rd.sub{V:qd}(h:Rd a M A V l)(s:qp M M'):Rd a M' A V l:=⟨h.bd.sub s,h.k,h.pl.sub s,h.ok,h.on,h.ms⟩
def LY:qY:=λds M Q=>A8 λr bs=>ds=[.ref r]/\oR M r=some (List.map D.bl bs)/\Q (ON (bs.findIdx? id)) M
def Ku(f:qd->Str->D)(a:Ad):qY:=λds M Q=>C8 λA V x=>ds=[.ref A.b,.str x]/\pG a M A V/\V.calls.length<=1000000/\Q (f V x) M
noncomputable def UL(V:qd)(x:Str):D:=.int (uS V x:Nat)
noncomputable def KU(V:qd)(x:Str):D:=ON (Ey V x)
noncomputable def Aq(V:qd)(x:Str):D:=ON (vw V x)
noncomputable def UX(V:qd)(x:Str):D:=ON (JK V x)
noncomputable def UC(V:qd)(x:Str):D:=.bl (Ax V x)
abbrev E2:=Ku UL
abbrev C7:=Ku KU
abbrev AE:=Ku Aq
abbrev AZ:=Ku UX
abbrev Ai:=Ku UC
def wU(a:Ad):qY:=λds M Q=>Bg λA V l x=>ds=[.ref A.b,.str x]/\Rd a M A V l/\x∈l.pn/\Q (.bl (tS l V x)) M
def zM(a:Ad):qY:=λds M Q=>F0 λA V l c z=>ds=[.ref A.b,.str c,.str z]/\Rd a M A V l/\z∈l.nm/\∀q M',qp M M'->M q=none->oR M' q=some ((uh l V c z).map D.str)->Q (.ref q) M'
def zV(a:Ad):qY:=λds M Q=>A8 λA V=>ds=[.ref A.b]/\pG a M A V/\Q (.int ((V.h+V.t) % 24)) M
def QC(a:Ad):qY:=λds M Q=>F0 λA V l c z=>ds=[.ref A.b,.str c,.str z]/\Rd a M A V l/\z∈l.nm/\Q (.bl (xE l V c z)) M
def Ee{V:qd}(h:pG a M A V){pre post:T0 D}{d:D}(e:pre++d::post=A.cs.map λk=>D.ref k.p):∃k c,A.cs[pre.length]?=some k/\V.calls[pre.length]?=some c/\d=.ref k.p/\rF a M (A.lists++V.fo) k c/\V.calls.take (pre.length+1)=V.calls.take pre.length++[c]:=by
 have h1:(A.cs.map λk=>D.ref k.p)[pre.length]?=some d:=by rw[<-e];simp
 rw[dz]at h1;cases z:A.cs[pre.length]? with
 | none=>rw[z]at h1;cases h1
 | some k=>
  rw[z]at h1;have hi:pre.length<V.calls.length:=by rw[<-h.len];exact(cU.mp z).1
  have e2:V.calls[pre.length]?=some V.calls[pre.length]:=cV hi;refine⟨k,_,rfl,e2,(df h1).symm,h.cs _ _ _ z e2,?_⟩;rw[gU,e2];rfl
def yR{l:pC}{x:Str}(h:x∈l.pn):∃v,l.mV x=some v:=by
 obtain⟨p,hp,rfl⟩:=dB.mp h;unfold pC.mV;cases e:l.mF.find? λq=>decide (q.1=p.1)with
 | some v=>exact⟨v,rfl⟩
 | none=>exact absurd (gR.mp e p hp) (by simp)
def qN:hasS ss x=true↔x∈ss:=by unfold hasS;rw[gw];exact⟨λ⟨y,hy,e⟩=>eq_of_beq e ▸ hy,λh=>⟨x,h,fA _⟩⟩
def Ke(h:wq ss=true):ss.Nodup:=by
 have h:(sT ss).length=ss.length:=by unfold wq at h;have:=fh.mp h;omega
 suffices key:∀r:QQQ,(sT r.reverse).length=r.reverse.length->r.reverse.Nodup by have:=key ss.reverse;rw[List.reverse_reverse]at this;exact this h
 intro r;induction r with
 | nil=>intro _;exact eG
 | cons k r ih=>
  intro h;rw[List.reverse_cons]at h ⊢;generalize r.reverse=l at ih h ⊢;rw[xU]at h;split at h
  .have:=Jk l;rw[cW,dN]at h;omega
  .rename_i hk;rw[cW,cW,dN]at h;have h1:=ih (by omega);rw[Nl]at hk;refine gj.mpr ⟨h1,by simp,λx hx y hy=>?_⟩;rw[dv.mp hy];exact λz=>hk (z ▸ hx)
def HJ{m:Int}(h:sv cs ks m=true):cs≠[]/\(cs.length:Int)<=m/\cs.Nodup/\∀x∈cs,x∈ks:=by unfold sv at h;simp only[dQ,d6,eC]at h;obtain⟨h1,h2,h3,h4⟩:=h;refine⟨λz=>by rw[z]at h1;exact absurd h1 (by decide),h2,Ke h3,λx hx=>qN.mp (h4 x hx)⟩
def qV.of(ok:qV l){z:Str}(hz:z∈l.nm):(l.mC z≠[]/\(l.mC z).length<=4/\(l.mC z).Nodup/\∀x∈l.mC z,x∈l.pn)/\(z∈l.pn->l.mC z=[z]/\l.mK z="one"):=by
 have hd:=gj.mp ok.nd;have h1:z∈l.pn->l.group z=none:=λh=>gR.mpr λg hg e=>hd.2.2 z h g.1 (dB.mpr ⟨g,hg,rfl⟩) (by simpa using e:g.1=z).symm;refine⟨?_,λh=>by unfold pC.mC pC.mK;rw[h1 h];exact⟨rfl,rfl⟩⟩;unfold pC.mC;cases e:l.group z with
 | none=>
  have hp:z∈l.pn:=by
   rcases dU.mp hz with h|h
   .exact h
   .obtain⟨g,hg,rfl⟩:=dB.mp h;exact absurd (gR.mp e g hg) (by simp)
  exact⟨fB _ _,by show 1<=4;decide,dO.mpr ⟨dD,eG⟩,λx hx=>by rw[dv.mp hx];exact hp⟩
 | some g=>obtain⟨c1,c2,c3,c4⟩:=HJ (ok.go g (gf e)).mem;exact⟨c1,by show g.2.2.length<=4;omega,c3,c4⟩
def xY{V:qd}{f:pk->Str->Bool}{m x:Str}{Q:DK}{ok:Mp->Prop}(bd:pG a M A V)(hk:V.calls.length<=1000000)(mM:ok M)(hm:∀c wy ad md,(qZ c wy ad md).lookup m=none)(q:∀p,M p=none->Q (.ref p) (pB M p (.lst ((V.calls.map λc=>f c x).map D.bl)))):
  uO (uw 0) Bt (Aw m (λC s=>C=a.e/\s=xB f a) (v3 0) (vi (v3 1) xu)) ok Q (A.cs.map λk=>D.ref k.p) [] [none,some (.str x)] M:=by
 have hz:=dH;refine Bp (A.cs.map λk=>D.ref k.p) (λpre acc U M'=>M=M'/\acc=((V.calls.take pre.length).map λc=>f c x).map D.bl/\∃y,U=[y,some (.str x)]) (λ_ _ _ M' j=>by rw[<-j.1];exact mM) _ [] [] _ _ rfl ?_ ⟨rfl,rfl,none,rfl⟩ ?_ ?_
 .rw[cS,bd.len];simp only[dM];omega
 .rintro pre d post e acc U M' ⟨rfl,rfl,y,rfl⟩ k hk
  obtain⟨ka,c,e1,e2,rfl,hc,et⟩:=Ee bd e;obtain⟨_,_,g1,_⟩:=id hc;refine oZ g1 ⟨hm _ _ _ _,_,⟨rfl,rfl⟩,_,ka,c,x,rfl,hc,hk _ _ _ ⟨rfl,?_,_,rfl⟩⟩;rw[cW,dN,et,dP,dP];rfl
 .rintro acc U M' ⟨rfl,rfl,y,rfl⟩ p hp
  rw[cS,bd.len,fE];exact q p hp
def BY:Fq P w K mg base 1 a.M LY:=by
 refine fq G.M.toDG zN (λr u=>⟨_,(oY (pN (pD u yo v0)
 (o9 (pz (xt v0 (qb yo))))
 pF)
 (o9 (pz rD))),?_⟩)
 rintro ds M Q ⟨r,bs,rfl,hr,q⟩
 have ei:inD (.bl true) (bs.map D.bl)=(bs.findIdx? id).isSome:=by rw[<-B2];exact(MT _ _).symm
 refine i' hr ⟨rfl,B' bs,?_⟩;show if inD (.bl true) (bs.map D.bl)=true then _ else _
 rw[ei];cases e:bs.findIdx? id with
 | none=>rw[e]at q;exact⟨M,.refl,q⟩
 | some j=>rw[e]at q;exact O9 ⟨by show(oR M r).isSome=true;rw[hr];rfl,i' hr ⟨rfl,B' bs,i' ((B2 bs).trans e) ⟨M,.refl,q⟩⟩⟩
def PB:Fq P w K mg base 2 a.bE (E2 a):=by
 refine fq G.bE.toDG Dn (λr u=>⟨_,(o9 (pz (pO qv rfl G.g ql (qb (qB rfl (yg (ix:=[none,some 1]) (N':=["call","phone"])) (qF (pq v0)) (qz 0) (vP (vv (pR v0 G.e.toCls G.bI (Sl G) r (qb U1)))) v0))))),?_⟩)
 rintro ds M Q ⟨A,V,x,rfl,bd,Xx,q⟩
 have hz:=dH;refine oZ bd.at_ (i' rfl (i' bd.ca ?_));refine xW (A.cs.map λk=>D.ref k.p) (λpre acc U M'=>M=M'/\acc.length=((V.calls.take pre.length).filter (·.hasB x)).length/\∃y,U=[y,some (.str x)]) (λ_ _ _ M' j=>by rw[<-j.1];exact bd.ca) _ [] [] _ _ rfl ?_ ⟨rfl,rfl,none,rfl⟩ ?_ ?_
 .rw[cS,bd.len];simp only[dM];omega
 .rintro pre d post e acc U M' ⟨rfl,ha,y,rfl⟩ k k2 hk Za
  obtain⟨ka,c,e1,e2,rfl,hc,et⟩:=Ee bd e;rw[cW,dN,et,jj]at hk Za;obtain⟨_,_,g1,_⟩:=id hc;refine oZ g1 ⟨rfl,_,⟨rfl,rfl⟩,_,ka,c,x,rfl,hc,?_⟩;refine qA (c:=c.hasB x) (λg=>?_) (λg=>?_)
  .refine hk _ _ _ ⟨rfl,?_,_,rfl⟩;rw[cW,cW,ha,iz (by exact g)];rfl
  .refine Za _ _ ⟨rfl,?_,_,rfl⟩;rw[cW,ha,iA (by exact g)];rfl
 .rintro acc U M' ⟨rfl,ha,y,rfl⟩ p hp
  refine i' pA ⟨M,.new hp,?_⟩;rw[cS,bd.len,fE]at ha;rw[ha];exact q
def Nj:Fq P w K mg base 3 a.bC (C7 a):=by
 refine fq G.bC.toDG Bw (λr u=>⟨_,(o9 (pz (pE (BY G) r G.M (qb (qB rfl (yg (ix:=[none,some 1]) (N':=["call","phone"])) (qF (pq v0)) (qz 0) rQ (pR v0 G.e.toCls G.bH (K9 G) r (qb U1))))))),?_⟩)
 rintro ds M Q ⟨A,V,x,rfl,bd,Xx,q⟩
 refine oZ bd.at_ (i' rfl (i' bd.ca (xY bd Xx bd.ca (λ_ _ _ _=>rfl) λp hp=>⟨p,_,rfl,pA,M,.new hp,?_⟩)));rw[gX];exact q
def HW:Fq P w K mg base 3 a.bD (AZ a):=by
 refine fq G.bD.toDG zK (λr u=>⟨_,(o9 (pz (pE (BY G) r G.M (qb (qB rfl (yg (ix:=[none,some 1]) (N':=["call","phone"])) (qF (pq v0)) (qz 0) rQ (pR v0 G.e.toCls G.V (Cf G) r (qb U1))))))),?_⟩)
 rintro ds M Q ⟨A,V,x,rfl,bd,Xx,q⟩
 refine oZ bd.at_ (i' rfl (i' bd.ca (xY bd Xx bd.ca (λ_ _ _ _=>rfl) λp hp=>⟨p,_,rfl,pA,M,.new hp,?_⟩)));rw[gX];exact q
def yK:Fq P w K mg base 3 a.S (AE a):=by
 refine fq G.S.toDG Aj (λr u=>⟨_,(o9 (pz (pE (BY G) r G.M (qb (qB rfl (yg (ix:=[none,some 1]) (N':=["call","phone"])) (qF (pq v0)) (qz 0) rQ (pR v0 G.e.toCls G.T (vM G) r (qb U1))))))),?_⟩)
 rintro ds M Q ⟨A,V,x,rfl,bd,Xx,q⟩
 refine oZ bd.at_ (i' rfl (i' bd.ca (xY bd Xx bd.ca (λ_ _ _ _=>rfl) λp hp=>⟨p,_,rfl,pA,M,.new hp,?_⟩)));rw[gX];exact q
def G2:Fq P w K mg base 3 a.bL (Ai a):=by
 refine fq G.bL.toDG zA (λr u=>⟨_,(o9 (pz (pO (RA rfl) rfl G.cF SL (qb (qB rfl (yg (ix:=[none,some 1]) (N':=["call","phone"])) (qF (pq v0)) (qz 0) rQ (pR v0 G.e.toCls G.aw (Gz G) r (qb U1))))))),?_⟩)
 rintro ds M Q ⟨A,V,x,rfl,bd,Xx,q⟩
 refine oZ bd.at_ (i' rfl (i' bd.ca (xY bd Xx bd.ca (λ_ _ _ _=>rfl) λp hp=>i' pA ?_)));rw[dX];refine i' (x8 _ _) ⟨M,.new hp,?_⟩;rw[jK];exact q
def GF:Fq P w K mg base 1 a.bK (zV a):=by
 refine fq G.bK.toDG yX (λr u=>⟨_,(o9 (pz (pS (pS (pq v0) (pq v0)) pb))),?_⟩)
 rintro ds M Q ⟨A,V,rfl,bd,q⟩
 exact oZ bd.at_ (i' rfl (oZ bd.at_ (i' rfl ⟨by decide,M,.refl,q⟩)))
def Lq{l:pC}{x:Str}{v:uz}(h:l.mV x=some v):wA l x=v.2.1:=by unfold wA;rw[h];rfl
def yr:Fq P w K mg base 3 a.U (wU a):=by
 refine fq G.U.toDG Ak (λr u=>⟨_,(o9 (pz (qc u (pR v0 G.c.toCls G.bE (PB G) r (qb U1)) (pR (pq v0) G.h.toCls G.bF (Dh G) r (qb U1))))),?_⟩)
 rintro ds M Q ⟨A,V,l,x,rfl,rd,hx,q⟩
 obtain⟨ph,gr,ws,Yz,pr,gd,rs,i1,_⟩:=rd.pl;obtain⟨v,hv⟩:=yR hx;refine oZ rd.bd.at_ ⟨rfl,_,⟨rfl,rfl⟩,A,V,x,rfl,rd.bd,rd.k,?_⟩;refine oZ rd.bd.at_ (i' rfl (oZ i1 ⟨rfl,_,⟨rfl,rfl⟩,V.p,x,v,l,rfl,rd.pl,hv,?_⟩));unfold tS at q;rw[Lq hv]at q;exact⟨M,.refl,q⟩
def An:Fq P w K mg base 4 a.aN (zM a):=by
 refine fq G.aN.toDG zw (λr u=>⟨_,(o9 (pz (qB rfl (yg (ix:=[none,some 1,some 0]) (N':=["phone","caller","self"])) (qF (pR (pq v0) G.h.toCls G.X (uj G) r (qb U2))) (qz 0) (vP (W3.b3 (yA (pD u v0 U1) (xO (vv (pR U2 G.c.toCls G.U (yr G) r (qb v0))))))) v0))),?_⟩)
 rintro ds M Q ⟨A,V,l,c,z,rfl,rd,Yb,q⟩
 obtain⟨ph,gr,ws,Yz,pr,gd,rs,i1,_⟩:=rd.pl;obtain⟨⟨_,p4,_,pin⟩,_⟩:=rd.ok.of Yb;refine oZ rd.bd.at_ (i' rfl (oZ i1 ⟨rfl,_,⟨rfl,rfl⟩,V.p,z,l,rfl,rd.pl,λq1 XG=>i' pA ?_⟩));have s1:=qp.new (c:=.lst (List.map D.str (l.mC z))) XG;have c1:=@pA M q1 (List.map D.str (l.mC z));generalize pB M q1 (.lst (List.map D.str (l.mC z)))=M1 at s1 c1 ⊢;have hz:=dH;have Y0:=rd.sub s1;refine tM (f:=id) (t:=λd=>match d with|.str x=>!(x==c)&&tS l V x|_=>false) c1 _ [] _ (by rw[cS];simp only[dM];omega) (λd hd k hk=>?_) (λd hd _ k hk=>?_) λq2 Yq=>?_
 .obtain⟨x,hx,rfl⟩:=dB.mp hd;have hk:k (!(x==c)&&tS l V x) M1:=hk;cases e:x==c with
  | true=>rw[e]at hk;refine K0 (c:=!(x==c)) (by rw[e];rfl) hk
  | false=>rw[e]at hk;refine AF (c:=!(x==c)) (by rw[e];rfl) (oZ Y0.bd.at_ ⟨rfl,_,⟨rfl,rfl⟩,A,V,l,x,rfl,Y0,pin x hx,hk⟩)
 .obtain⟨x,hx,rfl⟩:=dB.mp hd;exact hk
 .have ef:[]++(List.filter (λd=>match d with|.str x=>!(x==c)&&tS l V x|_=>false) ((l.mC z).map D.str)).map id=(uh l V c z).map D.str:=by rw[dY,je,gQ];rfl
  rw[ef];have t2:=qp.new (c:=.lst ((uh l V c z).map D.str)) Yq;exact⟨_,.refl,q q2 _ (s1.trans t2) (s1.none Yq) pA⟩
def FF:Fq P w K mg base 5 a.O (QC a):=by
 refine fq G.O.toDG Ir (λr u=>⟨_,(o9 (pz (qc u (pO qv rfl G.g ql (qb (pR v0 G.c.toCls G.aN (An G) r (rN U1 U2)))) pb))),?_⟩)
 rintro ds M Q ⟨A,V,l,c,z,rfl,rd,tg,q⟩
 refine oZ rd.bd.at_ ⟨rfl,_,⟨rfl,rfl⟩,A,V,l,c,z,rfl,rd,tg,λq1 M1 s1 XG e1=>i' e1 ⟨M,s1,?_⟩⟩;have e:((((uh l V c z).map D.str).length:Int)==0)=xE l V c z:=by unfold xE;rw[cS,gi,fh,List.isEmpty_iff,<-gm];omega
 show Q (.bl ((((uh l V c z).map D.str).length:Int)==0)) M;rw[e];exact q
def ww(a:Ad)(v:Wi):qY:=λds M Q=>IF λp A V l c z=>ds=[.ref p,.ref A.b,.str c,.str z]/\M p=some (.ins (v.cls a) v.nE)/\Rd a M A V l/\z∈l.nm/\Bv l.pn l.nm v/\Q (.bl (zg l V c z v)) M
def QM(a:Ad)(v:Wi):qY:=λds M Q=>Bg λp L k c=>ds=[.ref p,.ref (rm.p k)]/\M p=some (.ins (v.cls a) v.nE)/\rF a M L k c/\Q (.bl (GW c v)) M
def Hc:qY:=λds M Q=>A8 λx y=>ds=[x,y]/\Q (.bl false) M
def L5(a:Ad):Addr->qY->Prop:=λC sp=>∃v:Wi,C=v.cls a/\sp=ww a v
noncomputable def Mw(a:Ad):Wi->qY
 | .silent x y n=>QM a (.silent x y n)
 | _=>Hc
def Gf(a:Ad):Addr->qY->Prop:=λC sp=>∃v:Wi,C=v.cls a/\sp=Mw a v
def zR(a:Ad):qY:=λds M Q=>IF λp x y f l h=>ds=[.ref p,.int h]/\M p=some (.ins a.n (Wi.night x y f l).nE)/\Q (.bl (FR f l h)) M
def zE(a:Ad):qY:=λds M Q=>IF λp x q l r ms=>ds=[.ref p,.ref q,.ref r]/\M p=some (.ins a.o (Wi.breaks x).nE)/\se a M q l/\oR M r=some (List.map D.str ms)/\ms.length<=100/\x∈l.pn/\(∀m∈ms,m∈l.pn)/\Q (.bl (HE l x ms)) M
def Jh{l:pC}{x:Str}{v:uz}(h:l.mV x=some v):vt l x=v.2.2:=by unfold vt;rw[h];rfl
def ra{ks:List rm}{i:Nat}{k:rm}(h:ks[i]?=some k):wj (ks.map λk=>D.ref k.p) (i:Nat)=some (.ref k.p):=uV (by rw[dz,h];rfl)
def LQ(ds:T0 D):L3.tL ds (some (-1:Int)) none=ds.drop (ds.length - 1):=by
 unfold L3.tL;have e:HT.sZ ds.length 0 (some (-1:Int))=ds.length - 1:=by show(if (-1:Int)<0 then((-1:Int)+(ds.length:Int)).toNat else min (-1:Int).toNat ds.length)=ds.length - 1;rw[cZ (by decide)];omega
 rw[e];show(ds.drop (ds.length - 1)).take (ds.length - (ds.length - 1))=_;exact iF (by rw[gu];exact dg _)
theorem Dw{α:Type}:∀w:List α,w.drop (w.length - 1)=w.getLast?.toList
 | []=>rfl
 | [_]=>rfl
 | _::z::r=>by rw[List.getLast?_cons_cons,<-Dw (z::r)];rfl
def O8{p q:Addr}{w:QQQ}(h1:oR M p=some ((w.map D.str).drop ((w.map D.str).length - 1)))(h2:oR M q=some [D.str x]):ym M 9 (.ref p) (.ref q)=some (w.getLast?==some x):=by
 have e:(w.map D.str).drop ((w.map D.str).length - 1)=(w.getLast?.toList).map D.str:=by rw[cS,<-kz];rw[Dw]
 rw[e]at h1;show(oR M p).bind (λi=>(oR M q).bind λj=>if i.length=j.length then sF (ym M 8) i j else some false)=_;rw[h1,h2];cases w.getLast? with
 | none=>rfl
 | some y=>show((some (y==x)).bind λp=>(some true).map λq=>p&&q)=some (some y==some x);show some ((y==x)&&true)=_;rw[Bool.and_true];rfl
def Mt(G:Gl K mg a)(x:Str)(ns:QQQ):Fq P w K mg base 6 a.aE (ww a (.bar x ns)):=by
 refine fq G.aE.toDG Gc (λr u=>⟨_,(o9 (pz (sQ (qc u U2 (pq v0)) (sA (qc u U3 (pq v0)))))),?_⟩)
 rintro ds M Q ⟨p,A,V,l,c,z,rfl,hp,_,_,_,q⟩
 refine oZ hp ?_;refine qA (c:=c==x) (λg=>oZ hp ⟨rfl,qo ns,M,.refl,?_⟩) (λg=>⟨M,.refl,?_⟩)
 .show Q (.bl (inD (.str z) (ns.map D.str))) M;rw[sr];dsimp only[zg]at q;rw[g,eI]at q;exact q
 .dsimp only[zg]at q;rw[show(c==x)=false from dF.mpr g,eQ]at q;exact q
def L7(G:Gl K mg a)(x:Str)(ns:QQQ):Fq P w K mg base 6 a.aF (ww a (.shut x ns)):=by
 refine fq G.aF.toDG Et (λr u=>⟨_,(o9 (pz (sQ (qc u U3 (pq v0)) (sA (qc u U2 (pq v0)))))),?_⟩)
 rintro ds M Q ⟨p,A,V,l,c,z,rfl,hp,_,_,_,q⟩
 refine oZ hp ?_;refine qA (c:=z==x) (λg=>oZ hp ⟨rfl,qo ns,M,.refl,?_⟩) (λg=>⟨M,.refl,?_⟩)
 .show Q (.bl (inD (.str c) (ns.map D.str))) M;rw[sr];dsimp only[zg]at q;rw[g,eI]at q;exact q
 .dsimp only[zg]at q;rw[show(z==x)=false from dF.mpr g,eQ]at q;exact q
def Nn(G:Gl K mg a)(x y:Str):Fq P w K mg base 6 a.aG (ww a (.always x y)):=by
 refine fq G.aG.toDG BK (λr u=>⟨_,(o9 (pz (qc u U3 (pq v0)))),?_⟩)
 rintro ds M Q ⟨p,A,V,l,c,z,rfl,hp,_,_,_,q⟩
 exact oZ hp ⟨M,.refl,q⟩
def FZ:Fq P w K mg base 1 a.bJ (zR a):=by
 refine fq G.bJ.toDG zD (λr u=>⟨_,(oY (pN (pD u (pq v0) (pq v0))
 (o9 (pz (ug u (pq v0) U1 (pq v0))))
 pF)
 (o9 (pz (IJ (qc u U1 (pq v0)) (sA (qc u U1 (pq v0))))))),?_⟩)
 rintro ds M Q ⟨p,x,y,f,l,h,rfl,hp,q⟩
 refine oZ hp (oZ hp ?_);show if (decide (f<l))=true then _ else _
 unfold FR at q;by_cases z:f<l
 .rw[cZ z]at q;refine AF (dS z) (oZ hp ?_);refine qA (c:=decide (f<=h)) (λg=>?_) (λg=>?_)
  .rw[g,eI]at q;exact oZ hp ⟨M,.refl,q⟩
  .rw[show decide (f<=h)=false from dF.mpr g,eQ]at q;exact⟨M,.refl,q⟩
 .rw[cX z]at q;refine K0 (eM z) (oZ hp ?_);refine qA (c:=decide (h>=f)) (λg=>?_) (λg=>?_)
  .rw[g,gY]at q;exact⟨M,.refl,q⟩
  .rw[show decide (h>=f)=false from dF.mpr g,fM]at q;exact oZ hp ⟨M,.refl,q⟩
def Na(G:Gl K mg a)(x y:Str)(f m:Int):Fq P w K mg base 6 a.aH (ww a (.night x y f m)):=by
 refine fq G.aH.toDG CZ (λr u=>⟨_,(o9 (pz (sQ (qc u U3 (pq v0)) (sA (pR v0 G.n.toCls G.bJ (FZ G) r (qb (vD U1 G.c.toCls G.bK (GF G) r))))))),?_⟩)
 rintro ds M Q ⟨p,A,V,l,c,z,rfl,hp,rd,_,_,q⟩
 dsimp only[zg]at q;refine oZ hp ?_;refine qA (c:=z==x) (λg=>?_) (λg=>?_)
 .rw[g,eI]at q;exact oZ hp ⟨rfl,_,⟨rfl,rfl⟩,oZ rd.bd.at_ ⟨rfl,_,⟨rfl,rfl⟩,A,V,rfl,rd.bd,p,x,y,f,m,_,rfl,hp,M,.refl,q⟩⟩
 .rw[show(z==x)=false from dF.mpr g,eQ]at q;exact⟨M,.refl,q⟩
def Lr(G:Gl K mg a)(x y:Str):Fq P w K mg base 6 a.aI (ww a (.busy x y)):=by
 refine fq G.aI.toDG Eb (λr u=>⟨_,(o9 (pz (sQ (qc u U3 (pq v0)) (sA (pE (FF G) r G.O (qX U1 U2 U3)))))),?_⟩)
 rintro ds M Q ⟨p,A,V,l,c,z,rfl,hp,rd,hz,_,q⟩
 dsimp only[zg]at q;refine oZ hp ?_;refine qA (c:=z==x) (λg=>?_) (λg=>?_)
 .rw[g,eI]at q;exact⟨A,V,l,c,z,rfl,rd,hz,M,.refl,q⟩
 .rw[show(z==x)=false from dF.mpr g,eQ]at q;exact⟨M,.refl,q⟩
def LK(G:Gl K mg a)(x y:Str)(n:Int):Fq P w K mg base 6 a.aJ (ww a (.silent x y n)):=by
 refine fq G.aJ.toDG Bu (λr u=>⟨_,(o9 (pz yo)),?_⟩)
 rintro ds M Q ⟨p,A,V,l,c,z,rfl,hp,rd,hz,_,q⟩
 exact⟨M,.refl,q⟩
def MQ(G:Gl K mg a)(x:Str):Fq P w K mg base 6 a.aK (ww a (.wait x)):=by
 refine fq G.aK.toDG FS (λr u=>⟨_,(oY (pN (W3.b3 (yh (pD u U3 (pq v0)) (xC (pD u U2 (pq v0)))))
 (o9 (pz yo))
 pF)
 (o9 (pz (sQ (pE (FF G) r G.O (qX U1 U2 U3)) (sA (SR (pR U1 G.c.toCls G.bL (G2 G) r (qb U3)))))))),?_⟩)
 rintro ds M Q ⟨p,A,V,l,c,z,rfl,hp,rd,hz,_,q⟩
 dsimp only[zg]at q;refine oZ hp ?_;refine qA (c:=!(z==x)) (λg=>?_) (λg=>?_)
 .rw[g,gY]at q;exact⟨M,.refl,q⟩
 rw[show(!(z==x))=false from dF.mpr g,fM]at q;refine oZ hp ?_;refine qA (c:=c==x) (λg=>?_) (λg=>?_)
 .rw[g]at q;exact⟨M,.refl,q⟩
 rw[cX g]at q;refine⟨A,V,l,c,z,rfl,rd,hz,?_⟩;refine qA (c:=xE l V c z) (λg=>?_) (λg=>?_)
 .rw[g,eI]at q;exact oZ rd.bd.at_ ⟨rfl,_,⟨rfl,rfl⟩,A,V,z,rfl,rd.bd,rd.k,M,.refl,q⟩
 .rw[show xE l V c z=false from dF.mpr g,eQ]at q;exact⟨M,.refl,q⟩
def Gj:Fq P w K mg base 2 a.bM (zE a):=by
 refine fq G.bM.toDG vg (λr u=>⟨_,(oY (pH 3 vg (pR U1 G.h.toCls G.aO (yZ G) r (qb (pq v0))))
 (o9 (pz (pO (EF rfl) rfl G.bO Fz (qb (qB rfl (yg (ix:=[none,some 1,some 3]) (N':=["member","plan","rank"])) (qF U2) (qz 0) rQ (qc u (pR U1 G.h.toCls G.aO (yZ G) r (qb v0)) U2))))))),?_⟩)
 rintro ds M Q ⟨p,x,q,l,r,ms,rfl,hp,pl,lr,h100,hx,hm,k⟩
 have hz:=dH;obtain⟨v,hv⟩:=yR hx;obtain⟨ph,gr,ws,Yz,pr,gd,rs,i1,_⟩:=id pl;refine oZ i1 ⟨rfl,_,⟨rfl,rfl⟩,oZ hp (i' rfl ⟨q,x,v,l,rfl,pl,hv,?_⟩)⟩;refine i' lr (rh (f:=λd=>match d with|.str m=>.bl (decide (vt l m<vt l x))|_=>.mG) lr _ [] _ (by rw[cS];show 0+ms.length<=sizeLine;omega) (λd hd k0 hk=>?_) λp1 Yy=>?_)
 .obtain⟨m,hmm,rfl⟩:=dB.mp hd;obtain⟨u,hu⟩:=yR (hm m hmm);have hk:k0 (.bl (decide (vt l m<vt l x))) M:=hk;rw[Jh hu,Jh hv]at hk;exact oZ i1 ⟨rfl,_,⟨rfl,rfl⟩,q,m,u,l,rfl,pl,hu,hk⟩
 .have em:[]++(ms.map D.str).map (λd=>match d with|.str m=>.bl (decide (vt l m<vt l x))|_=>.mG)=ms.map λm=>D.bl (decide (vt l m<vt l x)):=by rw[dY,dX];rfl
  rw[em];refine i' pA (i' (x8 (λm=>decide (vt l m<vt l x)) ms) ⟨M,.new Yy,?_⟩);unfold HE at k;rw[zb];exact k
def LU(G:Gl K mg a)(x:Str):Fq P w K mg base 6 a.aL (ww a (.breaks x)):=by
 refine fq G.aL.toDG vf (λr u=>⟨_,(oY (pN (W3.b3 (yh (pD u U2 (pq v0)) (xC (pD u U3 (pq v0)))))
 (o9 (pz yo))
 pF)
 (oY (pN (W3.b3 (yh (pD u U3 (vD (pq U1) G.h.toCls G.L (sy G) r)) (xC (yD (vv (pE (FF G) r G.O (qX U1 U2 U3)))))))
 (o9 (pz yo))
 pF)
 (oY (pH 4 vf (pR U1 G.c.toCls G.S (yK G) r (qb U3)))
 (oY (pN (pD u v4 rD)
 (o9 (pz yo))
 pF)
 (oY (pH 5 vf (pq (pI (pq U1) v4)))
 (o9 (pz (sQ (qc u (pO qv rfl G.g ql (qb v5)) pb) (sA (pR v0 G.o.toCls G.bM (Gj G) r (rN (pq U1) v5))))))))))),?_⟩)
 rintro ds M Q ⟨p,A,V,l,c,z,rfl,hp,rd,Yb,hx,q⟩
 have hx:x∈l.pn:=qN.mp hx;obtain⟨ph,gr,ws,Yz,pr,gd,rs,i1,_⟩:=rd.pl;have p8:=rd.ok.p8;dsimp only[zg,Hj]at q;refine oZ hp ?_;refine qA (c:=!(c==x)) (λh1=>?_) (λh1=>?_)
 .rw[h1,gY]at q;exact⟨M,.refl,q⟩
 rw[show(!(c==x))=false from dF.mpr h1,fM]at q;refine oZ hp ?_;refine qA (c:=z==x) (λh2=>?_) (λh2=>?_)
 .rw[h2]at q;exact⟨M,.refl,q⟩
 rw[cX h2]at q;refine oZ rd.bd.at_ (i' rfl (oZ i1 ⟨rfl,_,⟨rfl,rfl⟩,V.p,l,rfl,rd.pl,by omega,λq1 XG=>i' pA ⟨rfl,qo _,?_⟩⟩));have t:=qp.new (c:=.lst (l.pn.map D.str)) XG;have XB:=rd.sub t;generalize pB M q1 (.lst (l.pn.map D.str))=M1 at t XB ⊢;show if (!(inD (.str z) (l.pn.map D.str)))=true then _ else _
 rw[sr];refine qA (c:=!(hasS l.pn z)) (λh3=>?_) (λh3=>?_)
 .rw[h3,gY]at q;exact⟨M,t,q⟩
 rw[show(!(hasS l.pn z))=false from dF.mpr h3,fM]at q;refine⟨A,V,l,c,z,rfl,XB,Yb,?_⟩;refine qA (c:=!(xE l V c z)) (λh4=>?_) (λh4=>?_)
 .rw[h4]at q;exact⟨M,t,q⟩
 rw[cX h4]at q;refine oZ XB.bd.at_ ⟨rfl,_,⟨rfl,rfl⟩,A,V,z,rfl,XB.bd,XB.k,?_⟩;cases e:vw V z with
 | none=>rw[e]at q;rw[show Aq V z=.mG from by unfold Aq;rw[e];rfl];exact⟨M,t,q⟩
 | some j=>
  rw[show Aq V z=.int (j:Nat)from by unfold Aq;rw[e];rfl];have hj:j<V.calls.length:=(iG.mp e).1;have e2:V.calls[j]?=some V.calls[j]:=cV hj;rw[e]at q;generalize V.calls[j]=k at e2;have q:Q (.bl (((V.calls[j]?).elim false λk=>(k.ms.length==2)&&HE l x k.ms))) M:=q;rw[e2]at q;have hj:j<A.cs.length:=by rw[rd.bd.len];exact hj
  have ek:A.cs[j]?=some A.cs[j]:=cV hj;obtain⟨ad,md,f1,f2,f3,f4,_⟩:=XB.bd.cs j _ k ek e2;refine oZ XB.bd.at_ (i' rfl (i' rfl (i' XB.bd.ca (i' (ra ek) (oZ f1 (i' rfl ?_))))));refine i' f4 ?_;have el:((((k.ms.map D.str).length:Nat):Int)==2)=(k.ms.length==2):=by rw[cS,gi,fh,fh];omega
  show if ((((k.ms.map D.str).length:Nat):Int)==2)=true then _ else _
  rw[el];have q:Q (.bl ((k.ms.length==2)&&HE l x k.ms)) M:=q;refine qA (c:=k.ms.length==2) (λh5=>?_) (λh5=>?_)
  .rw[h5,eI]at q;have hm:=rd.ms k (qG e2);refine oZ (t _ _ hp) ⟨rfl,_,⟨rfl,rfl⟩,oZ XB.bd.at_ (i' rfl ⟨p,x,V.p,l,md,k.ms,rfl,t _ _ hp,XB.pl,f4,hm.2,hx,hm.1,M,t,q⟩)⟩
  .rw[show(k.ms.length==2)=false from dF.mpr h5,eQ]at q;exact⟨M,t,q⟩
def NA:Fq P w K mg base 1 a.q Hc:=by
 refine fq G.q.toDG BU (λr u=>⟨_,(o9 (pz yo)),?_⟩)
 rintro ds M Q ⟨x,y,rfl,q⟩
 exact⟨M,.refl,q⟩
def Rc(G:Gl K mg a)(x y:Str)(n:Int):Fq P w K mg base 1 a.az (QM a (.silent x y n)):=by
 refine fq G.az.toDG zP (λr u=>⟨_,(o9 (pz (sQ (qc u (rL (pq U1) (sO (E1 pb)) sS) (qT (qb (pq v0)))) (sA (qc u (pq v0) (pq U1)))))),?_⟩)
 rintro ds M Q ⟨p,L,k,c,rfl,hp,⟨ad,md,h1,h2,h3,h4,_⟩,q⟩
 refine oZ h1 (i' rfl (i' h2 λp1 Yy=>?_));have t1:=qp.new (c:=.lst (L3.tL (c.way.map D.str) (some (-1:Int)) none)) Yy;have l1:oR (pB M p1 (.lst (L3.tL (c.way.map D.str) (some (-1:Int)) none))) p1=some ((c.way.map D.str).drop ((c.way.map D.str).length - 1)):=by rw[pA,LQ]
 show Ah (pB M p1 (.lst (L3.tL (c.way.map D.str) (some (-1:Int)) none)) p) _;generalize pB M p1 (.lst (L3.tL (c.way.map D.str) (some (-1:Int)) none))=M1 at t1 l1 ⊢;refine oZ (t1 _ _ hp) ⟨oW rfl,λp2 Xf=>?_⟩;have t2:=qp.new (c:=.lst [D.str x]) Xf;have l2:=@pA M1 p2 [D.str x];show Option.elim (ym (pB M1 p2 (.lst [D.str x])) 9 (.ref p1) (.ref p2)) False _;generalize pB M1 p2 (.lst [D.str x])=M2 at t2 l2 ⊢;have s2:=t1.trans t2;refine i' (O8 (t2.lst l1) l2) ?_;dsimp only[GW]at q;refine qA (c:=c.way.getLast?==some x) (λg=>?_) (λg=>?_)
 .rw[g,eI]at q;exact oZ (s2 _ _ hp) (oZ (s2 _ _ h1) ⟨M,s2,q⟩)
 .rw[show(c.way.getLast?==some x)=false from dF.mpr g,eQ]at q;exact⟨M,s2,q⟩
def Ta:∀C sp,L5 a C sp->xi P w K mg base 6 "fits" C (N0 K sp):=by
 rintro C sp ⟨v,rfl,rfl⟩
 cases v with
 | bar x ns=>exact⟨G.t.toCls,_,_,_,G.aE.m8,Mt G x ns,G.aE.b⟩
 | shut x ns=>exact⟨G.u.toCls,_,_,_,G.aF.m8,L7 G x ns,G.aF.b⟩
 | always x y=>exact⟨G.x.toCls,_,_,_,G.aG.m8,Nn G x y,G.aG.b⟩
 | night x y f m=>exact⟨G.n.toCls,_,_,_,G.aH.m8,Na G x y f m,G.aH.b⟩
 | busy x y=>exact⟨G.y.toCls,_,_,_,G.aI.m8,Lr G x y,G.aI.b⟩
 | silent x y n=>exact⟨G.v.toCls,_,_,_,G.aJ.m8,LK G x y n,G.aJ.b⟩
 | wait x=>exact⟨G.w.toCls,_,_,_,G.aK.m8,MQ G x,G.aK.b⟩
 | breaks x=>exact⟨G.o.toCls,_,_,_,G.aL.m8,LU G x,G.aL.b⟩
def TN:∀C sp,Gf a C sp->xi P w K mg base 1 "is_due" C (N0 K sp):=by
 rintro C sp ⟨v,rfl,rfl⟩
 have F:=NA (P:=P) (w:=w) (base:=base) G;cases v with
 | silent x y n=>exact⟨G.v.toCls,_,_,_,G.az.m8,Rc G x y n,G.az.b⟩
 | bar _ _=>exact⟨G.t.toCls,_,_,_,G.ci,F,G.q.b⟩
 | shut _ _=>exact⟨G.u.toCls,_,_,_,G.cj,F,G.q.b⟩
 | always _ _=>exact⟨G.x.toCls,_,_,_,G.ck,F,G.q.b⟩
 | night _ _ _ _=>exact⟨G.n.toCls,_,_,_,G.cl,F,G.q.b⟩
 | busy _ _=>exact⟨G.y.toCls,_,_,_,G.cm,F,G.q.b⟩
 | wait _=>exact⟨G.w.toCls,_,_,_,G.cn,F,G.q.b⟩
 | breaks _=>exact⟨G.o.toCls,_,_,_,G.co,F,G.q.b⟩
def Jo{es pre post:T0 D}{d:D}(e:pre++d::post=ut 0 es):∃x,es[pre.length]?=some x/\d=.tup [.int (pre.length:Nat),x]:=by
 have h:(ut 0 es)[pre.length]?=some d:=by rw[<-e];simp
 rw[zr]at h;cases q:es[pre.length]? with
 | none=>rw[q]at h;cases h
 | some x=>rw[q]at h;refine⟨x,rfl,?_⟩;have:=(df h).symm;rw[mo]at this;exact this
def uZ(n:Nat):∀es:T0 D,(ut n es).length=es.length:=λes=>by
 have h:∀i:Nat,(ut n es)[i]?=none↔es[i]?=none:=λi=>by rw[zr];cases es[i]?<;>simp
 have a:=(h es.length).mpr (gA (dg _));have b:=(h (ut n es).length).mp (gA (dg _));rw[List.getElem?_eq_none_iff]at a b;omega
def IT{l:pC}{V:qd}{f:Wi->Bool}{tt:Ay}{ok:Mp->Prop}{Q:DK}{M:Mp}{rest:T0 (Option D)}(hl:V.on.length=l.mD.length)(h16:l.mD.length<=16)(mM:ok M) (ht:∀(i:Nat) (w:vh),l.mD[i]?=some w->∀(y:Option D) (k:Bool->Mp->Prop),k (f w.2) M->tt (some (.int (i:Nat))::y::rest) M k) (q:∀p,M p=none->Q (.ref p) (pB M p (.lst ((Ij l V f).map λn=>D.int (n:Nat))))):
  uO (QH 2 (Eg (uw 0) (Eg (uw 1) Mu))) (Ov (b3 (v3 1)) tt) (v3 0) ok Q (ut 0 (V.on.map D.bl)) [] (none::none::rest) M:=by
 have hz:=dH;refine xW (ut 0 (V.on.map D.bl)) (λpre acc U M'=>M=M'/\acc=((List.range pre.length).filter λi=>V.on.getD i false&&(l.mD[i]?).elim false λw=>f w.2).map (λn=>D.int (n:Nat))/\∃y1 y2,U=y1::y2::rest) (λ_ _ _ M' j=>by rw[<-j.1];exact mM) _ [] [] _ _ rfl ?_ ⟨rfl,rfl,none,none,rfl⟩ ?_ ?_
 .rw[uZ,cS,hl];simp only[dM];omega
 .rintro pre d post e acc U M' ⟨rfl,rfl,y1,y2,rfl⟩ k k2 hk Za
  obtain⟨x,hx,rfl⟩:=Jo e;rw[cW,dN,iS,jj]at hk Za;rw[dz]at hx;cases eo:V.on[pre.length]? with
  | none=>rw[eo]at hx;cases hx
  | some b=>
   rw[eo]at hx;have hx:D.bl b=x:=df hx;subst hx;have hi:pre.length<l.mD.length:=by rw[<-hl];exact(cU.mp eo).1
   have ew:l.mD[pre.length]?=some l.mD[pre.length]:=cV hi;generalize l.mD[pre.length]=w0 at ew;have eg:V.on.getD pre.length false=b:=by rw[fZ,eo];rfl
   have no:(b&&f w0.2)=false->k2 (some (.int (pre.length:Nat))::some (.bl b)::rest) M:=λg=>by refine Za _ _ ⟨rfl,?_,_,_,rfl⟩;rw[iA (by rw[eg,ew];show ¬(b&&f w0.2)=true;rw[g];exact dw),iT,eY]
   refine⟨rfl,?_⟩;show if b=true then _ else _
   cases b with
   | false=>exact J5 (no rfl)
   | true=>
    refine O9 (ht _ _ ew _ _ ?_);cases g:f w0.2 with
    | false=>exact J5 (no (by rw[g];rfl))
    | true=>refine O9 (hk _ _ _ ⟨rfl,?_,_,_,rfl⟩);rw[iz (by rw[eg,ew];show(true&&f w0.2)=true;rw[g];rfl),iT,dP];rfl
 .rintro acc U M' ⟨rfl,rfl,y1,y2,rfl⟩ p hp
  rw[uZ,cS];exact q p hp
def Bq(h:sC a M rs ws){i:Nat}{w:vh}(e:ws[i]?=some w):∃r,wj (rs.map D.ref) (i:Nat)=some (.ref r)/\M r=some (.ins (w.2.cls a) w.2.nE):=by
 have hi:i<rs.length:=by rw[h.1];exact(cU.mp e).1
 exact⟨rs[i],uV (by rw[dz,cV hi];rfl),h.2 i _ w (cV hi) e⟩
def Ly(ds:T0 D)(m:Nat):L3.tL ds none (some (m:Int))=ds.take m:=by
 unfold L3.tL;rw[HT.BC,HT.Jp,j7,kQ];by_cases h:m<=ds.length
 .rw[lZ h]
 .rw[Nat.min_eq_right (by omega),fE,iF (by omega)]
def Hu(ds:T0 D)(m:Nat)(h:m<=ds.length):L3.tL ds (some (m:Int)) none=ds.drop m:=by unfold L3.tL;rw[HT.BC,HT.Jp,lZ h];exact iF (by rw[gu];exact dg _)
def um(l:pC)(V:qd):Prop:=∀z∈l.nm,(l.mK z=="turns")=true->∃v,V.ps.find? (λp=>decide (p.1=z))=some v/\0<=v.2/\v.2<=((l.mC z).length:Int)
def LJ{V:qd}(h:um l V){z:Str}(hz:z∈l.nm)(e:(l.mK z=="turns")=true):vn (tE V.ps) (.inr z)=some (.int (zC V z:Nat))/\zC V z<=(l.mC z).length:=by
 obtain⟨v,e1,e2,e3⟩:=h z hz e;have h1:zC V z=v.2.toNat:=by unfold zC;rw[e1];rfl
 have h2:vn (tE V.ps) (.inr z)=(V.ps.find? λp=>decide (p.1=z)).map λp=>D.int p.2:=xQ (λp:Str×Int=>p.1) (λp=>D.int p.2) z V.ps;rw[h2,e1,h1];exact⟨by show some (D.int v.2)=some (.int (v.2.toNat:Nat));rw[Int.toNat_of_nonneg e2],by omega⟩
def Hx(a:Ad):qY:=λds M Q=>F0 λA V l c z=>ds=[.ref A.b,.str c,.str z]/\Rd a M A V l/\z∈l.nm/\Q (vZ (zB l V c z)) M
def Qg(a:Ad):qY:=λds M Q=>F0 λA V l c z=>ds=[.ref A.b,.str c,.str z]/\Rd a M A V l/\z∈l.nm/\um l V/\Q (names (xq l V c z)) M
def Nv(a:Ad):qY:=λds M Q=>F0 λA V l c z=>ds=[.ref A.b,.str c,.str z]/\Rd a M A V l/\z∈l.nm/\um l V/\Q (Hv l V c z).d M
def J7:qY:=λds M Q=>C8 λx r z=>ds=[.tup (.str x::r),.str z]/\Q (if (x=="wait")=true then(vo.waits z).d else if (x=="break")=true then(vo.breaks z).d else vo.barred.d) M
noncomputable def rb(st:sR):T0 D:=st.map λs=>.tup [.str s.1,vZ s.2]
def L8(a:Ad):qY:=λds M Q=>To λA V l c z r way=>ds=[.ref A.b,.str c,.str z,.ref r]/\Rd a M A V l/\z∈l.nm/\um l V/\oR M r=some (List.map D.str way)/\way.length<=8000000/\∀q M',qp M M'->M q=none->oR M' q=some (rb (ui l V c z way).2)->Q (.tup [(ui l V c z way).1.d,.ref q]) M'
def E5{V:qd}{f:Wi->Bool}{i:Nat}(h:i∈Ij l V f):∃w,l.mD[i]?=some w/\f w.2=true:=by
 have h:=(fG.mp h).2;rw[dQ]at h;cases e:l.mD[i]? with
 | none=>rw[e]at h;cases h.2
 | some w=>rw[e]at h;exact⟨w,rfl,h.2⟩
noncomputable def Jv(l:pC)(way:QQQ):Nat:=(l.nm.filter λx=>!(hasS way x)).length
def Bm{l:pC}{z:Str}(hz:z∈l.nm)(h:hasS way z=false):Jv l (way++[z])<Jv l way:=by
 unfold Jv;have e:(l.nm.filter λx=>!(hasS (way++[z]) x))=(l.nm.filter λx=>!(hasS way x)).filter λx=>!(x==z):=by rw[List.filter_filter];refine List.filter_congr λx _=>?_;unfold hasS;rw[lY];show(!(way.any (·==x)||((z==x)||false)))=_;rw[kt,Bool.not_or,Bool.and_comm,ma]
 rw[e];refine Nat.lt_of_le_of_ne (gB _ _) λg=>?_;have:=kD.mp (List.Sublist.eq_of_length fW g) z (fG.mpr ⟨hz,by rw[h];rfl⟩);simp at this
def BE(ok:qV l){w:vh}(hw:w∈l.mD){z y:Str}(h:Ja z w.2=.inr y):y∈l.nm:=by
 have o:=ok.wo w hw;cases e:w.2 with
 | bar _ _=>rw[e]at h;cases h
 | shut _ _=>rw[e]at h;cases h
 | always x u=>rw[e]at h o;cases h;exact qN.mp o.2.1
 | night x u f m=>rw[e]at h o;cases h;exact qN.mp o.2.1
 | busy x u=>rw[e]at h o;cases h;exact qN.mp o.2.1
 | silent x u n=>rw[e]at h o;cases h;exact qN.mp o.2.1
 | wait _=>rw[e]at h;cases h
 | breaks _=>rw[e]at h;cases h
theorem E8(x:Str):∀ss:QQQ,x∈ss->AK (.str x) (ss.map D.str)=some (ss.findIdx (·==x))
 | [],h=>by cases h
 | y::r,h=>by
  rw[dR,List.findIdx_cons];unfold AK;show(if (y==x)=true then some 0 else(AK (.str x) (r.map D.str)).map (·+1))=_;cases e:y==x with
  | true=>rfl
  | false=>
   rw[cX dw];have hr:x∈r:=by
    rcases de.mp h with g|g
    .rw[g,fA]at e;cases e
    .exact g
   rw[E8 x r hr];rfl
def Ii:Fq P w K mg base 7 a.aV (Hx a):=by
 refine fq G.aV.toDG Cu (λr u=>⟨_,(oY (pH 3 Cu (pq (pq v0)))
 (o9 (pz (pT rZ rfl G.z rX (qb (qB rfl (yg (ix:=[none,none,some 3,some 0,some 1,some 2]) (N':=["i","on","wishes","board","caller","target"])) (wK rfl G.bU (qb (pq v0))) (vI (n:=2) rfl (qK (qz 0) (qK (qz 1) uD))) (vP (W3.b3 (yA (vv U1) (xO (vv (FJ (R:=L5 a) (pI U2 v0) (Ta G) (r.mono (by first|decide|omega)) (qX U3 v4 v5))))))) v0)))))),?_⟩)
 rintro ds M Q ⟨A,V,l,c,z,rfl,rd,hz,q⟩
 obtain⟨ph,gr,ws,Yz,pr,gd,rs,i1,i2,i3,i4,i5,i6,i7,i8⟩:=rd.pl;refine oZ rd.bd.at_ (i' rfl (oZ i1 (i' rfl ?_)));refine oZ rd.bd.at_ (i' rfl (i' rd.bd.on ?_));refine IT (rest:=[some (.ref ws),some (.ref A.b),some (.str c),some (.str z)]) rd.on rd.ok.w16 rd.bd.on (λi w0 ew y k hk=>?_) λp hp=>i' pA ⟨M,.new hp,q⟩;obtain⟨r,e1,e2⟩:=Bq i8 ew;refine i' i4 (i' e1 (oZ e2 ⟨by cases w0.2<;>rfl,_,⟨w0.2,rfl,rfl⟩,r,A,V,l,c,z,rfl,e2,rd,hz,rd.ok.wo w0 (qG ew),hk⟩))
def Pb:Fq P w K mg base 5 a.aW (Qg a):=by
 refine fq G.aW.toDG tq (λr u=>⟨_,(oY (pH 3 tq (pR v0 G.c.toCls G.aN (An G) r (rN U1 U2)))
 (oY (pN (pD u (pR (pq v0) G.h.toCls G.aM (xl G) r (qb U2)) pj)
 (o9 (pz (pT rZ rfl G.z rX (qb U3))))
 pF)
 (oY (pH 4 tq (pR (pq v0) G.h.toCls G.X (uj G) r (qb U2)))
 (oY (pH 5 tq (zp u (pq v0) U2))
 (oY (wz (i:=6) tq.nd rfl (Or.inl rfl) rfl (yg (ix:=[none,some 3]) (N':=["phone","free"])) (qF (pS (rL v4 (sO v5) sS) (rL v4 sS (sO v5)))) (qz 0) (vP (pD u v0 U1)) v0)
 (o9 (pz (pT rZ rfl G.z rX (qb (rL v6 sS (sO pb))))))))))),?_⟩)
 rintro ds M Q ⟨A,V,l,c,z,rfl,rd,Yb,nx,q⟩
 have hz:=dH;have bd:=rd.bd;have pl:=rd.pl;obtain⟨ph,gr,ws,Yz,pr,gd,rs,i1,_⟩:=rd.pl;obtain⟨⟨_,tf,_⟩,_⟩:=rd.ok.of Yb;refine oZ bd.at_ ⟨rfl,_,⟨rfl,rfl⟩,A,V,l,c,z,rfl,rd,Yb,λq1 M1 s1 XG e1=>?_⟩;refine oZ (s1 _ _ bd.at_) (i' rfl (oZ (s1 _ _ i1) ⟨rfl,_,⟨rfl,rfl⟩,V.p,z,l,rfl,pl.sub s1,?_⟩));unfold xq at q;cases e:l.mK z=="turns" with
 | false=>rw[e]at q;exact AF (c:=!(l.mK z=="turns")) (by rw[e];rfl) (i' e1 ⟨M,s1,q⟩)
 | true=>
  obtain⟨hn,nl⟩:=LJ nx Yb e;generalize zC V z=n at hn nl q;rw[e,cZ rfl]at q;refine K0 (c:=!(l.mK z=="turns")) (by rw[e];rfl) ?_;refine oZ (s1 _ _ bd.at_) (i' rfl (oZ (s1 _ _ i1) ⟨rfl,_,⟨rfl,rfl⟩,V.p,z,l,rfl,pl.sub s1,λq2 Yq=>?_⟩));have s2:=s1.trans (qp.new (c:=.lst ((l.mC z).map D.str)) Yq);have c2:=@pA M1 q2 ((l.mC z).map D.str);have e2:=(qp.new (c:=.lst ((l.mC z).map D.str)) Yq).lst e1;generalize pB M1 q2 (.lst ((l.mC z).map D.str))=M2 at s2 c2 e2 ⊢;refine oZ (s2 _ _ bd.at_) (i' rfl (i' rfl (i' (s2.dk bd.nx) (i' hn ?_))));refine i' c2 λq3 hq3=>?_;rw[Hu _ n (by rw[cS];exact nl),<-kz];have t3:=qp.new (c:=.lst (((l.mC z).drop n).map D.str)) hq3;have c3':=@pA M2 q3 (((l.mC z).drop n).map D.str);generalize pB M2 q3 (.lst (((l.mC z).drop n).map D.str))=M3 at t3 c3' ⊢;refine i' (t3.lst c2) λq4 hq4=>?_;rw[Ly,<-me];have t4:=qp.new (c:=.lst (((l.mC z).take n).map D.str)) hq4;have c4:=@pA M3 q4 (((l.mC z).take n).map D.str);generalize pB M3 q4 (.lst (((l.mC z).take n).map D.str))=M4 at t4 c4 ⊢;refine i' (t4.lst c3') (i' c4 ?_);refine⟨by rw[cS,cS,gu,fQ];omega,λq5 hq5=>i' pA ?_⟩;rw[<-dP];have t5:=qp.new (c:=.lst ((uR (l.mC z) n).map D.str)) hq5;have c5:=@pA M4 q5 ((uR (l.mC z) n).map D.str);show uO _ _ _ _ _ ((uR (l.mC z) n).map D.str) _ _ (pB M4 q5 (.lst ((uR (l.mC z) n).map D.str)));generalize pB M4 q5 (.lst ((uR (l.mC z) n).map D.str))=M5 at t5 c5 ⊢;have s5:=t3.trans (t4.trans t5);have e5:=s5.lst e2;have tl:(uR (l.mC z) n).length<=200:=by unfold uR;rw[cW,gu,fQ];omega
  refine tM (f:=id) (t:=λd=>inD d ((uh l V c z).map D.str)) c5 _ [] _ (by rw[cS];simp only[dM];omega) (λd hd k hk=>?_) (λd hd _ k hk=>?_) λq6 hq6=>?_
  .obtain⟨x,hx,rfl⟩:=dB.mp hd;exact i' e5 ⟨rfl,qo _,hk⟩
  .obtain⟨x,hx,rfl⟩:=dB.mp hd;exact hk
  .have ef:[]++(List.filter (λd=>inD d ((uh l V c z).map D.str)) ((uR (l.mC z) n).map D.str)).map id=((uR (l.mC z) n).filter λx=>hasS (uh l V c z) x).map D.str:=by
    rw[dY,je,gQ];have:((λd=>inD d ((uh l V c z).map D.str))∘D.str)=λx=>hasS (uh l V c z) x:=by funext x;exact sr _ _
    rw[this]
   rw[ef];refine i' pA λq7 hq7=>i' pA ?_;rw[show L3.tL (((uR (l.mC z) n).filter λx=>hasS (uh l V c z) x).map D.str) none (some (1:Int))=(((uR (l.mC z) n).filter λx=>hasS (uh l V c z) x).take 1).map D.str from(Ly _ 1).trans (me).symm];exact⟨M,s2.trans (s5.trans ((qp.new hq6).trans (.new hq7))),q⟩
def Lf:Fq P w K mg base 6 a.aX (Nv a):=by
 refine fq G.aX.toDG uP (λr u=>⟨_,(oY (pH 3 uP (pE (Pb G) r G.aW (qX v0 U1 U2)))
 (oY (pN (pD u (pO qv rfl G.g ql (qb U3)) pb)
 (o9 (pz (pK (rN pj U2))))
 pF)
 (o9 (pz (pK (qX pj U2 U3)))))),?_⟩)
 rintro ds M Q ⟨A,V,l,c,z,rfl,rd,hz,nx,q⟩
 refine⟨A,V,l,c,z,rfl,rd,hz,nx,?_⟩;unfold Hv at q;cases e:xq l V c z with
 | nil=>rw[e]at q;exact⟨oW rfl,M,.refl,q⟩
 | cons x r=>rw[e]at q;exact⟨oW rfl,M,.refl,q⟩
def Kd:Fq P w K mg base 1 a.aY J7:=by
 refine fq G.aY.toDG zQ (λr u=>⟨_,(oY (pN (pD u (pI v0 pb) pj)
 (o9 (pz (pK (rN pj U1))))
 pF)
 (oY (pN (pD u (pI v0 pb) pj)
 (o9 (pz (pK (rN pj U1))))
 pF)
 (o9 (pz (pK (qb pj)))))),?_⟩)
 rintro ds M Q ⟨x,r,z,rfl,q⟩
 refine i' (zj _ _) (qA (c:=x=="wait") (λg=>?_) (λg=>?_))
 .rw[cZ g]at q;exact⟨oW rfl,M,.refl,q⟩
 rw[cX g]at q;refine i' (zj _ _) (qA (c:=x=="break") (λg=>?_) (λg=>?_))
 .rw[cZ g]at q;exact⟨oW rfl,M,.refl,q⟩
 rw[cX g]at q;exact⟨oW rfl,M,.refl,q⟩
def NO:Fq P w K mg base 8 a.aZ (L8 a):=by
 refine fq G.aZ.toDG wb (λr u=>⟨_,(oY (pH 4 wb (pT su rfl G.r sj (qb U3)))
 (oY (pH 5 wb (qT sV))
 (oY (LN fu (pD u U2 v4)
 (oY (pJ (rJ v4 (qb U2)))
 (oY (pH 6 wb (pE (Ii G) r G.aV (qX v0 U1 U2)))
 (oY (pJ (rJ v5 (qb (pK (rN U2 v6)))))
 (oY (pN (pD u (pO qv rfl G.g ql (qb v6)) pb)
 (o9 (pz (pK (rN (pE (Lf G) r G.aX (qX v0 U1 U2)) v5))))
 pF)
 (oY (pH 7 wb (Co (R:=Js a) (pI (pq (pq v0)) (pI v6 pb)) (Qi G) (r.mono (by first|decide|omega))))
 (oY (pN (pD u (pI v7 pb) pj)
 (o9 (pz (pK (rN (pE (Kd G) r G.aY (rN v7 U2)) v5))))
 pF)
 (o9 (pH 2 wb (pI v7 pb))))))))))
 (o9 (pz (pK (rN (pK (rN pj (pT rZ rfl G.z rX (qb (rL v4 (sO (xt v4 (qb U2))) sS))))) v5))))))),?_⟩)
 rintro ds M Q ⟨A,V,l,c,z0,r,Yr,rfl,rd,hz0,nx,hr0,hw0,q⟩
 have hz:=dH;have p8:=rd.ok.p8;have g3:=rd.ok.g3;have nl:l.nm.length<=11:=by unfold pC.nm pC.pn pC.gn;rw[cW,cS,cS];omega
 refine i' hr0 λp1 Yy=>⟨oW rfl,λp2 Xf=>?_⟩;have t1:=qp.new (c:=.lst (Yr.map D.str)) Yy;have t2:=qp.new (c:=.lst []) Xf;have c1:oR (pB (pB M p1 (.lst (Yr.map D.str))) p2 (.lst [])) p1=some (Yr.map D.str):=t2.lst pA;have c2:=@pA (pB M p1 (.lst (Yr.map D.str))) p2 [];have n12:p2≠p1:=λy=>by rw[y,pL]at Xf;cases Xf
 have m2:M p2=none:=t1.none Xf;have s2:=t1.trans t2;generalize pB (pB M p1 (.lst (Yr.map D.str))) p2 (.lst [])=M2 at c1 c2 s2 ⊢;refine⟨λm U M'=>∃z way st,qp M M'/\oR M' p1=some (List.map D.str way)/\oR M' p2=some (rb st)/\z∈l.nm/\Jv l way<m/\way.length+m<=8000012/\st.length+m<=100/\uH l V c m z way st=ui l V c z0 Yr/\∃y6 y7,U=[some (.ref A.b),some (.str c),some (.str z),some (.ref r),some (.ref p1),some (.ref p2),y6,y7],⟨l.nm.length+1,z0,Yr,[],s2,c1,c2,hz0,Nat.lt_succ_of_le (gB _ _),by omega,by show 0+(l.nm.length+1)<=100;omega,rfl,none,none,rfl⟩,?_⟩
 rintro m U M' ⟨z,way,st,sM,l1,l2,Yb,Xg,hwl,hsl,er,y6,y7,rfl⟩
 obtain⟨m,rfl⟩:∃k,m=k+1:=⟨m - 1,by omega⟩;have q2:∀W9,qp M W9->oR W9 p2=some (rb (uH l V c (m+1) z way st).2)->Q (.tup [(uH l V c (m+1) z way st).1.d,.ref p2]) W9:=λW9 s ll=>by rw[er]at ll ⊢;exact q p2 W9 s m2 ll
 clear q;unfold uH at er q2;refine i' l1 ⟨rfl,qo way,?_⟩;show if (!(inD (.str z) (way.map D.str)))=true then _ else _
 rw[sr];refine qA (c:=!(hasS way z)) (λh1=>?_) (λh1=>?_)
 rotate_left
 .
  have h1:hasS way z=true:=by simpa using h1
  rw[cZ h1]at q2;refine⟨by show(oR M' p1).isSome=true;rw[l1];rfl,i' l1 ⟨rfl,qo _,i' (E8 z way (qN.mp h1)) (i' l1 λp3 hp3=>?_)⟩⟩;have hle:way.findIdx (·==z)<=(way.map D.str).length:=by rw[cS];exact List.findIdx_le_length
  rw[Hu _ _ hle,<-kz];refine i' pA ⟨oW rfl,oW rfl,_,.refl,q2 _ (sM.trans (.new hp3)) ((qp.new hp3).lst l2)⟩
 have h1:hasS way z=false:=by simpa using h1
 rw[h1,cX dw]at er q2;refine⟨by show(oR M' p1).isSome=true;rw[l1];rfl,i' l1 ⟨by rw[cS];omega,?_⟩⟩;have k3:sd p1 M' (pB M' p1 (.lst (way.map D.str++[D.str z]))):=.put;have s3:qp M (pB M' p1 (.lst (way.map D.str++[D.str z]))):=λx d hx=>by rw[tW (Tp hx Yy)];exact sM x d hx
 have c3:=k3.lst n12 l2;have l3:oR (pB M' p1 (.lst (way.map D.str++[D.str z]))) p1=some ((way++[z]).map D.str):=by rw[pA,dP];rfl
 generalize pB M' p1 (.lst (way.map D.str++[D.str z]))=M3 at s3 c3 l3 ⊢;refine⟨A,V,l,c,z,rfl,rd.sub s3,Yb,?_⟩;generalize hf:zB l V c z=fs at er q2 ⊢;refine⟨by show(oR M3 p2).isSome=true;rw[c3];rfl,oW rfl,i' c3 ⟨by unfold rb;rw[cS];omega,?_⟩⟩;have es:rb st++[.tup [.str z,vZ fs]]=rb (st++[(z,fs)]):=by unfold rb;rw[dP];rfl
 rw[es];have s4:qp M (pB M3 p2 (.lst (rb (st++[(z,fs)])))):=λx d hx=>by rw[tW (Tp hx m2)];exact s3 x d hx
 have c4:=@pA M3 p2 (rb (st++[(z,fs)]));have l4:oR (pB M3 p2 (.lst (rb (st++[(z,fs)])))) p1=some ((way++[z]).map D.str):=sd.lst .put (dI n12) l3;generalize pB M3 p2 (.lst (rb (st++[(z,fs)])))=M4 at s4 c4 l4 ⊢;cases fs with
 | nil=>exact⟨A,V,l,c,z,rfl,rd.sub s4,Yb,nx,oW rfl,M4,.refl,q2 M4 s4 c4⟩
 | cons i fr=>
  obtain⟨w0,ew,_⟩:=E5 (l:=l) (V:=V) (f:=zg l V c z) (i:=i) (by show i∈zB l V c z;rw[hf];exact dG);dsimp only at er q2;rw[ew]at er q2;dsimp only[Option.elim]at er q2;obtain⟨ph,gr,ws,Yz,pr,gd,rs,i1,i2,i3,i4,i5,i6,i7,i8⟩:=(rd.sub s4).pl;obtain⟨ZG,e1,e2⟩:=Bq i8 ew;have hwo:=rd.ok.wo w0 (qG ew);have ZH:∀y,Ja z w0.2=.inr y->y∈l.nm:=λy h=>BE rd.ok (qG ew) h;refine oZ (s4 _ _ rd.bd.at_) (i' rfl (oZ i1 (i' rfl (i' (zj _ _) (i' i4 (i' e1 ?_))))));cases hv:w0.2 with
  | bar x ns=>rw[hv]at q2 e2;exact oZ e2 ⟨rfl,_,.inl ⟨.inl rfl,rfl⟩,ZG,rfl,⟨"end",[],z,rfl,oW rfl,M4,.refl,q2 M4 s4 c4⟩⟩
  | shut x ns=>rw[hv]at q2 e2;exact oZ e2 ⟨rfl,_,.inl ⟨.inr rfl,rfl⟩,ZG,rfl,⟨"end",[],z,rfl,oW rfl,M4,.refl,q2 M4 s4 c4⟩⟩
  | wait x=>rw[hv]at q2 e2;exact oZ e2 ⟨rfl,_,.inr (.inr (.inl ⟨rfl,rfl⟩)),ZG,_,_,_,rfl,e2,rfl,⟨"wait",_,z,rfl,oW rfl,M4,.refl,q2 M4 s4 c4⟩⟩
  | breaks x=>rw[hv]at q2 e2;exact oZ e2 ⟨rfl,_,.inr (.inr (.inr ⟨rfl,rfl⟩)),ZG,rfl,⟨"break",_,z,rfl,oW rfl,M4,.refl,q2 M4 s4 c4⟩⟩
  | always x y=>rw[hv]at er e2 ZH;exact oZ e2 ⟨rfl,_,.inr (.inl ⟨.inl rfl,rfl⟩),ZG,_,_,_,rfl,e2,rfl,⟨m,fv _,y,way++[z],st++[(z,i::fr)],s4,l4,c4,ZH y rfl,by have:=Bm Yb h1;omega,by rw[cW];show way.length+1+m<=_;omega,by rw[cW];show st.length+1+m<=_;omega,er,_,_,rfl⟩⟩
  | night x y f mm=>rw[hv]at er e2 ZH;exact oZ e2 ⟨rfl,_,.inr (.inl ⟨.inr (.inl rfl),rfl⟩),ZG,_,_,_,rfl,e2,rfl,⟨m,fv _,y,way++[z],st++[(z,i::fr)],s4,l4,c4,ZH y rfl,by have:=Bm Yb h1;omega,by rw[cW];show way.length+1+m<=_;omega,by rw[cW];show st.length+1+m<=_;omega,er,_,_,rfl⟩⟩
  | busy x y=>rw[hv]at er e2 ZH;exact oZ e2 ⟨rfl,_,.inr (.inl ⟨.inr (.inr (.inl rfl)),rfl⟩),ZG,_,_,_,rfl,e2,rfl,⟨m,fv _,y,way++[z],st++[(z,i::fr)],s4,l4,c4,ZH y rfl,by have:=Bm Yb h1;omega,by rw[cW];show way.length+1+m<=_;omega,by rw[cW];show st.length+1+m<=_;omega,er,_,_,rfl⟩⟩
  | silent x y n=>rw[hv]at er e2 ZH;exact oZ e2 ⟨rfl,_,.inr (.inl ⟨.inr (.inr (.inr rfl)),rfl⟩),ZG,_,_,_,rfl,e2,rfl,⟨m,fv _,y,way++[z],st++[(z,i::fr)],s4,l4,c4,ZH y rfl,by have:=Bm Yb h1;omega,by rw[cW];show way.length+1+m<=_;omega,by rw[cW];show st.length+1+m<=_;omega,er,_,_,rfl⟩⟩
noncomputable def yM(V:qd)(i:Nat)(c:pk):qd:={V with calls:=V.calls.set i c}
def rT(V:qd)(i:Nat)(c d:pk):yM (yM V i c) i d=yM V i d:=by unfold yM;rw[iR]
structure CI(a:Ad)(M:Mp)(A:sP)(V:qd)(i:Nat)(k:rm)(c:pk):Prop where
 bd:pG a M A V
 e1:A.cs[i]?=some k
 e2:V.calls[i]?=some c
noncomputable def cF(x:Str)(wy ad md:Addr)(k:Nat):T0 (Str×D):=List.take (α:=Str×D) k [("state",.str "rings"),("caller",.str x),("way",.ref wy),("at",.ref ad),("members",.ref md),("holder",.mG),("since",.int 0)]
variable {M':Mp}{i:Nat}{k:rm}
section
variable {c:pk}
def CI.cell(h:CI a M A V i k c):rF a M (A.lists++V.fo) k c:=h.bd.cs i k c h.e1 h.e2
def CI.sub(h:CI a M A V i k c)(s:qp M M'):CI a M' A V i k c:=⟨h.bd.sub s,h.e1,h.e2⟩
def CI.put(h:CI a M A V i k c)(c':pk){ad md:Addr}(ew:c'.way=c.way)(la:oR M ad=some (c'.at_.map D.str))(lm:oR M md=some (c'.ms.map D.str))(na:ad∉A.lists++V.fo)(nm:md∉A.lists++V.fo):
  CI a (pB M k.p (.ins a.e (qZ c' k.wy ad md))) A (yM V i c') i k c'/\qJ A M A (pB M k.p (.ins a.e (qZ c' k.wy ad md))):=by
 obtain⟨b,s⟩:=h.bd.nZ h.e1 h.e2 ew la lm na nm;refine⟨⟨b,h.e1,?_⟩,s⟩;show(V.calls.set i c')[i]?=some c';rw[eJ (cU.mp h.e2).1]
end
inductive QE(i:Nat)(c:pk):Ev->pk->Prop
 | rings (ps:QQQ):QE i c (.rings i ps) (c.ring ps)
 | quiet:QE i c (.quiet i) c.nC
 | waits (x:Str):QE i c (.waits i x) (c.wait x)
 | talks (ms:QQQ):QE i c (.talks i ms) (c.nA ms)
 | held (x:Str):QE i c (.held i x) (c.hold x)
 | leaves (x:Str):QE i c (.leaves i x) (c.drop x)
 | over (w:Str):QE i c (.over i w) (c.over w)
def F6(a:Ad):qY:=λds M Q=>A8 λp x=>ds=[.ref p,.str x]/\M p=some (.ins a.e [])/\∀M' wy ad md,sd p M M'->M wy=none->M ad=none->M md=none->ad≠wy->md≠wy->M' p=some (.ins a.e (qZ (yO x) wy ad md))->oR M' wy=some []->oR M' ad=some []->oR M' md=some []->Q .mG M'
def Qo(a:Ad):qY:=λds M Q=>IF λA V i k c w=>ds=[.ref k.p,.str w]/\CI a M A V i k c/\∀M',qJ A M A M'->pG a M' A (yM V i (c.over w))->Q .mG M'
def MP(a:Ad):qY:=λds M Q=>IF λA V i k c x=>ds=[.ref k.p,.str x]/\CI a M A V i k c/\c.at_.length<=100/\c.ms.length<=100/\∀M',qJ A M A M'->pG a M' A (yM V i (c.drop x))->Q .mG M'
def J8(a:Ad):qY:=λds M Q=>To λA V i k c e c'=>ds=[.ref k.p,Ev.d e]/\CI a M A V i k c/\c.at_.length<=100/\c.ms.length<=100/\QE i c e c'/\∀M',qJ A M A M'->pG a M' A (yM V i c')->Q .mG M'
def Og:Fq P w K mg base 1 a.an (F6 a):=by
 refine fq G.an.toDG E6 (λr u=>⟨_,(oY (pY v0 pj)
 (oY (pY v0 U1)
 (oY (pY v0 (qT sV))
 (oY (pY v0 (qT sV))
 (oY (pY v0 (qT sV))
 (oY (pY v0 rD)
 (oY (pY v0 pb)
 (o9 (pY v0 rD))))))))),?_⟩)
 rintro ds M Q ⟨p,x,rfl,hb,q⟩
 refine oZ hb ⟨(G.j "state" rfl),by show 0<1000;decide,?_⟩;have k1:sd p M (pB M p (.ins a.e [("state",.str "rings")])):=.put;have b1:pB M p (.ins a.e [("state",.str "rings")]) p=some (.ins a.e [("state",.str "rings")]):=pL;show uq _ _ _ _ (pB M p (.ins a.e [("state",.str "rings")]));generalize pB M p (.ins a.e [("state",.str "rings")])=N1 at k1 b1 ⊢;refine oZ b1 ⟨(G.j "caller" rfl),by show 1<1000;decide,?_⟩;have k2:=k1.trans (sd.put (p:=p) (c:=.ins a.e [("state",.str "rings"),("caller",.str x)]));have b2:pB N1 p (.ins a.e [("state",.str "rings"),("caller",.str x)]) p=some (.ins a.e [("state",.str "rings"),("caller",.str x)]):=pL;show uq _ _ _ _ (pB N1 p (.ins a.e [("state",.str "rings"),("caller",.str x)]));generalize pB N1 p (.ins a.e [("state",.str "rings"),("caller",.str x)])=N2 at k2 b2 ⊢;refine⟨oW rfl,λwy hwy=>?_⟩;obtain⟨n3,e3,k3,c3,b3⟩:=sX (fs':=(cF x wy 0 0 3)) (c:=.lst []) b2 hwy;refine oZ e3 ⟨(G.j "way" rfl),by show 2<1000;decide,?_⟩;show uq _ _ _ _ (pB (pB N2 wy (.lst [])) p (.ins a.e (cF x wy 0 0 3)));generalize pB (pB N2 wy (.lst [])) p (.ins a.e (cF x wy 0 0 3))=N3 at k3 c3 b3 ⊢;have z1:M wy=none:=rA k2 b2 hwy;have kk3:=k2.trans k3;have l3:oR N3 wy=some []:=rM c3;refine⟨oW rfl,λad Zm=>?_⟩;obtain⟨n4,e4,k4,c4,b4⟩:=sX (fs':=(cF x wy ad 0 4)) (c:=.lst []) b3 Zm;refine oZ e4 ⟨(G.j "at" rfl),by show 3<1000;decide,?_⟩;show uq _ _ _ _ (pB (pB N3 ad (.lst [])) p (.ins a.e (cF x wy ad 0 4)));generalize pB (pB N3 ad (.lst [])) p (.ins a.e (cF x wy ad 0 4))=N4 at k4 c4 b4 ⊢;have z2:M ad=none:=rA kk3 b3 Zm;have Y8:=kk3.trans k4;have naw:ad≠wy:=λz=>by rw[z,c3]at Zm;cases Zm
 have l4:=k4.lst (pP l3 b3) l3;have m4:oR N4 ad=some []:=rM c4;refine⟨oW rfl,λmd hmd=>?_⟩;obtain⟨n5,e5,k5,c5,b5⟩:=sX (fs':=(cF x wy ad md 5)) (c:=.lst []) b4 hmd;refine oZ e5 ⟨(G.j "members" rfl),by show 4<1000;decide,?_⟩;show uq _ _ _ _ (pB (pB N4 md (.lst [])) p (.ins a.e (cF x wy ad md 5)));generalize pB (pB N4 md (.lst [])) p (.ins a.e (cF x wy ad md 5))=N5 at k5 c5 b5 ⊢;have z3:M md=none:=rA Y8 b4 hmd;have Y9:=Y8.trans k5;have nmw:md≠wy:=λz=>by rw[z,pU l4]at hmd;cases hmd
 have l5:=k5.lst (pP l4 b4) l4;have m5:=k5.lst (pP m4 b4) m4;have o5:oR N5 md=some []:=rM c5;refine oZ b5 ⟨(G.j "holder" rfl),by show 5<1000;decide,?_⟩;have k6:sd p N5 (pB N5 p (.ins a.e (cF x wy ad md 6))):=.put;have b6:pB N5 p (.ins a.e (cF x wy ad md 6)) p=some (.ins a.e (cF x wy ad md 6)):=pL;show uq _ _ _ _ (pB N5 p (.ins a.e (cF x wy ad md 6)));generalize pB N5 p (.ins a.e (cF x wy ad md 6))=N6 at k6 b6 ⊢;refine oZ b6 ⟨(G.j "since" rfl),by show 6<1000;decide,?_⟩;have k7:=k6.trans (sd.put (p:=p) (c:=.ins a.e (cF x wy ad md 7)));have b7:pB N6 p (.ins a.e (cF x wy ad md 7)) p=some (.ins a.e (cF x wy ad md 7)):=pL;rw[show vJ "since" (.int 0) (cF x wy ad md 6)=(cF x wy ad md 7)from rfl];generalize pB N6 p (.ins a.e (cF x wy ad md 7))=N7 at k7 b7 ⊢;refine oZ b7 ⟨(G.j "word" rfl),by show 7<1000;decide,_,.refl,?_⟩;have k8:=k7.trans (sd.put (p:=p) (c:=.ins a.e (qZ (yO x) wy ad md)));exact q _ wy ad md (Y9.trans k8) z1 z2 z3 naw nmw pL (k8.lst (pP l5 b5) l5) (k8.lst (pP m5 b5) m5) (k8.lst (pP o5 b5) o5)
def II:Fq P w K mg base 1 a.ab (Qo a):=by
 refine fq G.ab.toDG Gh (λr u=>⟨_,(oY (pY v0 pj)
 (oY (pY v0 U1)
 (oY (pY v0 (qT sV))
 (oY (pY v0 (qT sV))
 (o9 (pY v0 rD)))))),?_⟩)
 rintro ds M Q ⟨A,V,i,k,c,w0,rfl,h,q⟩
 obtain⟨ad,md,h1,h2,h3,h4,n1,n2⟩:=h.cell;refine oZ h1 ⟨(G.j "state" rfl),by show 8<1000;decide,?_⟩;obtain⟨g1,s1⟩:=h.put {c with st:="over"} rfl h3 h4 n1 n2;show uq _ _ _ _ (pB M k.p (.ins a.e (qZ {c with st:="over"} k.wy ad md)));generalize pB M k.p (.ins a.e (qZ {c with st:="over"} k.wy ad md))=M1 at g1 s1 ⊢;clear h1 h2 h3 h4 n1 n2;obtain⟨ad,md,h1,h2,h3,h4,n1,n2⟩:=g1.cell;refine oZ h1 ⟨(G.j "word" rfl),by show 8<1000;decide,?_⟩;obtain⟨g2,s2⟩:=g1.put {c with st:="over",wd:=some w0} rfl h3 h4 n1 n2;show uq _ _ _ _ (pB M1 k.p (.ins a.e (qZ {c with st:="over",wd:=some w0} k.wy ad md)));generalize pB M1 k.p (.ins a.e (qZ {c with st:="over",wd:=some w0} k.wy ad md))=M2 at g2 s2 ⊢;clear h1 h2 h3 h4 n1 n2;refine⟨oW rfl,λp hp=>?_⟩;have t3:=qp.new (c:=.lst []) hp;have lp:=@pA M2 p [];have np:=g2.bd.ng hp;have Zo:=g2.sub t3;have s2':=s2.trans (.sub t3);generalize pB M2 p (.lst [])=M2' at t3 lp Zo s2' ⊢;obtain⟨ad,md,h1,h2,h3,h4,n1,n2⟩:=Zo.cell;refine oZ h1 ⟨(G.j "at" rfl),by show 8<1000;decide,?_⟩;obtain⟨g3,s3⟩:=Zo.put {c with st:="over",wd:=some w0,at_:=[]} rfl lp h4 np n2;show uq _ _ _ _ (pB M2' k.p (.ins a.e (qZ {c with st:="over",wd:=some w0,at_:=[]} k.wy p md)));generalize pB M2' k.p (.ins a.e (qZ {c with st:="over",wd:=some w0,at_:=[]} k.wy p md))=M3 at g3 s3 ⊢;clear h1 h2 h3 h4 n1 n2 lp t3 np g2 Zo;refine⟨oW rfl,λp2 Xf=>?_⟩;have t4:=qp.new (c:=.lst []) Xf;have lp:=@pA M3 p2 [];have np:=g3.bd.ng Xf;have ZI:=g3.sub t4;have s3':=s3.trans (.sub t4);generalize pB M3 p2 (.lst [])=M3' at t4 lp ZI s3' ⊢;obtain⟨ad,md,h1,h2,h3,h4,n1,n2⟩:=ZI.cell;refine oZ h1 ⟨(G.j "members" rfl),by show 8<1000;decide,?_⟩;obtain⟨g4,s4⟩:=ZI.put {c with st:="over",wd:=some w0,at_:=[],ms:=[]} rfl h3 lp n1 np;rw[show vJ "members" (.ref p2) (qZ {c with st:="over",wd:=some w0,at_:=[]} k.wy ad md)=qZ {c with st:="over",wd:=some w0,at_:=[],ms:=[]} k.wy ad p2 from rfl];generalize pB M3' k.p (.ins a.e (qZ {c with st:="over",wd:=some w0,at_:=[],ms:=[]} k.wy ad p2))=M4 at g4 s4 ⊢;clear h1 h2 h3 h4 n1 n2 lp t4 np g3 ZI;obtain⟨ad,md,h1,h2,h3,h4,n1,n2⟩:=g4.cell;refine oZ h1 ⟨(G.j "holder" rfl),by show 8<1000;decide,_,.refl,?_⟩;obtain⟨g5,s5⟩:=g4.put (c.over w0) rfl h3 h4 n1 n2;refine q _ ((s1.trans s2').trans (s3'.trans (s4.trans s5))) ?_;have:=g5.bd;rw[rT,rT,rT,rT]at this;exact this
def MC:Fq P w K mg base 1 a.aR (MP a):=by
 refine fq G.aR.toDG Dc (λr u=>⟨_,(oY (pY v0 (qB rfl (yg (ix:=[none,some 1]) (N':=["other","phone"])) (qF (pq v0)) (qz 0) (vP (pD u v0 U1)) v0))
 (o9 (pY v0 (qB rfl (yg (ix:=[none,some 1]) (N':=["other","phone"])) (qF (pq v0)) (qz 0) (vP (pD u v0 U1)) v0)))),?_⟩)
 rintro ds M Q ⟨A,V,i,k,c,x,rfl,h,la,lm,q⟩
 have hz:=dH;obtain⟨ad,md,h1,h2,h3,h4,n1,n2⟩:=h.cell;refine oZ h1 (i' rfl (i' h3 (tM (f:=id) (t:=Om x) h3 _ [] _ (by rw[cS];simp only[dM];omega) (λd hd k0 hk=>?_) (λd hd _ k0 hk=>?_) λp hp=>?_)))
 .obtain⟨y,hy,rfl⟩:=dB.mp hd;exact hk
 .obtain⟨y,hy,rfl⟩:=dB.mp hd;exact hk
 rw[Bs];have t1:=qp.new (c:=.lst ((rC c.at_ x).map D.str)) hp;have lp:=@pA M p ((rC c.at_ x).map D.str);have np:=h.bd.ng hp;have h':=h.sub t1;have s1:qJ A M A (pB M p (.lst ((rC c.at_ x).map D.str))):=.sub t1;generalize pB M p (.lst ((rC c.at_ x).map D.str))=M1 at t1 lp h' s1 ⊢;clear h1 h2 h3 h4 n1 n2;obtain⟨ad,md,h1,h2,h3,h4,n1,n2⟩:=h'.cell;refine oZ h1 ⟨(G.j "at" rfl),by show 8<1000;decide,?_⟩;obtain⟨g2,s2⟩:=h'.put {c with at_:=rC c.at_ x} rfl lp h4 np n2;rw[show vJ "at" (.ref p) (qZ c k.wy ad md)=qZ {c with at_:=rC c.at_ x} k.wy p md from rfl];generalize pB M1 k.p (.ins a.e (qZ {c with at_:=rC c.at_ x} k.wy p md))=M2 at g2 s2 ⊢;clear h1 h2 h3 h4 n1 n2 lp np;obtain⟨ad,md,h1,h2,h3,h4,n1,n2⟩:=g2.cell;refine oZ h1 (i' rfl (i' h4 (tM (f:=id) (t:=Om x) h4 _ [] _ (by rw[cS];simp only[dM];show 0+c.ms.length<=sizeLine;omega) (λd hd k0 hk=>?_) (λd hd _ k0 hk=>?_) λp2 Xf=>?_)))
 .obtain⟨y,hy,rfl⟩:=dB.mp hd;exact hk
 .obtain⟨y,hy,rfl⟩:=dB.mp hd;exact hk
 rw[Bs];have t3:=qp.new (c:=.lst ((rC c.ms x).map D.str)) Xf;have lp:=@pA M2 p2 ((rC c.ms x).map D.str);have np:=g2.bd.ng Xf;have Zo:=g2.sub t3;have s3:qJ A M2 A (pB M2 p2 (.lst ((rC c.ms x).map D.str))):=.sub t3;generalize pB M2 p2 (.lst ((rC c.ms x).map D.str))=M3 at t3 lp Zo s3 ⊢;clear h1 h2 h3 h4 n1 n2;obtain⟨ad,md,h1,h2,h3,h4,n1,n2⟩:=Zo.cell;refine oZ h1 ⟨(G.j "members" rfl),by show 8<1000;decide,_,.refl,?_⟩;obtain⟨g4,s4⟩:=Zo.put (c.drop x) rfl h3 lp n1 np;refine q _ ((s1.trans s2).trans (s3.trans s4)) ?_;have:=g4.bd;rw[rT]at this;exact this
def KG:Fq P w K mg base 2 a.aS (J8 a):=by
 refine fq G.aS.toDG xA (λr u=>⟨_,(oY (pH 2 xA (pI U1 pb))
 (o9 (pN (pD u U2 pj)
 (oY (pY v0 pj)
 (oY (pY v0 (pT su rfl G.r sj (qb (pI U1 pb))))
 (o9 (pY v0 pb))))
 (o9 (pN (pD u U2 pj)
 (o9 (pY v0 (qT sV)))
 (o9 (pN (pD u U2 pj)
 (oY (pY v0 pj)
 (o9 (pY v0 (qT (qb (pI U1 pb))))))
 (o9 (pN (pD u U2 pj)
 (oY (pY v0 pj)
 (oY (pY v0 (pT su rfl G.r sj (qb (pI U1 pb))))
 (oY (pY v0 (qT sV))
 (o9 (pY v0 rD)))))
 (o9 (pN (pD u U2 pj)
 (oY (pY v0 pj)
 (o9 (pY v0 (pI U1 pb))))
 (o9 (pN (pD u U2 pj)
 (o9 (pJ (pE (MC G) r G.aR (rN v0 (pI U1 pb)))))
 (o9 (pN (pD u U2 pj)
 (o9 (pJ (pE (II G) r G.ab (rN v0 (pI U1 pb)))))
 pF))))))))))))))),?_⟩)
 rintro ds M Q ⟨A,V,i,k,c,e,c',rfl,h,la,lm,hc,q⟩
 cases hc with
 | over w0=>exact⟨A,V,i,k,c,w0,rfl,h,λM' s b=>⟨M',.refl,q M' s b⟩⟩
 | leaves x=>exact⟨A,V,i,k,c,x,rfl,h,la,lm,λM' s b=>⟨M',.refl,q M' s b⟩⟩
 | quiet=>refine⟨oW rfl,λp hp=>?_⟩;have t3:=qp.new (c:=.lst []) hp;have lp:=@pA M p [];have np:=h.bd.ng hp;have g1:=h.sub t3;generalize pB M p (.lst [])=M1 at t3 lp g1 ⊢;obtain⟨ad,md,h1,h2,h3,h4,n1,n2⟩:=g1.cell;refine oZ h1 ⟨(G.j "at" rfl),by show 8<1000;decide,_,.refl,?_⟩;obtain⟨g5,s5⟩:=g1.put c.nC rfl lp h4 np n2;exact q _ ((qJ.sub t3).trans s5) g5.bd
 | waits x=>obtain⟨ad,md,h1,h2,h3,h4,n1,n2⟩:=h.cell;refine oZ h1 ⟨(G.j "state" rfl),by show 8<1000;decide,?_⟩;obtain⟨g1,s1⟩:=h.put {c with st:="waits"} rfl h3 h4 n1 n2;show uq _ _ _ _ (pB M k.p (.ins a.e (qZ {c with st:="waits"} k.wy ad md)));generalize pB M k.p (.ins a.e (qZ {c with st:="waits"} k.wy ad md))=M1 at g1 s1 ⊢;clear h1 h2 h3 h4 n1 n2;refine⟨oW rfl,λp hp=>?_⟩;have t3:=qp.new (c:=.lst [D.str x]) hp;have lp:=@pA M1 p [D.str x];have np:=g1.bd.ng hp;have Y1:=g1.sub t3;generalize pB M1 p (.lst [D.str x])=M1' at t3 lp Y1 ⊢;obtain⟨ad,md,h1,h2,h3,h4,n1,n2⟩:=Y1.cell;refine oZ h1 ⟨(G.j "at" rfl),by show 8<1000;decide,_,.refl,?_⟩;obtain⟨g5,s5⟩:=Y1.put (c.wait x) rfl lp h4 np n2;refine q _ (s1.trans ((qJ.sub t3).trans s5)) ?_;have:=g5.bd;rw[rT]at this;exact this
 | held x=>obtain⟨ad,md,h1,h2,h3,h4,n1,n2⟩:=h.cell;refine oZ h1 ⟨(G.j "state" rfl),by show 8<1000;decide,?_⟩;obtain⟨g1,s1⟩:=h.put {c with st:="held"} rfl h3 h4 n1 n2;show uq _ _ _ _ (pB M k.p (.ins a.e (qZ {c with st:="held"} k.wy ad md)));generalize pB M k.p (.ins a.e (qZ {c with st:="held"} k.wy ad md))=M1 at g1 s1 ⊢;clear h1 h2 h3 h4 n1 n2;obtain⟨ad,md,h1,h2,h3,h4,n1,n2⟩:=g1.cell;refine oZ h1 ⟨(G.j "holder" rfl),by show 8<1000;decide,_,.refl,?_⟩;obtain⟨g5,s5⟩:=g1.put (c.hold x) rfl h3 h4 n1 n2;refine q _ (s1.trans s5) ?_;have:=g5.bd;rw[rT]at this;exact this
 | rings ps=>obtain⟨ad,md,h1,h2,h3,h4,n1,n2⟩:=h.cell;refine oZ h1 ⟨(G.j "state" rfl),by show 8<1000;decide,?_⟩;obtain⟨g1,s1⟩:=h.put {c with st:="rings"} rfl h3 h4 n1 n2;show uq _ _ _ _ (pB M k.p (.ins a.e (qZ {c with st:="rings"} k.wy ad md)));generalize pB M k.p (.ins a.e (qZ {c with st:="rings"} k.wy ad md))=M1 at g1 s1 ⊢;clear h1 h2 h3 h4 n1 n2;refine λp hp=>?_;have t3:=qp.new (c:=.lst (ps.map D.str)) hp;have lp:=@pA M1 p (ps.map D.str);have np:=g1.bd.ng hp;have Y1:=g1.sub t3;have s1':=s1.trans (.sub t3);generalize pB M1 p (.lst (ps.map D.str))=M1' at t3 lp Y1 s1' ⊢;obtain⟨ad,md,h1,h2,h3,h4,n1,n2⟩:=Y1.cell;refine oZ h1 ⟨(G.j "at" rfl),by show 8<1000;decide,?_⟩;obtain⟨g3,s3⟩:=Y1.put {c with st:="rings",at_:=ps} rfl lp h4 np n2;rw[show vJ "at" (.ref p) (qZ {c with st:="rings"} k.wy ad md)=qZ {c with st:="rings",at_:=ps} k.wy p md from rfl];generalize pB M1' k.p (.ins a.e (qZ {c with st:="rings",at_:=ps} k.wy p md))=M3 at g3 s3 ⊢;clear h1 h2 h3 h4 n1 n2 lp t3 np;obtain⟨ad,md,h1,h2,h3,h4,n1,n2⟩:=g3.cell;refine oZ h1 ⟨(G.j "since" rfl),by show 8<1000;decide,_,.refl,?_⟩;obtain⟨g5,s5⟩:=g3.put (c.ring ps) rfl h3 h4 n1 n2;refine q _ (s1'.trans (s3.trans s5)) ?_;have:=g5.bd;rw[rT,rT]at this;exact this
 | talks ms=>obtain⟨ad,md,h1,h2,h3,h4,n1,n2⟩:=h.cell;refine oZ h1 ⟨(G.j "state" rfl),by show 8<1000;decide,?_⟩;obtain⟨g1,s1⟩:=h.put {c with st:="talks"} rfl h3 h4 n1 n2;show uq _ _ _ _ (pB M k.p (.ins a.e (qZ {c with st:="talks"} k.wy ad md)));generalize pB M k.p (.ins a.e (qZ {c with st:="talks"} k.wy ad md))=M1 at g1 s1 ⊢;clear h1 h2 h3 h4 n1 n2;refine λp hp=>?_;have t3:=qp.new (c:=.lst (ms.map D.str)) hp;have lp:=@pA M1 p (ms.map D.str);have np:=g1.bd.ng hp;have Y1:=g1.sub t3;have s1':=s1.trans (.sub t3);generalize pB M1 p (.lst (ms.map D.str))=M1' at t3 lp Y1 s1' ⊢;obtain⟨ad,md,h1,h2,h3,h4,n1,n2⟩:=Y1.cell;refine oZ h1 ⟨(G.j "members" rfl),by show 8<1000;decide,?_⟩;obtain⟨g3,s3⟩:=Y1.put {c with st:="talks",ms:=ms} rfl h3 lp n1 np;show uq _ _ _ _ (pB M1' k.p (.ins a.e (qZ {c with st:="talks",ms:=ms} k.wy ad p)));generalize pB M1' k.p (.ins a.e (qZ {c with st:="talks",ms:=ms} k.wy ad p))=M3 at g3 s3 ⊢;clear h1 h2 h3 h4 n1 n2 lp t3 np;refine⟨oW rfl,λp2 Xf=>?_⟩;have t4:=qp.new (c:=.lst []) Xf;have lp:=@pA M3 p2 [];have np:=g3.bd.ng Xf;have ZI:=g3.sub t4;have s3':=s3.trans (.sub t4);generalize pB M3 p2 (.lst [])=M3' at t4 lp ZI s3' ⊢;obtain⟨ad,md,h1,h2,h3,h4,n1,n2⟩:=ZI.cell;refine oZ h1 ⟨(G.j "at" rfl),by show 8<1000;decide,?_⟩;obtain⟨g4,s4⟩:=ZI.put {c with st:="talks",ms:=ms,at_:=[]} rfl lp h4 np n2;rw[show vJ "at" (.ref p2) (qZ {c with st:="talks",ms:=ms} k.wy ad md)=qZ {c with st:="talks",ms:=ms,at_:=[]} k.wy p2 md from rfl];generalize pB M3' k.p (.ins a.e (qZ {c with st:="talks",ms:=ms,at_:=[]} k.wy p2 md))=M4 at g4 s4 ⊢;clear h1 h2 h3 h4 n1 n2 lp t4 np;obtain⟨ad,md,h1,h2,h3,h4,n1,n2⟩:=g4.cell;refine oZ h1 ⟨(G.j "holder" rfl),by show 8<1000;decide,_,.refl,?_⟩;obtain⟨g5,s5⟩:=g4.put (c.nA ms) rfl h3 h4 n1 n2;refine q _ (s1'.trans (s3'.trans (s4.trans s5))) ?_;have:=g5.bd;rw[rT,rT,rT]at this;exact this
theorem tH{α:Type}{f:α->α}:∀{l:List α} {i:Nat} {c:α},l[i]?=some c->l.modify i f=l.set i (f c)
 | [],_,_,h=>by simp at h
 | _::_,0,_,h=>by cases h;rfl
 | x::r,i+1,c,h=>by rw[List.modify_succ_cons,kX,tH (l:=r) (by simpa using h)]
def HD(ps:T0 (Str×Int))(z:Str)(n:Int):Ci (tE ps) (.inr z) (.int n)=tE (BL ps z n):=by
 have ea:((tE ps).any λkv=>decide (kv.1=(Sum.inr z:qS)))=ps.any λp=>decide (p.1=z):=by unfold tE;rw[jK];congr 1;funext p;have:((Sum.inr p.1:qS)=Sum.inr z)=(p.1=z):=propext ⟨λh=>jV h,λh=>by rw[h]⟩;simp only[Function.comp,this]
 unfold Ci BL;rw[ea];by_cases h:(ps.any λp=>decide (p.1=z))=true
 .rw[cZ h,cZ h];unfold tE;rw[dX,dX];refine gq λp _=>?_;by_cases hp:p.1=z
  .simp[hp]
  .have:¬(Sum.inr p.1:qS)=Sum.inr z:=λy=>hp (jV y);simp[hp]
 .rw[cX h,cX h];unfold tE;rw[dP];rfl
def F2{α:Type}{l:List α}{i:Nat}{x:α}(h:l[i]?=some x):l.set i x=l:=by obtain⟨hi,e⟩:=cU.mp h;rw[<-e,List.set_getElem_self]
structure Ww(V:qd):Prop where
 lo:V.log.length<10000000
 le:V.mR.length<10000000
 ca:V.calls.length<=1000000
 ps:V.ps.length<10000000
 cs:∀c∈V.calls,c.way.length<10000000/\c.at_.length<=100/\c.ms.length<=100
def AY(a:Ad):qY:=λds M Q=>F0 λA V k c v=>ds=[.ref A.b,rP.d v]/\CI a M A V v.i k c/\V.mR.length<10000000/\c.way.length<10000000/\∀M',qJ A M A M'->pG a M' A {yM V v.i (c.go v.g)with mR:=V.mR++[v]}->Q .mG M'
def Dq(a:Ad):qY:=λds M Q=>Tg λA V i j ki ci cj ms=>ds=[.ref A.b,.int (i:Nat),.int (j:Nat),names ms]/\CI a M A V i ki ci/\V.calls[j]?=some cj/\i≠j/\V.mR.length<10000000/\∀M' A',A'.b=A.b->qJ A M A' M'->pG a M' A' {yM (yM V i (ci.over "merged")) j (cj.mem ms)with mR:=V.mR.map (rP.to i j)}->Q .mG M'
def zH(a:Ad):qY:=λds M Q=>A8 λA V=>ds=[.ref A.b]/\pG a M A V/\∀M',qJ A M A M'->pG a M' A {V with t:=V.t+1,calls:=V.calls.map pk.tick}->Q .mG M'
def vO(a:Ad):qY:=λds M Q=>Bg λb A V e=>ds=[.ref b,Ev.d e]/\A.b=b/\pG a M A V/\Ww V/\e.ok V/\∀M' A',A'.b=A.b->qJ A M A' M'->pG a M' A' (pV V e)->Q .mG M'
noncomputable def RF(m k:Nat):D->D
 | .tup (.int i::r)=>if i=(m:Int)then .tup (.int (k:Nat)::r)else .tup (.int i::r)
 | d=>d
def SY(m k:Nat)(v:rP):RF m k v.d=(v.to m k).d:=by
 show(if ((v.i:Nat):Int)=(m:Int)then _ else _)=_;unfold rP.to;by_cases h:v.i=m
 .rw[cZ h,cZ (by rw[h])];rfl
 .rw[cX h,cX (by omega)];rfl
def Ip:Fq P w K mg base 1 a.bz (AY a):=by
 refine fq G.bz.toDG zW (λr u=>⟨_,(oY (pJ (rJ (pq v0) (qb U1)))
 (o9 (pJ (rJ (pq (pI (pq v0) (pI U1 pb))) (qb (pI U1 pb)))))),?_⟩)
 rintro ds M Q ⟨A,V,k,c,v,rfl,ci,l1,l2,q⟩
 have hz:=dH;have bd:=ci.bd;refine oZ bd.at_ (i' rfl ⟨by show(oR M A.le).isSome=true;rw[bd.le];rfl,i' bd.le ⟨by rw[cS];omega,?_⟩⟩);obtain⟨b1,s1⟩:=bd.oq (es:=V.mR++[v]);rw[dP]at b1 s1;have b1:pG a (pB M A.le (.lst (V.mR.map rP.d++[v.d]))) A {V with mR:=V.mR++[v]}:=b1;have s1:qJ A M A (pB M A.le (.lst (V.mR.map rP.d++[v.d]))):=s1;generalize pB M A.le (.lst (V.mR.map rP.d++[v.d]))=M1 at b1 s1 ⊢;obtain⟨ad,md,h1,h2,h3,h4,n1,n2⟩:=b1.cs v.i k c ci.e1 ci.e2;refine oZ b1.at_ (i' rfl (i' b1.ca (i' (ra ci.e1) (oZ h1 (i' rfl ⟨by show(oR M1 k.wy).isSome=true;rw[h2];rfl,i' h2 ⟨by rw[cS];omega,?_⟩⟩)))));obtain⟨b2,s2⟩:=b1.oa (ws:=c.way++[v.g]) ci.e1 ci.e2;rw[dP]at b2 s2;exact⟨_,.refl,q _ (s1.trans s2) b2⟩
def NB:Fq P w K mg base 2 a.bA (Dq a):=by
 refine fq G.bA.toDG xo (λr u=>⟨_,(oY (pJ (pE (II G) r G.ab (rN (pI (pq v0) U1) pj)))
 (oY (pY v0 (qB rfl (yg (ix:=[none,some 1,some 2]) (N':=["leg","merged","kept"])) (qF (pq v0)) (qz 0) rQ (QL (pD u (pI v0 pb) U1) (pS (pK (qb U2)) (rL v0 (sO pb) sS)) v0)))
 (oY (pH 4 xo (pI (pq v0) U2))
 (o9 (pY v4 (pT su rfl G.r sj (qb U3))))))),?_⟩)
 rintro ds M Q ⟨A,V,i,j,ki,ci,cj,ms,rfl,hi,hj,X5,l1,q⟩
 have hz:=dH;refine oZ hi.bd.at_ (i' rfl (i' rfl (i' hi.bd.ca (i' (ra hi.e1) ⟨A,V,i,ki,ci,"merged",rfl,hi,λM1 s1 b1=>?_⟩))));have hj1:(yM V i (ci.over "merged")).calls[j]?=some cj:=by show(V.calls.set i _)[j]?=_;rw[eN X5];exact hj
 have le1:oR M1 A.le=some (V.mR.map rP.d):=b1.le;refine oZ b1.at_ (i' rfl (i' le1 (rh (f:=RF i j) le1 _ [] _ (by rw[cS];simp only[dM];omega) (λd hd k hk=>?_) λp hp=>?_)))
 .obtain⟨v,_,rfl⟩:=dB.mp hd;refine i' rfl ?_;have hk:k (if ((v.i:Nat):Int)=(i:Int)then .tup [.int (j:Nat),.str v.f,.str v.g,.str v.y]else .tup [.int (v.i:Nat),.str v.f,.str v.g,.str v.y]) M1:=hk;refine qA (c:=((v.i:Nat):Int)==(i:Nat)) (λz=>?_) (λz=>?_)
  .rw[cZ (eq_of_beq z)]at hk;exact⟨oW rfl,fB _ _,by show 1+3<=sizeLine;omega,hk⟩
  .rw[cX (λy=>z (by rw[y];exact fA _))]at hk;exact hk
 have em:[]++(V.mR.map rP.d).map (RF i j)=(V.mR.map (rP.to i j)).map rP.d:=by rw[dY,dX,dX];exact gq λv _=>SY i j v
 rw[em];obtain⟨b2,s2⟩:=b1.oh (es:=V.mR.map (rP.to i j)) hp;have t:=qp.new (c:=.lst ((V.mR.map (rP.to i j)).map rP.d)) hp;refine oZ (t _ _ b1.at_) ⟨(G.E "legs" rfl),by show 8<1000;decide,?_⟩;show uq _ _ _ _ (pB (pB M1 p (.lst ((V.mR.map (rP.to i j)).map rP.d))) A.b (.ins a.c (tR (.ref V.p) V.h V.t A.ca p A.nx A.on A.lo)));have b2:pG a (pB (pB M1 p (.lst ((V.mR.map (rP.to i j)).map rP.d))) A.b (.ins a.c (tR (.ref V.p) V.h V.t A.ca p A.nx A.on A.lo))) {A with le:=p} {yM V i (ci.over "merged")with mR:=V.mR.map (rP.to i j)}:=b2;have s2:qJ A M1 {A with le:=p} (pB (pB M1 p (.lst ((V.mR.map (rP.to i j)).map rP.d))) A.b (.ins a.c (tR (.ref V.p) V.h V.t A.ca p A.nx A.on A.lo))):=s2;generalize pB (pB M1 p (.lst ((V.mR.map (rP.to i j)).map rP.d))) A.b (.ins a.c (tR (.ref V.p) V.h V.t A.ca p A.nx A.on A.lo))=M2 at b2 s2 ⊢;have hjk:j<A.cs.length:=by rw[hi.bd.len];exact(cU.mp hj).1
 have ej:A.cs[j]?=some A.cs[j]:=cV hjk;generalize A.cs[j]=kj at ej;have cj2:CI a M2 {A with le:=p} _ j kj cj:=⟨b2,ej,hj1⟩;refine oZ b2.at_ (i' rfl (i' rfl (i' b2.ca (i' (ra ej) ?_))));refine λr hr0=>?_;have t3:=qp.new (c:=.lst (ms.map D.str)) hr0;have lr:=@pA M2 r (ms.map D.str);have nr:=b2.ng hr0;have cj3:=cj2.sub t3;generalize pB M2 r (.lst (ms.map D.str))=M3 at t3 lr cj3 ⊢;obtain⟨ad,md,h1,h2,h3,h4,n1,n2⟩:=cj3.cell;refine oZ h1 ⟨(G.j "members" rfl),by show 8<1000;decide,_,.refl,?_⟩;obtain⟨g5,s5⟩:=cj3.put (cj.mem ms) rfl h3 lr n1 nr;exact q _ {A with le:=p} rfl (s1.trans (s2.trans ((qJ.sub t3).trans s5))) g5.bd
def FB:Fq P w K mg base 1 a.bB (zH a):=by
 refine fq G.bB.toDG ve (λr u=>⟨_,(oY (D8 v0 pb)
 (o9 (uM fu rfl (qF (pq v0)) (sH 1 ve)
 (o9 (pN (pD u (pq U1) pj)
 (o9 (D8 U1 pb))
 pF))))),?_⟩)
 rintro ds M Q ⟨A,V,rfl,bd,q⟩
 refine oZ bd.at_ ⟨(G.E "turn" rfl),i' rfl (i' rfl (oZ bd.at_ ⟨rfl,by show 8<1000;decide,?_⟩))⟩;obtain⟨b1,s1⟩:=bd.putT (t:=V.t+1);rw[show vJ "turn" (.int (V.t+1)) (tR (.ref V.p) V.h V.t A.ca A.le A.nx A.on A.lo)=tR (.ref V.p) V.h (V.t+1) A.ca A.le A.nx A.on A.lo from rfl];generalize pB M A.b (.ins a.c (tR (.ref V.p) V.h (V.t+1) A.ca A.le A.nx A.on A.lo))=M1 at b1 s1 ⊢;refine oZ b1.at_ (i' rfl (i' b1.ca ?_));refine wG (A.cs.map λk=>D.ref k.p) (λpre U M'=>pG a M' A {V with t:=V.t+1,calls:=(V.calls.take pre.length).map pk.tick++V.calls.drop pre.length}/\qJ A M A M'/\∃y,U=[some (.ref A.b),y]) (λ_ _ M' j=>j.1.ca) _ [] _ _ rfl ⟨b1,s1,none,rfl⟩ ?_ ?_
 .rintro pre d post e U M' ⟨b2,s2,y,rfl⟩ nx Xj
  have hd:(A.cs.map λk=>D.ref k.p)[pre.length]?=some d:=by rw[<-e];simp
  rw[dz]at hd;cases ek:A.cs[pre.length]? with
  | none=>rw[ek]at hd;cases hd
  | some k=>
   rw[ek]at hd;have hd:D.ref k.p=d:=df hd;subst hd;have hi:pre.length<V.calls.length:=by rw[<-bd.len];exact(cU.mp ek).1
   have ec:V.calls[pre.length]?=some V.calls[pre.length]:=cV hi;have ed:V.calls.drop pre.length=V.calls[pre.length]::V.calls.drop (pre.length+1):=gG hi;have et:V.calls.take (pre.length+1)=V.calls.take pre.length++[V.calls[pre.length]]:=by rw[gU,ec];rfl
   generalize V.calls[pre.length]=c at ec ed et;have hl:((V.calls.take pre.length).map pk.tick).length=pre.length:=by rw[cS,fQ];omega
   have ec2:((V.calls.take pre.length).map pk.tick++V.calls.drop pre.length)[pre.length]?=some c:=by rw[eR (by rw[hl];exact dg _),hl,g9,ed];rfl
   rw[cW,dN,et]at Xj;have en:((V.calls.take pre.length).map pk.tick++V.calls.drop pre.length).set pre.length c.tick=(V.calls.take pre.length++[c]).map pk.tick++V.calls.drop (pre.length+1):=by rw[kc _ _ (by rw[hl];exact dg _),hl,g9,ed,dP,fk];rfl
   have ci:CI a M' A _ pre.length k c:=⟨b2,ek,ec2⟩;obtain⟨ad,md,h1,h2,h3,h4,n1,n2⟩:=ci.cell;refine oZ h1 (i' rfl ?_);have ht:c.tick=if (c.st=="rings")=true then{c with si:=c.si+1}else c:=rfl;refine qA (c:=c.st=="rings") (λg=>?_) (λg=>?_)
   .rw[cZ g]at ht;refine oZ h1 ⟨(G.j "since" rfl),i' rfl (i' rfl (oZ h1 ⟨rfl,by show 8<1000;decide,?_⟩))⟩;obtain⟨g5,s5⟩:=ci.put c.tick (by rw[ht]) (by rw[ht];exact h3) (by rw[ht];exact h4) n1 n2;have b5:=g5.bd;unfold yM at b5;rw[en]at b5;rw[ht]at b5 s5;exact Xj _ _ ⟨b5,s2.trans s5,_,rfl⟩
   .rw[cX g]at ht;rw[ht,F2 ec2]at en;rw[en]at b2;exact Xj _ _ ⟨b2,s2,_,rfl⟩
 .rintro U M' ⟨b2,s2,y,rfl⟩
  rw[cS,bd.len,fE,jG,eY]at b2;exact⟨M',.refl,q M' s2 b2⟩
def qO:Fq P w K mg base 3 a.k (vO a):=by
 refine fq G.k.toDG xf (λr u=>⟨_,(oY (pJ (rJ (pq v0) (qb U1)))
 (oY (pH 2 xf (pI U1 pb))
 (o9 (pN (pD u U2 pj)
 (o9 (pJ (rJ (pq v0) (qb (uL (Og G) r G.e G.b9 G.an.toDG (qb (pI U1 pb)))))))
 (o9 (pN (pD u U2 pj)
 (o9 (pJ (pR v0 G.c.toCls G.bz (Ip G) r (qb (rL U1 (sO pb) sS)))))
 (o9 (pN (pD u U2 pj)
 (o9 (Qa u (pq v0) (pI U1 pb) (pI U1 pb)))
 (o9 (pN (pD u U2 pj)
 (o9 (pJ (pR v0 G.c.toCls G.bA (NB G) r (qX (pI U1 pb) (pI U1 pb) (pI U1 pb)))))
 (o9 (pN (pD u U2 pj)
 (o9 (pJ (vD v0 G.c.toCls G.bB (FB G) r)))
 (o9 (pN (pD u U2 (pK (rN pj pj)))
 (o9 (Sq (qc u U2 pj) (SM (pq v0) (pI U1 pb))))
 (o9 (pN (pD u U2 pj)
 (o9 (pJ (pE (KG G) r G.aS (rN (pI (pq v0) (pI U1 pb)) U1))))
 pF)))))))))))))))),?_⟩)
 rintro ds M Q ⟨_,A,V,e,rfl,rfl,bd,lim,ev,q⟩
 have hz:=dH;have ll:=lim.lo;have lc:=lim.ca;have lp:=lim.ps;refine oZ bd.at_ (i' rfl ⟨by show(oR M A.lo).isSome=true;rw[bd.lo];rfl,i' bd.lo ⟨by rw[cS];omega,?_⟩⟩);have hb:=bd.oj (es:=V.log++[e]);rw[dP]at hb;obtain⟨b1,s1⟩:pG a (pB M A.lo (.lst (V.log.map Ev.d++[e.d]))) A (qE V e)/\qJ A M A (pB M A.lo (.lst (V.log.map Ev.d++[e.d]))):=hb;show uq _ _ _ _ (pB M A.lo (.lst (V.log.map Ev.d++[e.d])));generalize pB M A.lo (.lst (V.log.map Ev.d++[e.d]))=M1 at b1 s1 ⊢;have Zb:∀i,i<V.calls.length->∃k c,A.cs[i]?=some k/\V.calls[i]?=some c/\c∈V.calls:=λi hi=>by
  have X1:i<A.cs.length:=by rw[bd.len];exact hi
  exact⟨_,_,cV X1,cV hi,hZ hi⟩
 have chg:∀(i:Nat) (k:rm) (c:pk) (c':pk) (f:pk->pk),A.cs[i]?=some k->V.calls[i]?=some c->f c=c'->pV V e=xg (qE V e) i f->∀(M2:Mp),qJ A M1 A M2->pG a M2 A (yM (qE V e) i c')->∃W9,qp W9 M2/\Q .mG W9:=λi k c c' f e1 e2 e3 e4 M2 s2 b2=>⟨M2,.refl,q M2 A rfl (s1.trans s2) (by
  rw[e4];unfold xg;rw[show(qE V e).calls=V.calls from rfl,tH e2,e3];exact b2)⟩
 cases e with
 | new n x=>refine oZ b1.at_ (i' rfl ⟨by show(oR M1 A.ca).isSome=true;rw[b1.ca];rfl,λp hp=>⟨p,x,rfl,pL,λM2 wy ad md kp z1 z2 z3 n1 n2 h1 h2 h3 h4=>⟨rfl,?_⟩⟩⟩);have sp:=qp.new (c:=.ins a.e []) hp;have s2:qp M1 M2:=λy d hy=>kp y d (Tp hy hp) (sp y d hy);refine i' (s2.lst b1.ca) ⟨by rw[cS,b1.len];show V.calls.length<sizeLine;omega,?_⟩;obtain⟨b3,s3⟩:=b1.nW s2 (c:=yO x) hp (sp.none z1) (sp.none z2) (sp.none z3) h1 h2 h3 h4 n1 n2;exact⟨_,.refl,q _ (A.add ⟨p,wy⟩) rfl (s1.trans s3) b3⟩
 | leg v=>obtain⟨k,c,ek,ec,hc⟩:=Zb v.i ev;refine oZ b1.at_ ⟨rfl,_,⟨rfl,rfl⟩,A,qE V (.leg v),k,c,v,rfl,⟨b1,ek,ec⟩,lim.le,(lim.cs c hc).1,λM2 s2 b2=>⟨M2,.refl,q M2 A rfl (s1.trans s2) ?_⟩⟩;show pG a M2 A {qE V (.leg v)with mR:=V.mR++[v],calls:=V.calls.modify v.i (·.go v.g)};rw[tH ec];exact b2
 | next z n=>refine oZ b1.at_ (i' rfl (i' b1.nx ⟨by show(tE V.ps).length<sizeLine;unfold tE;rw[cS];omega,?_⟩));rw[HD];obtain⟨b2,s2⟩:=b1.oJ (ps:=BL V.ps z n);exact⟨_,.refl,q _ A rfl (s1.trans s2) b2⟩
 | merge i j ms=>obtain⟨hi,hj,hij,_⟩:=ev;obtain⟨ki,ci,eki,eci,hci⟩:=Zb i hi;obtain⟨kj,cj,ekj,ecj,hcj⟩:=Zb j hj;refine oZ b1.at_ ⟨rfl,_,⟨rfl,rfl⟩,A,qE V (.merge i j ms),i,j,ki,ci,cj,ms,rfl,⟨b1,eki,eci⟩,ecj,hij,lim.le,λM2 A2 eb s2 b2=>⟨M2,.refl,q M2 A2 eb (s1.trans s2) ?_⟩⟩;show pG a M2 A2 {qE V (.merge i j ms)with calls:=(V.calls.modify i (·.over "merged")).modify j (·.mem ms),mR:=V.mR.map (rP.to i j)};rw[tH eci,tH (show(V.calls.set i _)[j]?=some cj by rw[eN hij];exact ecj)];exact b2
 | asks i z ns=>exact⟨oW rfl,rfl,rfl,M1,.refl,q M1 A rfl s1 b1⟩
 | turn=>exact oZ b1.at_ ⟨rfl,_,⟨rfl,rfl⟩,A,qE V .turn,rfl,b1,λM2 s2 b2=>⟨M2,.refl,q M2 A rfl (s1.trans s2) b2⟩⟩
 | sw b i=>
  have hi:i<V.on.length:=ev;obtain⟨b2,s2⟩:=b1.oG (bs:=V.on.set i b);have es:(V.on.map D.bl).set i (.bl b)=(V.on.set i b).map D.bl:=(mq).symm;have ix:G7 (V.on.map D.bl).length (i:Nat)=some i:=by rw[cS];unfold G7;simp[hi]
  have Xa:∃W9,qp W9 (pB M1 A.on (.lst ((V.on.map D.bl).set i (.bl b))))/\Q .mG W9:=by rw[es];exact⟨_,.refl,q _ A rfl (s1.trans s2) b2⟩
  cases b with
  | true=>exact⟨oW rfl,rfl,rfl,oZ b1.at_ (i' rfl (i' b1.on (i' ix Xa)))⟩
  | false=>exact⟨oW rfl,rfl,rfl,oZ b1.at_ (i' rfl (i' b1.on (i' ix Xa)))⟩
 | rings i ps=>obtain⟨k,c,ek,ec,hc⟩:=Zb i ev.1;exact⟨oW rfl,rfl,rfl,oZ b1.at_ (i' rfl (i' b1.ca (i' (ra ek) ⟨A,qE V _,i,k,c,_,_,rfl,⟨b1,ek,ec⟩,(lim.cs c hc).2.1,(lim.cs c hc).2.2,.rings ps,chg i k c _ _ ek ec rfl rfl⟩)))⟩
 | quiet i=>obtain⟨k,c,ek,ec,hc⟩:=Zb i ev;exact⟨oW rfl,rfl,rfl,oZ b1.at_ (i' rfl (i' b1.ca (i' (ra ek) ⟨A,qE V _,i,k,c,_,_,rfl,⟨b1,ek,ec⟩,(lim.cs c hc).2.1,(lim.cs c hc).2.2,.quiet,chg i k c _ _ ek ec rfl rfl⟩)))⟩
 | waits i x=>obtain⟨k,c,ek,ec,hc⟩:=Zb i ev;exact⟨oW rfl,rfl,rfl,oZ b1.at_ (i' rfl (i' b1.ca (i' (ra ek) ⟨A,qE V _,i,k,c,_,_,rfl,⟨b1,ek,ec⟩,(lim.cs c hc).2.1,(lim.cs c hc).2.2,.waits x,chg i k c _ _ ek ec rfl rfl⟩)))⟩
 | talks i ms=>obtain⟨k,c,ek,ec,hc⟩:=Zb i ev.1;exact⟨oW rfl,rfl,rfl,oZ b1.at_ (i' rfl (i' b1.ca (i' (ra ek) ⟨A,qE V _,i,k,c,_,_,rfl,⟨b1,ek,ec⟩,(lim.cs c hc).2.1,(lim.cs c hc).2.2,.talks ms,chg i k c _ _ ek ec rfl rfl⟩)))⟩
 | held i x=>obtain⟨k,c,ek,ec,hc⟩:=Zb i ev;exact⟨oW rfl,rfl,rfl,oZ b1.at_ (i' rfl (i' b1.ca (i' (ra ek) ⟨A,qE V _,i,k,c,_,_,rfl,⟨b1,ek,ec⟩,(lim.cs c hc).2.1,(lim.cs c hc).2.2,.held x,chg i k c _ _ ek ec rfl rfl⟩)))⟩
 | leaves i x=>obtain⟨k,c,ek,ec,hc⟩:=Zb i ev;exact⟨oW rfl,rfl,rfl,oZ b1.at_ (i' rfl (i' b1.ca (i' (ra ek) ⟨A,qE V _,i,k,c,_,_,rfl,⟨b1,ek,ec⟩,(lim.cs c hc).2.1,(lim.cs c hc).2.2,.leaves x,chg i k c _ _ ek ec rfl rfl⟩)))⟩
 | over i w0=>obtain⟨k,c,ek,ec,hc⟩:=Zb i ev;exact⟨oW rfl,rfl,rfl,oZ b1.at_ (i' rfl (i' b1.ca (i' (ra ek) ⟨A,qE V _,i,k,c,_,_,rfl,⟨b1,ek,ec⟩,(lim.cs c hc).2.1,(lim.cs c hc).2.2,.over w0,chg i k c _ _ ek ec rfl rfl⟩)))⟩
noncomputable def Lc:QQQ:=["barred","ring","engaged","left","refused","done","merged"]
def Q5(o:Bool)(c:pk):Prop:=(c.st="rings"/\c.ms=[]/\c.hd=none/\c.wd=none/\(o=true->c.at_=[])/\(o=false->c.at_≠[]))\/(o=false/\((c.st="waits"/\c.ms=[]/\c.hd=none/\c.wd=none/\c.at_.length=1)\/(c.st="talks"/\(c.ms.length=2\/c.ms.length=3)/\c.hd=none/\c.wd=none/\c.at_=[])\/
 (∃x,c.st="held"/\c.ms.length=2/\c.hd=some x/\x∈c.ms/\c.wd=none/\c.at_=[])\/(c.st="over"/\c.ms=[]/\c.hd=none/\c.at_=[]/\∃w∈Lc,c.wd=some w)))
structure vR(l:pC)(o:Bool)(c:pk):Prop where
 sh:Q5 o c
 cr:c.cr∈l.pn
 at_:∀x∈c.at_,x∈l.pn
 ms:∀x∈c.ms,x∈l.pn
 an:c.at_.Nodup
 mn:c.ms.Nodup
 ca:c.cr∉c.at_
 wy:c.way≠[]/\∀z∈c.way,z∈l.nm
def Bo(c:pk)(x:Str):Prop:=c.mX x=true\/c.mQ x=true
structure zc(l:pC)(V:qd)(o:Option Nat):Prop where
 ok:∀(i:Nat) c,V.calls[i]?=some c->vR l (o==some i) c
 un:∀(i j:Nat) ci cj x,V.calls[i]?=some ci->V.calls[j]?=some cj->Bo ci x->Bo cj x->i=j
 ln:∀x∈l.pn,(uS V x:Int)<=wA l x
 wt:∀(i j:Nat) ci cj x,V.calls[i]?=some ci->V.calls[j]?=some cj->ci.mJ x=true->cj.mJ x=true->i=j
 nx:um l V
abbrev WF(l:pC)(V:qd):Prop:=zc l V none
structure Sz(V:qd)(c n:Nat):Prop where
 lo:V.log.length<=n
 le:V.mR.length<=n
 ca:V.calls.length<=c
 ps:V.ps.length<=n
 cs:∀k∈V.calls,k.way.length<=n/\k.at_.length<=100/\k.ms.length<=100
def Sz.mono{V:qd}{c n c' n':Nat}(h:Sz V c n)(hc:c<=c')(hn:n<=n'):Sz V c' n':=⟨dW h.lo hn,dW h.le hn,dW h.ca hc,dW h.ps hn,λk hk=>⟨dW (h.cs k hk).1 hn,(h.cs k hk).2⟩⟩
noncomputable def Ev.nw:Ev->Nat
 | .new _ _=>1
 | _=>0
def Mj(ps:T0 (Str×Int))(z:Str)(n:Int):(BL ps z n).length<=ps.length+1:=by
 unfold BL;split
 .rw[cS];omega
 .rw[cW];exact dg _
def JJ(ss:QQQ)(x:Str):(rC ss x).length<=ss.length:=gB _ _
def EE{α:Type}{f:α->α}{l:List α}{i:Nat}{x:α}(h:x∈l.modify i f):x∈l\/∃y∈l,x=f y:=by
 cases e:l[i]? with
 | none=>rw[kE (by simpa using e)]at h;exact .inl h
 | some c=>
  rw[tH e]at h;rcases List.mem_or_eq_of_mem_set h with g|g
  .exact .inl g
  .exact .inr ⟨c,fm e,g⟩
def Sz.step{V:qd}{c n:Nat}{e:Ev}(h:Sz V c n)(ok:e.ok V):Sz (pV V e) (c+e.nw) (n+1):=by
 have h1:Sz (qE V e) c (n+1):=⟨by show(V.log++[e]).length<=n+1;rw[cW];exact h9 h.lo,jq h.le,h.ca,jq h.ps,λk hk=>⟨jq (h.cs k hk).1,(h.cs k hk).2⟩⟩;have md:∀(i:Nat) (f:pk->pk),(∀k∈V.calls,(f k).way=k.way/\(f k).at_.length<=100/\(f k).ms.length<=100)->Sz (xg (qE V e) i f) c (n+1):=λi f hf=>⟨h1.lo,h1.le,by show(V.calls.modify i f).length<=c;rw[eW];exact h.ca,h1.ps,λk hk=>by
  rcases EE hk with g|⟨y,hy,rfl⟩
  .exact h1.cs k g
  .obtain⟨a1,a2,a3⟩:=hf y hy;exact⟨by rw[a1];exact(h1.cs y hy).1,a2,a3⟩⟩
 cases e with
 | new m x=>
  refine⟨h1.lo,h1.le,by show(V.calls++[yO x]).length<=c+1;rw[cW];exact h9 h.ca,h1.ps,λk hk=>?_⟩;rcases dU.mp hk with g|g
  .exact h1.cs k g
  .rw[dv.mp g];exact⟨eD _,eD _,eD _⟩
 | leg v=>
  refine⟨h1.lo,by show(V.mR++[v]).length<=n+1;rw[cW];exact h9 h.le,by show(V.calls.modify v.i _).length<=c;rw[eW];exact h.ca,h1.ps,λk hk=>?_⟩;rcases EE (l:=V.calls) hk with g|⟨y,hy,rfl⟩
  .exact h1.cs k g
  .exact⟨by show(y.way++[v.g]).length<=n+1;rw[cW];exact h9 (h.cs y hy).1,(h.cs y hy).2⟩
 | asks i z ns=>exact h1
 | next z m=>exact⟨h1.lo,h1.le,h1.ca,dW (Mj _ _ _) (h9 h.ps),h1.cs⟩
 | merge i j ms=>
  have m1:=md i (·.over "merged") λk hk=>⟨rfl,eD _,eD _⟩;refine⟨h1.lo,by show(V.mR.map _).length<=n+1;rw[cS];exact h1.le,by show((V.calls.modify i _).modify j _).length<=c;rw[eW,eW];exact h.ca,h1.ps,λk hk=>?_⟩;rcases EE (l:=V.calls.modify i (·.over "merged")) hk with g|⟨y,hy,rfl⟩
  .exact m1.cs k g
  .exact⟨(m1.cs y hy).1,(m1.cs y hy).2.1,ok.2.2.2⟩
 | turn=>
  refine⟨h1.lo,h1.le,by show(V.calls.map pk.tick).length<=c;rw[cS];exact h.ca,h1.ps,λk hk=>?_⟩;obtain⟨y,hy,rfl⟩:=dB.mp hk;have e:y.tick.way=y.way/\y.tick.at_=y.at_/\y.tick.ms=y.ms:=by unfold pk.tick;split<;>exact⟨rfl,rfl,rfl⟩
  rw[e.1,e.2.1,e.2.2];exact h1.cs y hy
 | sw b i=>exact⟨h1.lo,h1.le,h1.ca,h1.ps,h1.cs⟩
 | rings i ps=>exact md i _ λk hk=>⟨rfl,ok.2,(h.cs k hk).2.2⟩
 | quiet i=>exact md i _ λk hk=>⟨rfl,eD _,(h.cs k hk).2.2⟩
 | waits i x=>exact md i _ λk hk=>⟨rfl,by show 1<=100;decide,(h.cs k hk).2.2⟩
 | talks i ms=>exact md i _ λk hk=>⟨rfl,eD _,ok.2⟩
 | held i x=>exact md i _ λk hk=>⟨rfl,(h.cs k hk).2.1,(h.cs k hk).2.2⟩
 | leaves i x=>exact md i _ λk hk=>⟨rfl,dW (JJ _ _) (h.cs k hk).2.1,dW (JJ _ _) (h.cs k hk).2.2⟩
 | over i w=>exact md i _ λk hk=>⟨rfl,eD _,eD _⟩
def Oy(V:qd)(e:Ev):(pV V e).fo=V.fo:=by cases e<;>rfl
def Rn(V:qd)(e:Ev):(pV V e).p=V.p/\(pV V e).h=V.h/\(pV V e).on.length=V.on.length:=by cases e<;>first|exact⟨rfl,rfl,rfl⟩|exact⟨rfl,rfl,ii⟩
structure tN(a:Ad)(M0 M:Mp)(b:Addr)(A:sP)(V:qd)(l:pC)(c n:Nat):Prop where
 bd:pG a M A V
 oB:se a M0 V.p l
 s0:qp M0 M
 fr:∀x∈A.foot,M0 x=none
 b:A.b=b
 sz:Sz V c n
 ok:qV l
 on:V.on.length=l.mD.length
variable {M0:Mp}{b:Addr}{A':sP}{V':qd}{l:pC}{n:Nat}
section
variable {c:Nat}
def tN.at_(h:tN a M0 M b A V l c n):M b=some (.ins a.c (tR (.ref V.p) V.h V.t A.ca A.le A.nx A.on A.lo)):=h.b ▸ h.bd.at_
def tN.sub(h:tN a M0 M b A V l c n)(s:qp M M'):tN a M0 M' b A V l c n:=⟨h.bd.sub s,h.oB,h.s0.trans s,h.fr,h.b,h.sz,h.ok,h.on⟩
def tN.pl(h:tN a M0 M b A V l c n):se a M V.p l:=h.oB.sub h.s0
def tN.mono(h:tN a M0 M b A V l c n){c' n':Nat}(hc:c<=c')(hn:n<=n'):tN a M0 M b A V l c' n':=⟨h.bd,h.oB,h.s0,h.fr,h.b,h.sz.mono hc hn,h.ok,h.on⟩
def tN.lim(h:tN a M0 M b A V l c n)(hc:c<=1000000)(hn:n<9000000):Ww V:=⟨iy h.sz.lo (by omega),iy h.sz.le (by omega),dW h.sz.ca hc,iy h.sz.ps (by omega),λk hk=>⟨iy (h.sz.cs k hk).1 (by omega),(h.sz.cs k hk).2⟩⟩
def tN.rd(h:tN a M0 M b A V l c n)(hc:c<=1000000){o:Option Nat}(wf:zc l V o):Rd a M A V l:=⟨h.bd,dW h.sz.ca hc,h.pl,h.ok,h.on,λk hk=>by
 obtain⟨i,hi,e⟩:=gL hk;exact⟨(wf.ok i k (by rw[cV hi,e])).ms,(h.sz.cs k hk).2.2⟩⟩
def tN.call(h:tN a M0 M b A V l c n){i:Nat}{v:pk}(e:V.calls[i]?=some v):∃k,CI a M A V i k v:=by
 have hi:i<A.cs.length:=by rw[h.bd.len];exact(cU.mp e).1
 exact⟨A.cs[i],h.bd,cV hi,e⟩
def tN.after(h:tN a M0 M b A V l c n){e:Ev}(ok:e.ok V)(eb:A'.b=A.b)(st:qJ A M A' M')(bd:pG a M' A' (pV V e)):tN a M0 M' b A' (pV V e) l (c+e.nw) (n+1):=by
 obtain⟨p1,p2,p3⟩:=Rn V e;refine⟨bd,p1 ▸ h.oB,λx d hx=>st.1 x d (λz=>?_) (h.s0 x d hx),λx hx=>?_,eb.trans h.b,h.sz.step ok,h.ok,p3.trans h.on⟩
 .rw[h.fr x z]at hx;cases hx
 .rcases st.2.1 x hx with z|z
  .exact h.fr x z
  .exact h.s0.none z
end
def GY(l:pC)(V:qd)(c:Str):vo->Prop
 | .rings z ps=>z∈l.nm/\ps≠[]/\ps=xq l V c z
 | .breaks z=>∃x,x=c/\Hj l V x c z=true
 | .waits z=>z∈l.pn/\z≠c/\Ax V z=false
 | .ring ns=>ns≠[]
 | _=>True
def GP{V:qd}{c z:Str}:(∀x∈xq l V c z,x∈uh l V c z/\x∈l.mC z)/\(xq l V c z).length<=(l.mC z).length:=by
 have hr:∀x∈uh l V c z,x∈l.mC z:=λx hx=>(fG.mp hx).1;unfold xq;split
 .refine⟨λx hx=>?_,?_⟩
  .have hx:=(fG.mp (iU hx)).2;have hx:=qN.mp hx;exact⟨hx,hr x hx⟩
  .cases e:(uR (l.mC z) (zC V z)).filter λx=>hasS (uh l V c z) x with
   | nil=>exact eD _
   | cons y r=>
    have hy:y∈uR (l.mC z) (zC V z):=(fG.mp (by rw[e];exact dG)).1;have hy:y∈l.mC z:=by
     unfold uR at hy;rcases dU.mp hy with q|q
     .exact iV q
     .exact iU q
    rw[fQ];have:=List.length_pos_of_mem hy;omega
 .exact⟨λx hx=>⟨hx,hr x hx⟩,gB _ _⟩
def PX{l:pC}{V:qd}{c z:Str}(hz:z∈l.nm):GY l V c (Hv l V c z):=by
 unfold Hv;split
 .trivial
 .rename_i x r e;exact⟨hz,fB _ _,e.symm⟩
structure wN(l:pC)(V:qd)(c:Str)(n:Nat)(st:sR)(r:vo×sR):Prop where
 e:GY l V c r.1
 len:r.2.length<=st.length+n
 nm:∀s∈r.2,s∈st\/s.1∈l.nm
 wy:∀ns,r.1=.ring ns->∀z∈ns,z∈l.nm
theorem xh{V:qd}{c:Str}(ok:qV l):∀(n:Nat) (z:Str) (way:QQQ) (st:sR),z∈l.nm->(∀x∈way,x∈l.nm)->wN l V c n st (uH l V c n z way st)
 | 0,z,way,st,_,_=>⟨trivial,dg _,λs hs=>.inl hs,λns h=>by cases h⟩
 | n+1,z,way,st,hz,hw=>by
  unfold uH;by_cases h:hasS way z=true
  .rw[cZ h];refine⟨?_,by show st.length<=_;omega,λs hs=>.inl hs,λns e y hy=>?_⟩
   .have h1:way.findIdx (·==z)<way.length:=List.findIdx_lt_length_of_exists ⟨z,qN.mp h,fA z⟩;show way.drop _≠[];intro g;have:=eO List.length g;rw[gu]at this;simp only[dM]at this;omega
   .cases e;exact hw y (iV hy)
  rw[cX h];have sn:∀(fs:T0 Nat),∀s∈st++[(z,fs)],s∈st\/s.1∈l.nm:=λfs s hs=>by
   rcases dU.mp hs with g|g
   .exact .inl g
   .rw[dv.mp g];exact .inr hz
  have sl:∀fs:T0 Nat,(st++[(z,fs)]).length=st.length+1:=λfs=>by rw[cW];rfl
  cases hf:zB l V c z with
  | nil=>refine⟨PX hz,by show(st++[(z,[])]).length<=_;rw[sl];omega,sn [],λns e=>?_⟩;have e:Hv l V c z=.ring ns:=e;unfold Hv at e;split at e<;>cases e
  | cons i r=>
   obtain⟨w,ew,XD⟩:=E5 (l:=l) (V:=V) (f:=zg l V c z) (i:=i) (by show i∈zB l V c z;rw[hf];exact dG);dsimp only;rw[ew];dsimp only[Option.elim];have stop:∀e:vo,GY l V c e->(∀ns,e≠.ring ns)->wN l V c (n+1) st (e,st++[(z,i::r)]):=λe he Xt=>⟨he,by show(st++[(z,i::r)]).length<=_;rw[sl];omega,sn _,λns g=>absurd g (Xt ns)⟩
   have Zp:∀y,Ja z w.2=.inr y->wN l V c (n+1) st (uH l V c n y (way++[z]) (st++[(z,i::r)])):=λy hy=>by
    have hr:=xh (V:=V) (c:=c) ok n y (way++[z]) (st++[(z,i::r)]) (BE ok (qG ew) hy) λx hx=>by
     rcases dU.mp hx with g|g
     .exact hw x g
     .rw[dv.mp g];exact hz
    refine⟨hr.e,by have:=hr.len;rw[sl]at this;omega,λs hs=>?_,hr.wy⟩;rcases hr.nm s hs with g|g
    .exact sn _ s g
    .exact .inr g
   cases hv:w.2 with
   | bar x ns=>exact stop _ trivial λns g=>by cases g
   | shut x ns=>exact stop _ trivial λns g=>by cases g
   | wait x=>
    rw[hv]at XD;have hf2:(if (!(z==x)||(c==x))=true then false else xE l V c z&&!(Ax V z))=true:=XD;have hx:xy l.pn x:=by have:=ok.wo w (qG ew);rw[hv]at this;exact this
    by_cases g:(!(z==x)||(c==x))=true
    .rw[cZ g]at hf2;cases hf2
    rw[cX g]at hf2;simp only[gP,gD,fK,jr,dQ]at g hf2;have ezx:=eq_of_beq g.1;subst ezx;exact stop _ ⟨qN.mp hx,λy=>g.2 (by rw[y];exact fA _),hf2.2⟩ λns g=>by cases g
   | breaks x=>
    rw[hv]at XD;refine stop _ ⟨x,?_,?_⟩ λns g=>by cases g
    .have XD:Hj l V x c z=true:=XD;unfold Hj at XD;by_cases g:(!(c==x)||(z==x))=true
     .rw[cZ g]at XD;cases XD
     .simp only[gP,gD,fK,jr]at g;exact(eq_of_beq g.1).symm
    .exact XD
   | always x y=>exact Zp y (by rw[hv];rfl)
   | night x y f m=>exact Zp y (by rw[hv];rfl)
   | busy x y=>exact Zp y (by rw[hv];rfl)
   | silent x y m=>exact Zp y (by rw[hv];rfl)
def GO{V:qd}{x c z:Str}(h:Hj l V x c z=true):∃j k,vw V z=some j/\V.calls[j]?=some k/\k.st="talks"/\z∈k.ms/\k.ms.length=2/\z≠c:=by
 unfold Hj at h;by_cases g:(!(c==x)||(z==x))=true
 .rw[cZ g]at h;cases h
 rw[cX g]at h;simp only[gP,gD,fK,jr]at g;by_cases g2:(!(hasS l.pn z)||!(xE l V c z))=true
 .rw[cZ g2]at h;cases h
 rw[cX g2]at h;cases e:vw V z with
 | none=>rw[e]at h;cases h
 | some j=>obtain⟨hj,ht,_⟩:=iG.mp e;rw[e]at h;have h:((V.calls[j]?).elim false λk=>(k.ms.length==2)&&HE l x k.ms)=true:=h;rw[cV hj]at h;have h:((V.calls[j].ms.length==2)&&HE l x V.calls[j].ms)=true:=h;unfold pk.mP at ht;rw[dQ]at h ht;refine⟨j,V.calls[j],rfl,cV hj,eq_of_beq ht.1,qN.mp ht.2,eq_of_beq h.1,λy=>?_⟩;rw[y]at g;have:=eq_of_beq g.1;rw[this,fA]at g;exact absurd rfl g.2
noncomputable def pk.bare(c:pk):pk:={c with way:=[]}
def tO(V V':qd):Prop:=V'.calls.map pk.bare=V.calls.map pk.bare
def tO.at_{V V':qd}(h:tO V V'){i:Nat}{c:pk}(e:V.calls[i]?=some c):∃c',V'.calls[i]?=some c'/\c'.bare=c.bare:=by
 have:=eO (·[i]?) h;simp only[dz,e]at this;cases e':V'.calls[i]? with
 | none=>rw[e']at this;cases this
 | some c'=>rw[e']at this;exact⟨c',rfl,df this⟩
def zI(f:pk->Bool)(hf:∀c,f c.bare=f c)(cs:List pk):(cs.map pk.bare).findIdx? f=cs.findIdx? f:=by rw[gX];congr 1;funext c;exact hf c
def tO.nA{V V':qd}(h:tO V V')(z:Str):vw V' z=vw V z:=by unfold vw;rw[<-zI _ (λ_=>rfl) V'.calls,h,zI _ (λ_=>rfl)]
def tO.ends{V V':qd}(h:tO V V')(i:Nat)(e:vo):rR l V' i e=rR l V i e:=by
 cases e with
 | breaks z=>
  unfold rR;dsimp only;rw[h.nA];have key:∀j:Nat,(V'.calls[j]?).map pk.bare=(V.calls[j]?).map pk.bare:=λj=>by
   have:=eO (·[j]?) h
   simpa only [dz]using this
  have ki:=key i;cases vw V z with
  | none=>rfl
  | some j=>
   have kj:=key j;cases e1:V.calls[i]? with
   | none=>rw[e1]at ki;rw[show V'.calls[i]?=none by cases q:V'.calls[i]? with|none=>rfl|some _=>rw[q]at ki;cases ki]
   | some c=>
    rw[e1]at ki;cases e2:V'.calls[i]? with
    | none=>rw[e2]at ki;cases ki
    | some c'=>
     rw[e2]at ki;have k1:c'.cr=c.cr:=by have kb:c'.bare=c.bare:=df ki;exact show c'.bare.cr=c.bare.cr by rw[kb]
     have k2:(V'.calls[j]?).elim [] pk.ms=(V.calls[j]?).elim [] pk.ms:=by
      cases e3:V.calls[j]? with
      | none=>rw[e3]at kj;rw[show V'.calls[j]?=none by cases q:V'.calls[j]? with|none=>rfl|some _=>rw[q]at kj;cases kj]
      | some d=>
       rw[e3]at kj;cases e4:V'.calls[j]? with
       | none=>rw[e4]at kj;cases kj
       | some d'=>rw[e4]at kj;exact show d'.bare.ms=d.bare.ms by rw[show d'.bare=d.bare from df kj]
     dsimp only;rw[k1,k2]
 | _=>rfl
def tO.trans{V V1 V2:qd}(h:tO V V1)(g:tO V1 V2):tO V V2:=Eq.trans g h
def zk(V:qd)(v:rP):tO V (pV V (.leg v)):=by
 show(V.calls.modify v.i (·.go v.g)).map pk.bare=V.calls.map pk.bare;cases e:V.calls[v.i]? with
 | none=>rw[kE (by simpa using e)]
 | some c=>rw[tH e,mq,show(c.go v.g).bare=c.bare from rfl,F2 (by rw[dz,e];rfl)]
def DC(V:qd)(i:Nat)(z:Str)(ns:T0 Nat):tO V (pV V (.asks i z ns)):=rfl
def tO.len{V V':qd}(h:tO V V'):V'.calls.length=V.calls.length:=by
 have:=eO List.length h
 rwa [cS,cS]at this
noncomputable def GL:Option Str->sR->Option Str
 | o,[]=>o
 | _,(z,_)::r=>GL (some z) r
noncomputable def UG(i:Nat)(z:Str)(fs:T0 Nat):Option Str->T0 Ev
 | none=>[.asks i z fs]
 | some y=>[.leg ⟨i,y,z,y⟩,.asks i z fs]
theorem yz(i:Nat)(z:Str)(fs:T0 Nat):∀(st:sR) (o:Option Str),rf i o (st++[(z,fs)])=rf i o st++UG i z fs (GL o st)
 | [],none=>rfl
 | [],some _=>rfl
 | (y,gs)::r,none=>by show .asks i y gs::rf i (some y) (r++[(z,fs)])=_;rw[yz i z fs r];rfl
 | (y,gs)::r,some u=>by show .leg ⟨i,u,y,u⟩::.asks i y gs::rf i (some y) (r++[(z,fs)])=_;rw[yz i z fs r];rfl
theorem BW(z:Str)(fs:T0 Nat):∀(st:sR) (o:Option Str),GL o (st++[(z,fs)])=some z
 | [],_=>rfl
 | _::r,_=>BW z fs r _
theorem uy(i:Nat):∀(st:sR) (o:Option Str) (V:qd),tO V (qu V (rf i o st))
 | [],_,V=>rfl
 | (y,gs)::r,none,V=>(DC V i y gs).trans (uy i r (some y) _)
 | (y,gs)::r,some u,V=>((zk V ⟨i,u,y,u⟩).trans (DC _ i y gs)).trans (uy i r (some y) _)
def Qf(a:Ad):qY:=λds M Q=>Nc λM0 b A V l c n i st r=>ds=[.ref b,.int ((i:Nat):Int),.ref r]/\tN a M0 M b A V l c n/\c<=1000000/\n<=8000000/\st.length<=100/\i<V.calls.length/\oR M r=some (rb st)/\r∉A.foot/\∀M' A',tN a M0 M' b A' (qu V (rf i none st)) l c (n+2*st.length)->qJ A M A' M'->Q .mG M'
def MO(a:Ad):qY:=λds M Q=>Nc λM0 b A V l c n i z ps=>ds=[.ref b,.int ((i:Nat):Int),.str z,names ps]/\tN a M0 M b A V l c n/\c<=1000000/\n<=8000000/\i<V.calls.length/\z∈l.nm/\ps≠[]/\(∀x∈ps,x∈l.mC z)/\ps.length<=100/\∀M' A',tN a M0 M' b A' (qu V (rR l V i (.rings z ps))) l c (n+2)->qJ A M A' M'->Q .mG M'
def DT(l:pC)(V:qd)(i:Nat):vo->Prop
 | .rings z ps=>z∈l.nm/\ps≠[]/\(∀x∈ps,x∈l.mC z)/\ps.length<=100
 | .breaks z=>∃j k,vw V z=some j/\V.calls[j]?=some k/\i≠j/\k.ms.length=2
 | _=>True
def Lj(a:Ad):qY:=λds M Q=>Uc λM0 b A V l c n i z=>ds=[.ref b,.int ((i:Nat):Int),.str z]/\tN a M0 M b A V l c n/\c<=1000000/\n<=8000000/\i<V.calls.length/\DT l V i (.breaks z)/\∀M' A',tN a M0 M' b A' (qu V (rR l V i (.breaks z))) l c (n+2)->qJ A M A' M'->Q .mG M'
def JF(a:Ad):qY:=λds M Q=>Uc λM0 b A V l c n i e=>ds=[.ref b,.int ((i:Nat):Int),vo.d e]/\tN a M0 M b A V l c n/\c<=1000000/\n<=8000000/\i<V.calls.length/\DT l V i e/\∀M' A',tN a M0 M' b A' (qu V (rR l V i e)) l c (n+2)->qJ A M A' M'->Q .mG M'
def OW(a:Ad):qY:=λds M Q=>Uc λM0 b A V l c n i k=>ds=[.ref b,.int ((i:Nat):Int)]/\tN a M0 M b A V l c n/\c<=1000000/\n<=7000000/\zc l V (some i)/\V.calls[i]?=some k/\∀M' A',tN a M0 M' b A' (qu V (uF l V i)) l c (n+30)->qJ A M A' M'->Q .mG M'
def NR(a:Ad):qY:=λds M Q=>Uc λM0 b A V l c n y z=>ds=[.ref b,.str y,.str z]/\tN a M0 M b A V l c n/\c<1000000/\n<=6000000/\zc l (qu V [.new V.calls.length y,.leg ⟨V.calls.length,y,z,y⟩]) (some V.calls.length)/\∀M' A',tN a M0 M' b A' (qu V (xR l V y z)) l (c+1) (n+32)->qJ A M A' M'->Q .mG M'
def MU{st:sR}{pre post:T0 D}{d:D}(e:pre++d::post=rb st):∃z fs,st[pre.length]?=some (z,fs)/\d=.tup [.str z,vZ fs]/\st.take (pre.length+1)=st.take pre.length++[(z,fs)]:=by
 have h:(rb st)[pre.length]?=some d:=by rw[<-e];simp
 unfold rb at h;rw[dz]at h;cases q:st[pre.length]? with
 | none=>rw[q]at h;cases h
 | some s=>rw[q]at h;refine⟨s.1,s.2,rfl,(df h).symm,?_⟩;rw[gU,q];rfl
noncomputable def Vu:Option Str->D
 | none=>.mG
 | some x=>.str x
def Oj{ss:QQQ}{x:Str}(h:ss.getLast?=some x):wj (ss.map D.str) (-1)=some (.str x):=by
 have hp:0<ss.length:=by cases ss with|nil=>cases h|cons _ _=>exact mv _
 unfold wj;have e:G7 (ss.map D.str).length (-1)=some (ss.length - 1):=by
  rw[cS];unfold G7;have:¬((-1:Int)>=0):=by decide
  simp;omega
 rw[e];show(ss.map D.str)[ss.length - 1]?=_;rw[dz,<-jw,h];rfl
def LV(ds:T0 D):L3.tL ds none (some (-1:Int))=ds.dropLast:=by
 unfold L3.tL;have e:HT.sZ ds.length ds.length (some (-1:Int))=ds.length - 1:=by show(if (-1:Int)<0 then((-1:Int)+(ds.length:Int)).toNat else min (-1:Int).toNat ds.length)=ds.length - 1;rw[cZ (by decide)];omega
 rw[e,HT.BC,j7,kQ,List.dropLast_eq_take]
def PY:Fq P w K mg base 4 a.a5 (Qf a):=by
 refine fq G.a5.toDG tV (λr u=>⟨_,(oY (pH 3 tV rD)
 (o9 (uM fu rfl (qF U2) (vI (n:=2) rfl (qK (sH 4 tV) (qK (sH 5 tV) uD)))
 (oY (pN (pD u U3 rD)
 (o9 (pJ (pR v0 G.c.toCls G.k (qO G) r (qb (pK (pW pj (pW U1 (qX U3 v4 U3))))))))
 pF)
 (oY (pJ (pR v0 G.c.toCls G.k (qO G) r (qb (pK (pW pj (qX U1 v4 v5))))))
 (o9 (pH 3 tV v4))))))),?_⟩)
 rintro ds M Q ⟨M0,b,A,V,l,c,n,i,st,r,rfl,cu,hc,hn,Xu,hi,lr,nf,q⟩
 refine i' lr (wG (rb st) (λpre U M'=>(∃A',tN a M0 M' b A' (qu V (rf i none (st.take pre.length))) l c (n+2*pre.length)/\qJ A M A' M')/\∃y4 y5,U=[some (.ref b),some (.int ((i:Nat):Int)),some (.ref r),some (Vu (GL none (st.take pre.length))),y4,y5]) (λpre U M' j=>?_) _ [] _ _ rfl ⟨⟨A,cu,.refl⟩,none,none,rfl⟩ ?_ ?_)
 .obtain⟨⟨A',c1,Xz⟩,_⟩:=j;exact rM (Xz.1 r _ nf (pU lr))
 .rintro pre d post e U M' ⟨⟨A',c1,Xz⟩,y4,y5,rfl⟩ nx Xj
  obtain⟨z,fs,es,rfl,et⟩:=MU e;have hp:pre.length<100:=dJ (cU.mp es).1 Xu;rw[cW,dN,et,yz,BW]at Xj;have len:∀es,tO V (qu V es)->i<(qu V es).calls.length:=λes h=>by rw[h.len];exact hi
  have XW:=len _ (uy i (st.take pre.length) none V);generalize hV:qu V (rf i none (st.take pre.length))=V1 at c1 XW;rw[rc,hV]at Xj;refine⟨rfl,?_⟩;dsimp only[uw,Eg,Mu];have asks:∀(M2:Mp) (A2:sP) (V2:qd) (m:Nat) (y3:Option D),m<9000000->tN a M0 M2 b A2 V2 l c m->qJ A M A2 M2->(∀M3 A3,tN a M0 M3 b A3 (pV V2 (.asks i z fs)) l c (m+1)->qJ A M A3 M3->nx [some (.ref b),some (.int ((i:Nat):Int)),some (.ref r),some (.str z),some (.str z),some (vZ fs)] M3)->Ah (M2 b) λC fs'=>fs'.lookup ("apply":Str)=none/\∃sp,(C=a.c/\sp=vO a)/\4<=sizeLine/\sp [.ref b,.tup [.str "asks",.int ((i:Nat):Int),.str z,vZ fs]] M2 λ_ M3=>nx [some (.ref b),some (.int ((i:Nat):Int)),some (.ref r),some (.str z),some (.str z),some (vZ fs)] M3:=λM2 A2 V2 m y3 hm c2 s2 k=>oZ c2.at_ ⟨rfl,_,⟨rfl,rfl⟩,by rw[dH];decide,b,A2,V2,.asks i z fs,rfl,c2.b,c2.bd,c2.lim hc hm,trivial,λM3 A3 eb s3 bd=>k M3 A3 (c2.after trivial eb s3 bd) (s2.trans s3)⟩;cases hl:GL none (st.take pre.length)with
  | none=>rw[hl]at Xj;refine asks M' A' V1 _ none (by omega) c1 Xz λM3 A3 c3 s3=>Xj _ _ ⟨⟨A3,c3.mono (dg _) (by omega),s3⟩,_,_,rfl⟩
  | some y=>rw[hl]at Xj;refine oZ c1.at_ ⟨rfl,_,⟨rfl,rfl⟩,oW rfl,b,A',V1,.leg ⟨i,y,z,y⟩,rfl,c1.b,c1.bd,c1.lim hc (by omega),XW,λM2 A2 eb s2 bd=>?_⟩;have c2:=c1.after (e:=.leg ⟨i,y,z,y⟩) XW eb s2 bd;refine asks M2 A2 _ _ none (by omega) c2 (Xz.trans s2) λM3 A3 c3 s3=>Xj _ _ ⟨⟨A3,c3.mono (dg _) (by omega),s3⟩,_,_,rfl⟩
 .rintro U M' ⟨⟨A',c1,Xz⟩,_⟩
  have hl:(rb st).length=st.length:=by unfold rb;rw[cS]
  rw[hl,fE]at c1;exact⟨M',.refl,q M' A' c1 Xz⟩
def KZ:Fq P w K mg base 4 a.a6 (MO a):=by
 refine fq G.a6.toDG uA (λr u=>⟨_,(oY (pN (pD u (pR (pq v0) G.h.toCls G.aM (xl G) r (qb U2)) pj)
 (oY (pH 4 uA (pR (pq v0) G.h.toCls G.X (uj G) r (qb U2)))
 (oY (pH 5 uA (pS (pS (xt v4 (qb (pI U3 pb))) pb) (pO qv rfl G.g ql (qb v4))))
 (o9 (pJ (pR v0 G.c.toCls G.k (qO G) r (qb (pK (qX pj U2 v5))))))))
 pF)
 (o9 (pJ (pR v0 G.c.toCls G.k (qO G) r (qb (pK (qX pj U1 U3))))))),?_⟩)
 rintro ds M Q ⟨M0,b,A,V,l,c,n,i,z,ps,rfl,cu,hc,hn,hi,hz,Xt,hm,hps,q⟩
 obtain⟨ph,gr,ws,Yz,pr,gd,rs,i1,_⟩:=cu.pl;have pl:=cu.pl;obtain⟨x,ps',rfl⟩:=gb Xt;obtain⟨⟨pne,_⟩,_⟩:=cu.ok.of hz;refine Pf (t:=P9 _ _ _) (λU M'=>(∃A',tN a M0 M' b A' (qu V (if (l.mK z=="turns")=true then[.next z (QR (l.mC z) x)]else[])) l c (n+1)/\qJ A M A' M')/\∃y1 y2,U=[some (.ref b),some (.int ((i:Nat):Int)),some (.str z),some (names (x::ps')),y1,y2]) (λnx h=>?_) ?_
 .refine oZ cu.at_ (i' rfl (oZ i1 ⟨rfl,_,⟨rfl,rfl⟩,V.p,z,l,rfl,pl,?_⟩));refine qA (c:=l.mK z=="turns") (λg=>?_) (λg=>?_)
  .rw[cZ g]at h;refine oZ cu.at_ (i' rfl (oZ i1 ⟨rfl,_,⟨rfl,rfl⟩,V.p,z,l,rfl,pl,λp hp=>?_⟩));have t:=qp.new (c:=.lst ((l.mC z).map D.str)) hp;have lp:=@pA M p ((l.mC z).map D.str);have ZJ:=cu.sub t;have st0:qJ A M A (pB M p (.lst ((l.mC z).map D.str))):=.sub t;generalize pB M p (.lst ((l.mC z).map D.str))=M1 at t lp ZJ st0 ⊢;have ej:=E8 x (l.mC z) (hm x dG);have lpos:0<(l.mC z).length:=fC.mpr pne;have el:(((l.mC z).map D.str).length:Int)=(l.mC z).length:=by rw[cS]
   refine⟨by show(oR M1 p).isSome=true;rw[lp];rfl,i' (zj _ _) (i' lp ⟨rfl,qo _,i' ej (i' lp ⟨by rw[el];omega,?_⟩)⟩)⟩;rw[el];refine oZ ZJ.at_ ⟨rfl,_,⟨rfl,rfl⟩,oW rfl,b,A,V,.next z (QR (l.mC z) x),rfl,ZJ.b,ZJ.bd,ZJ.lim hc (by omega),trivial,λM2 A2 eb st Ys=>?_⟩;exact h _ _ ⟨⟨A2,ZJ.after (e:=.next z (QR (l.mC z) x)) trivial eb st Ys,st0.trans st⟩,_,_,rfl⟩
  .rw[cX g]at h;exact h _ _ ⟨⟨A,cu.mono (dg _) (by omega),.refl⟩,_,_,rfl⟩
 rintro U M1 ⟨⟨A1,c1,Xz⟩,y1,y2,rfl⟩
 have q:∀M' A',tN a M0 M' b A' (qu V ((if (l.mK z=="turns")=true then[.next z (QR (l.mC z) x)]else[])++[.rings i (x::ps')])) l c (n+2)->qJ A M A' M'->Q .mG M':=q;rw[rc]at q;have XW:i<(qu V (if (l.mK z=="turns")=true then[.next z (QR (l.mC z) x)]else[])).calls.length:=by
  split
  .exact hi
  .exact hi
 generalize qu V (if (l.mK z=="turns")=true then[.next z (QR (l.mC z) x)]else[])=V1 at c1 q XW;refine oZ c1.at_ ⟨rfl,_,⟨rfl,rfl⟩,oW rfl,b,A1,V1,.rings i (x::ps'),rfl,c1.b,c1.bd,c1.lim hc (by omega),⟨XW,hps⟩,λM2 A2 eb Xo Ys=>?_⟩;exact⟨M2,.refl,q M2 A2 (c1.after (e:=.rings i (x::ps')) ⟨XW,hps⟩ eb Xo Ys) (Xz.trans Xo)⟩
def Lw:Fq P w K mg base 4 a.a7 (Lj a):=by
 refine fq G.a7.toDG xp (λr u=>⟨_,(oY (pH 3 xp (pR v0 G.c.toCls G.S (yK G) r (qb U2)))
 (oY (pH 4 xp (pS (pT rZ rfl G.z rX (qb (pq (pI (pq v0) U3)))) (pK (qb (pq (pI (pq v0) U1))))))
 (o9 (pJ (pR v0 G.c.toCls G.k (qO G) r (qb (pK (pW pj (qX U1 U3 v4))))))))),?_⟩)
 rintro ds M Q ⟨M0,b,A,V,l,c,n,i,z,rfl,cu,hc,hn,hi,⟨j,k,ej,ek,X5,Za⟩,q⟩
 have hz:=dH;have ei:V.calls[i]?=some V.calls[i]:=cV hi;generalize V.calls[i]=ci at ei;obtain⟨ka,qi⟩:=cu.call ei;obtain⟨kb,qj⟩:=cu.call ek;obtain⟨ad,md,h1,h2,h3,h4,_⟩:=qi.cell;obtain⟨ad',md',g1,g2,g3,g4,_⟩:=qj.cell;have hee:rR l V i (.breaks z)=[.merge i j (k.ms++[ci.cr])]:=by unfold rR;dsimp only;rw[ej,ei];dsimp only;rw[ek];rfl
 rw[hee]at q;have ok:(Ev.merge i j (k.ms++[ci.cr])).ok V:=⟨hi,(cU.mp ek).1,X5,by rw[cW,Za];show 3<=100;decide⟩;refine oZ cu.at_ ⟨rfl,_,⟨rfl,rfl⟩,A,V,z,by rw[cu.b],cu.bd,dW cu.sz.ca hc,?_⟩;rw[show Aq V z=.int (j:Nat)from by unfold Aq;rw[ej];rfl];refine oZ cu.at_ (i' rfl (i' rfl (i' cu.bd.ca (i' (ra qj.e1) (oZ g1 (i' rfl (i' g4 ?_)))))));refine oZ cu.at_ (i' rfl (i' rfl (i' cu.bd.ca (i' (ra qi.e1) (oZ h1 (i' rfl ⟨oW rfl,?_⟩))))));refine⟨(by intro y;rw[List.map_eq_nil_iff]at y;rw[y]at Za;cases Za),(by rw[cS,Za];show 2+1<=sizeLine;omega),?_⟩;rw[show k.ms.map D.str++[D.str ci.cr]=(k.ms++[ci.cr]).map D.str by rw[dP];rfl];refine oZ cu.at_ ⟨rfl,_,⟨rfl,rfl⟩,oW rfl,b,A,V,.merge i j (k.ms++[ci.cr]),rfl,cu.b,cu.bd,cu.lim hc (by omega),ok,λM2 A2 eb Xo Ys=>?_⟩;exact⟨M2,.refl,q M2 A2 ((cu.after ok eb Xo Ys).mono (dg _) (by omega)) Xo⟩
def PD:Fq P w K mg base 5 a.a8 (JF a):=by
 refine fq G.a8.toDG xm (λr u=>⟨_,(oY (pH 3 xm (pI U2 pb))
 (o9 (pN (pD u U3 pj)
 (o9 (pJ (pE (KZ G) r G.a6 (pW v0 (qX U1 (pI U2 pb) (pI U2 pb))))))
 (o9 (pN (pD u U3 pj)
 (o9 (pJ (pR v0 G.c.toCls G.k (qO G) r (qb (pK (qX pj U1 (pI U2 pb)))))))
 (o9 (pN (pD u U3 pj)
 (o9 (pJ (pE (Lw G) r G.a7 (qX v0 U1 (pI U2 pb)))))
 (o9 (pJ (pR v0 G.c.toCls G.k (qO G) r (qb (pK (qX pj U1 U3))))))))))))),?_⟩)
 rintro ds M Q ⟨M0,b,A,V,l,c,n,i,e,rfl,cu,hc,hn,hi,he,q⟩
 have one:∀(ev:Ev) (ok:ev.ok V),ev.nw=0->rR l V i e=[ev]->∀M2 A2,A2.b=A.b->qJ A M A2 M2->pG a M2 A2 (pV V ev)->∃W9,qp W9 M2/\Q .mG W9:=λev ok h0 h1 M2 A2 eb Xo Ys=>by rw[h1]at q;have c2:=cu.after ok eb Xo Ys;rw[h0]at c2;exact⟨M2,.refl,q M2 A2 (c2.mono (dg _) (by omega)) Xo⟩
 cases e with
 | rings z ps=>exact⟨M0,b,A,V,l,c,n,i,z,ps,rfl,cu,hc,hn,hi,he.1,he.2.1,he.2.2.1,he.2.2.2,λM' A' c1 st=>⟨M',.refl,q M' A' c1 st⟩⟩
 | waits z=>exact oZ cu.at_ ⟨rfl,_,⟨rfl,rfl⟩,oW rfl,b,A,V,.waits i z,rfl,cu.b,cu.bd,cu.lim hc (by omega),hi,one (.waits i z) hi rfl rfl⟩
 | breaks z=>exact⟨M0,b,A,V,l,c,n,i,z,rfl,cu,hc,hn,hi,he,λM' A' c1 st=>⟨M',.refl,q M' A' c1 st⟩⟩
 | engaged z=>exact oZ cu.at_ ⟨rfl,_,⟨rfl,rfl⟩,oW rfl,b,A,V,.over i "engaged",rfl,cu.b,cu.bd,cu.lim hc (by omega),hi,one (.over i "engaged") hi rfl rfl⟩
 | barred=>exact oZ cu.at_ ⟨rfl,_,⟨rfl,rfl⟩,oW rfl,b,A,V,.over i "barred",rfl,cu.b,cu.bd,cu.lim hc (by omega),hi,one (.over i "barred") hi rfl rfl⟩
 | ring ns=>exact oZ cu.at_ ⟨rfl,_,⟨rfl,rfl⟩,oW rfl,b,A,V,.over i "ring",rfl,cu.b,cu.bd,cu.lim hc (by omega),hi,one (.over i "ring") hi rfl rfl⟩
def HK{V:qd}{i:Nat}{k:pk}{e:vo}(ok:qV l)(wf:zc l V (some i))(hk:V.calls[i]?=some k)(h:GY l V k.cr e):DT l V i e:=by
 cases e with
 | rings z ps=>obtain⟨hz,Xt,rfl⟩:=h;have h1:=(GP (l:=l) (V:=V) (c:=k.cr) (z:=z));have h2:=(ok.of hz).1.2.1;exact⟨hz,Xt,λx hx=>(h1.1 x hx).2,by have:=h1.2;omega⟩
 | breaks z=>
  obtain⟨x,rfl,hb⟩:=h;obtain⟨j,d,e1,e2,e3,e4,e5,_⟩:=GO hb;refine⟨j,d,e1,e2,λy=>?_,e5⟩;subst y;rw[hk]at e2;cases e2;have sh:=(wf.ok i k hk).sh;rw[show(some i==some i)=true from fA _]at sh;rcases sh with g|g
  .rw[g.1]at e3;exact absurd e3 (by decide)
  .cases g.1
 | _=>trivial
def Jz:Fq P w K mg base 9 a.ae (OW a):=by
 refine fq G.ae.toDG vY (λr u=>⟨_,(oY (pH 2 vY (pI (pq v0) U1))
 (oY (pH 3 vY (pE (NO G) r G.aZ (pW v0 (qX (pq U2) (pI (pq U2) (E1 pb)) (rL (pq U2) sS (sO (E1 pb)))))))
 (oY (pH 4 vY (pI U3 pb))
 (oY (pH 5 vY (pI U3 pb))
 (oY (pJ (pE (PY G) r G.a5 (qX v0 U1 v5)))
 (oY (pN (W3.b3 (yA (pD u (pI v4 pb) pj) (xO (pD u (pO qv rfl G.g ql (qb v5)) pb))))
 (oY (pH 6 vY (pI (pI v5 (E1 pb)) pb))
 (o9 (pJ (pR v0 G.c.toCls G.k (qO G) r (qb (pK (pW pj (pW U1 (qX v6 (pI (pI v4 pb) pb) v6)))))))))
 pF)
 (o9 (pJ (pE (PD G) r G.a8 (qX v0 U1 v4)))))))))),?_⟩)
 rintro ds M Q ⟨M0,b,A,V,l,c,n,i,k,rfl,cu,hc,hn,wf,hk,q⟩
 obtain⟨ka,ci⟩:=cu.call hk;obtain⟨ad,md,h1,h2,h3,h4,n1,n2⟩:=ci.cell;have XQ:=wf.ok i k hk;have hi:=(cU.mp hk).1;obtain⟨z,hz⟩:∃z,k.way.getLast?=some z:=by
  cases e:k.way.getLast? with
  | none=>exact absurd (gg.mp e) XQ.wy.1
  | some z=>exact⟨z,rfl⟩
 have Yb:z∈l.nm:=XQ.wy.2 z (ia hz);have hdn:∀x∈k.way.dropLast,x∈l.nm:=λx hx=>XQ.wy.2 x (ib _ hx);have hwl:=(cu.sz.cs k (qG hk)).1;have hev:uF l V i=rf i none (ui l V k.cr z k.way.dropLast).2++(sY i (ui l V k.cr z k.way.dropLast).2 (ui l V k.cr z k.way.dropLast).1++rR l V i (ui l V k.cr z k.way.dropLast).1):=by
  unfold uF;rw[hk];have:k.way.getLastD Str.empty=z:=by rw[gH,hz];rfl
  dsimp only[Option.elim];rw[this]
 rw[hev]at q;have ro:wN l V k.cr (l.nm.length+1) [] (ui l V k.cr z k.way.dropLast):=xh cu.ok _ _ _ _ Yb hdn;have rl:=ro.len;have eo:=HK cu.ok wf hk ro.e;have nl:l.nm.length<=11:=by have p8:=cu.ok.p8;have g3:=cu.ok.g3;unfold pC.nm pC.pn pC.gn;rw[cW,cS,cS];omega
 have re:=ro.e;refine Pf (t:=Cz _ _) (λU M'=>M=M'/\U=[some (.ref b),some (.int ((i:Nat):Int)),some (.ref ka.p),none,none,none,none]) (λnx0 h=>oZ cu.at_ (i' rfl (i' rfl (i' ci.bd.ca (i' (ra ci.e1) (h _ _ ⟨rfl,rfl⟩)))))) ?_
 rintro U _ ⟨rfl,rfl⟩
 refine Pf (t:=Cz _ _) (λU M'=>qp M M'/\∃r,M r=none/\oR M' r=some (rb (ui l V k.cr z k.way.dropLast).2)/\U=[some (.ref b),some (.int ((i:Nat):Int)),some (.ref ka.p),some (.tup [(ui l V k.cr z k.way.dropLast).1.d,.ref r]),none,none,none]) (λnx0 h=>?_) ?_
 .refine oZ h1 (i' rfl (oZ h1 (i' rfl (i' h2 (i' (Oj hz) (oZ h1 (i' rfl (i' h2 λp hp=>?_))))))));rw[show L3.tL (k.way.map D.str) none (some (-1:Int))=k.way.dropLast.map D.str from(LV _).trans (List.map_dropLast).symm];have t:=qp.new (c:=.lst (k.way.dropLast.map D.str)) hp;have lp:=@pA M p (k.way.dropLast.map D.str);refine⟨A,V,l,k.cr,z,p,k.way.dropLast,by rw[cu.b],(cu.rd hc wf).sub t,Yb,wf.nx,lp,by rw[List.length_dropLast];omega,λr M' s hr lr=>?_⟩;exact h _ _ ⟨t.trans s,r,t.none hr,lr,rfl⟩
 rintro U M1 ⟨s1,r,hr,lr,rfl⟩
 generalize ui l V k.cr z k.way.dropLast=R at lr ro rl eo re q;obtain⟨e,st⟩:=R;have cu1:=cu.sub s1;have rl:st.length<=0+(l.nm.length+1):=rl;refine⟨M0,b,A,V,l,c,n,i,st,r,rfl,cu1,hc,by omega,by omega,hi,lr,cu.bd.nQ hr,λM2 A2 c2 Xo=>?_⟩;have same:=uy i st none V;have X1:i<(qu V (rf i none st)).calls.length:=by rw[same.len];exact hi
 have ZK:oR M2 r=some (rb st):=rM (Xo.1 r _ (cu.bd.nQ hr) (pU lr));rw[rc,rc]at q;have hee:=λV' (h:tO V V')=>h.ends (l:=l) i e;have Zz:∀V',tO V V'->DT l V' i e:=λV' h=>by
  cases e with
  | breaks z'=>obtain⟨j,d,a1,a2,a3,a4⟩:=eo;obtain⟨d',b1,b2⟩:=h.at_ a2;exact⟨j,d',by rw[h.nA];exact a1,b1,a3,by rw[show d'.ms=d.ms from show d'.bare.ms=d.bare.ms by rw[b2]];exact a4⟩
  | rings _ _=>exact eo
  | _=>trivial
 generalize qu V (rf i none st)=V2 at c2 X1 same q;have Yc:∀(M3:Mp) (A3:sP) (V3:qd),tN a M0 M3 b A3 V3 l c (n+2*st.length+1)->qJ A M A3 M3->tO V V3->i<V3.calls.length->V3=qu V2 (sY i st e)->JF a [.ref b,.int ((i:Nat):Int),e.d] M3 λ_ M'=>∃W9,qp W9 M'/\Q .mG W9:=λM3 A3 V3 c3 s3 Yd hi3 e3=>⟨M0,b,A3,V3,l,c,_,i,e,rfl,c3,hc,by omega,hi3,Zz V3 Yd,λM4 A4 c4 s4=>⟨M4,.refl,q M4 A4 (by
  rw[<-e3];rw[hee V3 Yd]at c4;exact c4.mono (dg _) (by omega)) (s3.trans s4)⟩⟩
 have c2':=c2.mono (dg c) (show n+2*st.length<=n+2*st.length+1 by omega);have Yt:=(qJ.sub s1 (A:=A)).trans Xo;cases e with
 | ring ns=>
  obtain⟨x,ns',rfl⟩:=gb (show ns≠[]from re);refine i' ZK ?_;cases hl:st.getLast? with
  | none=>have:st=[]:=gg.mp hl;subst this;exact Yc M2 A2 V2 c2' Yt same X1 rfl
  | some s0=>
   have Yp:0<st.length:=by cases st with|nil=>cases hl|cons _ _=>exact mv _
   have hd:decide ((0:Int)<((rb st).length:Int))=true:=dS (by unfold rb;rw[cS];omega);refine AF (c:=decide ((0:Int)<((rb st).length:Int))) hd ?_;have hat1:wj (rb st) (-1)=some (.tup [.str s0.1,vZ s0.2]):=by
    unfold wj;have e1:G7 (rb st).length (-1)=some (st.length - 1):=by unfold rb;rw[cS];unfold G7;simp;omega
    rw[e1];show(rb st)[st.length - 1]?=_;unfold rb;rw[dz,<-jw,hl];rfl
   have hrv:sY i st (.ring (x::ns'))=[.leg ⟨i,s0.1,x,s0.1⟩]:=by unfold sY;dsimp only;rw[hl];rfl
   rw[hrv]at Yc;refine i' ZK (i' hat1 ?_);refine oZ c2.at_ ⟨rfl,_,⟨rfl,rfl⟩,i' (zj _ _) ⟨oW rfl,b,A2,V2,.leg ⟨i,s0.1,x,s0.1⟩,rfl,c2.b,c2.bd,c2.lim hc (by omega),X1,λM3 A3 eb X2 bd3=>?_⟩⟩;have Yd:=same.trans (zk V2 ⟨i,s0.1,x,s0.1⟩);exact Yc M3 A3 _ (c2.after (e:=.leg ⟨i,s0.1,x,s0.1⟩) X1 eb X2 bd3) (Yt.trans X2) Yd (by rw[Yd.len];exact hi) rfl
 | rings z' ps=>exact Yc M2 A2 V2 c2' Yt same X1 rfl
 | waits z'=>exact Yc M2 A2 V2 c2' Yt same X1 rfl
 | breaks z'=>exact Yc M2 A2 V2 c2' Yt same X1 rfl
 | engaged z'=>exact Yc M2 A2 V2 c2' Yt same X1 rfl
 | barred=>exact Yc M2 A2 V2 c2' Yt same X1 rfl
def Mo:Fq P w K mg base 10 a.a9 (NR a):=by
 refine fq G.a9.toDG ze (λr u=>⟨_,(oY (pH 3 ze (pO qv rfl G.g ql (qb (pq v0))))
 (oY (pJ (pR v0 G.c.toCls G.k (qO G) r (qb (pK (qX pj U3 U1)))))
 (oY (pJ (pR v0 G.c.toCls G.k (qO G) r (qb (pK (pW pj (pW U3 (qX U1 U2 U1)))))))
 (o9 (pJ (pE (Jz G) r G.ae (rN v0 U3))))))),?_⟩)
 rintro ds M Q ⟨M0,b,A,V,l,c,n,y,z,rfl,cu,hc,hn,wf,q⟩
 have lc:((A.cs.map λk=>D.ref k.p).length:Int)=(V.calls.length:Nat):=by rw[cS,cu.bd.len]
 refine oZ cu.at_ (i' rfl (i' cu.bd.ca ?_));rw[lc];refine oZ cu.at_ ⟨rfl,_,⟨rfl,rfl⟩,oW rfl,b,A,V,.new V.calls.length y,rfl,cu.b,cu.bd,cu.lim (by omega) (by omega),trivial,λM1 A1 eb1 Xz bd1=>?_⟩;have c1:=cu.after (e:=.new V.calls.length y) trivial eb1 Xz bd1;have ok2:(Ev.leg ⟨V.calls.length,y,z,y⟩).ok (pV V (.new V.calls.length y)):=by show V.calls.length<(V.calls++[yO y]).length;rw[cW];exact fv _
 refine oZ c1.at_ ⟨rfl,_,⟨rfl,rfl⟩,oW rfl,b,A1,_,.leg ⟨V.calls.length,y,z,y⟩,rfl,c1.b,c1.bd,c1.lim (by show c+1<=_;omega) (by omega),ok2,λM2 A2 eb2 Xo Ys=>?_⟩;have c2:=c1.after ok2 eb2 Xo Ys;obtain⟨k,hk⟩:∃k,(qu V [.new V.calls.length y,.leg ⟨V.calls.length,y,z,y⟩]).calls[V.calls.length]?=some k:=by
  have:V.calls.length<(qu V [.new V.calls.length y,.leg ⟨V.calls.length,y,z,y⟩]).calls.length:=by show V.calls.length<((V.calls++[yO y]).modify _ _).length;rw[eW];exact ok2
  exact⟨_,cV this⟩
 refine⟨M0,b,A2,_,l,c+1,n+2,V.calls.length,k,rfl,c2,by omega,by omega,wf,hk,λM3 A3 c3 X2=>⟨M3,.refl,q M3 A3 ?_ (Xz.trans (Xo.trans X2))⟩⟩;unfold xR;rw[rc];exact c3.mono (dg _) (by omega)
noncomputable def Eu(V:qd)(x:Str):D:=CQ (ur V x)
abbrev DP:=Ku Eu
def LW(a:Ad):qY:=λds M Q=>F0 λA V l x z=>ds=[.ref A.b,.str x,.str z]/\Rd a M A V l/\x∈l.pn/\Q (CQ (FY l V x z)) M
inductive vF(a:Ad)(M:Mp)(L:QXQ):List rm->List pk->Prop
 | nil:vF a M L [] []
 | cons (k:rm) (c:pk) (ks:List rm) (cs:List pk) (h:rF a M L k c) (r:vF a M L ks cs):vF a M L (k::ks) (c::cs)
def tI.nf(w:Str)(m:Nat):Prop:=((w="answer"\/w="hang"\/w="hold"\/w="back")/\m=1)\/((w="hand"\/w="join")/\m=2)
def L4(a:Ad):qY:=λds M Q=>IF λwd x r L ks cs=>ds=[.str wd,.str x,.ref r]/\oR M r=some (List.map (λk:rm=>D.ref k.p) ks)/\vF a M L ks cs/\tI.nf wd cs.length/\Q (.bl (IR wd x cs)) M
def IC(a:Ad):qY:=λds M Q=>IF λA V l wd x ns=>ds=[.ref A.b,.str wd,.str x,.tup (List.map D.int ns)]/\Rd a M A V l/\x∈l.pn/\tI.nf wd ns.length/\Q (CQ (K5 l V wd x ns)) M
def Rh(a:Ad):qY:=λds M Q=>Bg λA V b i=>ds=[.ref A.b,.str (TK b),.int i]/\pG a M A V/\Q (CQ (OI V b i)) M
def HQ(a:Ad):qY:=λds M Q=>Bg λA V l e=>ds=[.ref A.b,tI.d e]/\Rd a M A V l/\e.m7/\Q (CQ (vL l V e)) M
noncomputable def WE(m:Nat):D->D
 | .int i=>.bl (yW m i)
 | _=>.bl false
noncomputable def WD(A:sP):D->D
 | .int i=>(A.cs[i.toNat]?).elim .mG λk=>.ref k.p
 | _=>.mG
theorem Q8{V:qd}(bd:pG a M A V):∀{ns:T0 Int},ns.all (yW V.calls.length)=true->∃ks,vF a M (A.lists++V.fo) ks (tG V ns)/\(ns.map D.int).map (WD A)=ks.map (λk:rm=>D.ref k.p)/\(tG V ns).length=ns.length/\∀i∈ns,∃k,0<=i/\A.cs[i.toNat]?=some k
 | [],_=>⟨[],.nil,rfl,rfl,λi hi=>by cases hi⟩
 | i::r,h=>by
  rw[eU,dQ]at h;obtain⟨ks,h1,h2,h3,h4⟩:=Q8 bd h.2;have hh:(decide (0<=i)&&decide (i<V.calls.length))=true:=h.1;rw[dQ,d6,d6]at hh;have hi:i.toNat<V.calls.length:=by omega
  have hk:i.toNat<A.cs.length:=by rw[bd.len];exact hi
  have e1:A.cs[i.toNat]?=some A.cs[i.toNat]:=cV hk;have e2:V.calls[i.toNat]?=some V.calls[i.toNat]:=cV hi;have ec:tG V (i::r)=V.calls[i.toNat]::tG V r:=by unfold tG;rw[List.filterMap_cons_some (f:=λi:Int=>V.calls[i.toNat]?) e2]
  rw[ec];refine⟨A.cs[i.toNat]::ks,.cons _ _ _ _ (bd.cs _ _ _ e1 e2) h1,?_,eO Nat.succ h3,λj hj=>?_⟩
  .rw[dR,dR,h2];show(A.cs[i.toNat]?).elim _ _::_=_;rw[e1];rfl
  .rcases de.mp hj with rfl|hj
   .exact⟨_,hh.1,e1⟩
   .exact h4 j hj
def vF.sub(h:vF a M L ks cs)(s:qp M M'):vF a M' L ks cs:=by
 induction h with
 | nil=>exact .nil
 | cons k c ks cs h r ih=>exact .cons k c ks cs (h.sub s) ih
def R5{bs:T0 Bool}{i:Int}(h:yW bs.length i=true):wj (bs.map D.bl) i=some (.bl (bs.getD i.toNat false)):=by
 have hh:(decide (0<=i)&&decide (i<bs.length))=true:=h;rw[dQ,d6,d6]at hh;obtain⟨n,rfl⟩:=eA hh.1;have hn:n<bs.length:=by omega
 refine uV ?_;rw[dz,cV hn];show some (D.bl bs[n])=some (.bl (bs.getD n false));rw[fZ,cV hn];rfl
def DL:Fq P w K mg base 4 a.ad (DP a):=by
 refine fq G.ad.toDG yF (λr u=>⟨_,(oY (pN (pD u (pR v0 G.c.toCls G.bC (Nj G) r (qb U1)) rD)
 (o9 (pz pj))
 pF)
 (oY (pN (pD u (pR v0 G.c.toCls G.bD (HW G) r (qb U1)) rD)
 (o9 (pz pj))
 pF)
 (o9 (pz rD)))),?_⟩)
 rintro ds M Q ⟨A,V,x,rfl,bd,hk,q⟩
 unfold Eu ur at q;refine oZ bd.at_ ⟨rfl,_,⟨rfl,rfl⟩,A,V,x,rfl,bd,hk,?_⟩;unfold KU;cases e:Ey V x with
 | some j=>rw[e]at q;exact⟨M,.refl,q⟩
 | none=>
  rw[e]at q;refine oZ bd.at_ ⟨rfl,_,⟨rfl,rfl⟩,A,V,x,rfl,bd,hk,?_⟩;unfold UX;cases e:JK V x with
  | some j=>rw[e]at q;exact⟨M,.refl,q⟩
  | none=>rw[e]at q;exact⟨M,.refl,q⟩
def NC:Fq P w K mg base 5 a.a0 (LW a):=by
 refine fq G.a0.toDG we (λr u=>⟨_,(oY (pN (pD u U2 (vD (pq v0) G.h.toCls G.am (yi G) r))
 (o9 (pz pj))
 pF)
 (oY (pH 3 we (pE (DL G) r G.ad (rN v0 U1)))
 (oY (pN (W3.b3 (yA (pD u U3 rD) (xO (yD (vv (pR v0 G.c.toCls G.U (yr G) r (qb U1)))))))
 (o9 (pz pj))
 pF)
 (o9 (pz U3))))),?_⟩)
 rintro ds M Q ⟨A,V,l,x,z,rfl,rd,hx,q⟩
 obtain⟨ph,gr,ws,Yz,pr,gd,rs,i1,_⟩:=rd.pl;have p8:=rd.ok.p8;have g3:=rd.ok.g3;unfold FY at q;refine oZ rd.bd.at_ (i' rfl (oZ i1 ⟨rfl,_,⟨rfl,rfl⟩,V.p,l,rfl,rd.pl,by omega,by omega,λp hp=>i' pA ⟨rfl,qo _,?_⟩⟩));have t:=qp.new (c:=.lst (l.nm.map D.str)) hp;have XB:=rd.sub t;generalize pB M p (.lst (l.nm.map D.str))=M1 at t XB ⊢;show if (!(inD (.str z) (l.nm.map D.str)))=true then _ else _
 rw[sr];refine qA (c:=!(hasS l.nm z)) (λg=>?_) (λg=>?_)
 .rw[cZ (by simpa using g)]at q;exact⟨M,t,q⟩
 rw[cX (by simpa using g)]at q;refine⟨A,V,x,rfl,XB.bd,XB.k,?_⟩;unfold Eu;cases e:ur V x with
 | some w0=>rw[e]at q;exact⟨M,t,q⟩
 | none=>
  rw[e]at q;refine oZ XB.bd.at_ ⟨rfl,_,⟨rfl,rfl⟩,A,V,l,x,rfl,XB,hx,?_⟩;refine qA (c:=!(tS l V x)) (λg=>?_) (λg=>?_)
  .rw[g]at q;exact⟨M,t,q⟩
  .rw[show(!(tS l V x))=false from dF.mpr g]at q;exact⟨M,t,q⟩
def MD:Fq P w K mg base 3 a.a1 (L4 a):=by
 refine fq G.a1.toDG Ld (λr u=>⟨_,(oY (pN (pD u v0 pj)
 (o9 (pz (qc u U1 (pq (pI U2 pb)))))
 pF)
 (oY (pN (pD u v0 pj)
 (o9 (pz (pR (pI U2 pb) G.e.toCls G.bG (LA G) r (qb U1))))
 pF)
 (oY (pN (pD u v0 pj)
 (o9 (pz (pR (pI U2 pb) G.e.toCls G.ay (GH G) r (qb U1))))
 pF)
 (oY (pN (pD u v0 pj)
 (o9 (pz (qc u (pq (pI U2 pb)) U1)))
 pF)
 (o9 (pz (sQ (qc u (pq (pI U2 pb)) U1) (sA (pR (pI U2 pb) G.e.toCls G.ay (GH G) r (qb U1)))))))))),?_⟩)
 rintro ds M Q ⟨wd,x,r,L,ks,cs,rfl,lr,Zt,hw,q⟩
 cases Zt with
 | nil=>rcases hw with⟨_,h⟩|⟨_,h⟩<;>cases h
 | cons k c ks cs hc XO=>
 obtain⟨ad,md,h1,h2,h3,h4,_⟩:=id hc;have a0:=zj (.ref k.p) (ks.map λk:rm=>D.ref k.p);have hold:∀K:DK,K (.bl (c.hd==some x)) M->Option.elim (ym M 9 (CQ c.hd) (.str x)) False λb=>K (.bl b) M:=λK hK=>by
  cases e:c.hd with
  | none=>rw[e]at hK;exact hK
  | some y=>rw[e]at hK;exact hK
 rcases hw with⟨rfl|rfl|rfl|rfl,h⟩|⟨hw,h⟩
 .exact i' lr (i' a0 (oZ h1 (i' rfl (DB h3 ⟨M,.refl,q⟩))))
 .exact i' lr (i' a0 (oZ h1 ⟨rfl,_,⟨rfl,rfl⟩,L,k,c,x,rfl,hc,M,.refl,q⟩))
 .exact i' lr (i' a0 (oZ h1 ⟨rfl,_,⟨rfl,rfl⟩,L,k,c,x,rfl,hc,M,.refl,q⟩))
 .exact i' lr (i' a0 (oZ h1 (i' rfl (hold _ ⟨M,.refl,q⟩))))
 .cases XO with
  | nil=>cases h
  | cons k' d ks cs hd _=>
   obtain⟨ad',md',f1,_⟩:=id hd;have a1:wj (.ref k.p::.ref k'.p::ks.map λk:rm=>D.ref k.p) 1=some (.ref k'.p):=uV (j:=1) rfl;have qq:Q (.bl ((c.hd==some x)&&d.mS x)) M:=by
    rcases hw with rfl|rfl
    .exact q
    .exact q
   rcases hw with rfl|rfl
   all_goals
    refine i' lr (i' a0 (oZ h1 (i' rfl ?_)));cases e:c.hd with
    | none=>rw[e]at qq;exact⟨M,.refl,qq⟩
    | some y=>
     rw[e]at qq;have qq:Q (.bl ((y==x)&&d.mS x)) M:=qq;refine qA (c:=y==x) (λg=>?_) (λg=>?_)
     .rw[g,eI]at qq;exact i' lr (i' a1 (oZ f1 ⟨rfl,_,⟨rfl,rfl⟩,L,k',d,x,rfl,hd,M,.refl,qq⟩))
     .rw[show(y==x)=false from dF.mpr g,eQ]at qq;exact⟨M,.refl,qq⟩
def OB:Fq P w K mg base 5 a.a2 (IC a):=by
 refine fq G.a2.toDG tP (λr u=>⟨_,(oY (pN (yD (vv (pO (EF rfl) rfl G.bO Fz (qb (qB rfl (yg (ix:=[none,some 0]) (N':=["number","board"])) (qF U3) (qz 0) rQ (ug u pb v0 (pO qv rfl G.g ql (qb (pq U1)))))))))
 (o9 (pz pj))
 pF)
 (oY (wz (i:=4) tP.nd rfl (Or.inl rfl) rfl (yg (ix:=[none,some 0]) (N':=["number","board"])) (qF U3) (qz 0) rQ (pI (pq U1) v0))
 (oY (pN (yD (vv (pE (MD G) r G.a1 (qX U1 U2 v4))))
 (o9 (pz pj))
 pF)
 (oY (pN (pD u U1 (pK (rN pj pj)))
 (o9 (pz rD))
 pF)
 (oY (pH 5 tP (pE (DL G) r G.ad (rN v0 U2)))
 (oY (pN (W3.b3 (yA (pD u v5 rD) (yA (vv (pR (pI v4 pb) G.e.toCls G.aw (Gz G) r (qb U2))) (xO (yD (vv (pR v0 G.c.toCls G.U (yr G) r (qb U2))))))))
 (o9 (pz pj))
 pF)
 (o9 (pz v5)))))))),?_⟩)
 rintro ds M Q ⟨A,V,l,wd,x,ns,rfl,rd,hx,hw,q⟩
 have hz:=dH;have ZO:ns.length<=2:=by rcases hw with⟨_,h⟩|⟨_,h⟩<;>omega
 have lca:((A.cs.map λk=>D.ref k.p).length:Int)=V.calls.length:=by rw[cS,rd.bd.len]
 unfold K5 at q;refine rh (f:=WE V.calls.length) trivial _ [] _ (by rw[cS];simp only[dM];omega) (λd hd k hk=>?_) λp hp=>?_
 .obtain⟨i,_,rfl⟩:=dB.mp hd;have hk:k (.bl (decide (0<=i)&&decide (i<V.calls.length))) M:=hk;refine qA (c:=decide (0<=i)) (λg=>?_) (λg=>?_)
  .rw[g,eI]at hk;refine oZ rd.bd.at_ (i' rfl (i' rd.bd.ca ?_));rw[lca];exact hk
  .rw[show decide (0<=i)=false from dF.mpr g,eQ]at hk;exact hk
 have em:[]++(ns.map D.int).map (WE V.calls.length)=ns.map λi=>D.bl (yW V.calls.length i):=by rw[dY,dX];rfl
 rw[em];have t:=qp.new (c:=.lst (ns.map λi=>D.bl (yW V.calls.length i))) hp;refine i' pA (i' (x8 (yW V.calls.length) ns) ?_);have XB:=rd.sub t;generalize pB M p (.lst (ns.map λi=>D.bl (yW V.calls.length i)))=M1 at t XB ⊢;rw[zb];refine qA (c:=!(ns.all (yW V.calls.length))) (λg=>?_) (λX9=>?_)
 .rw[cZ (by simpa using g)]at q;exact⟨M,t,q⟩
 have X9:ns.all (yW V.calls.length)=true:=by simpa using X9
 rw[cX (by rw[X9];exact Bool.noConfusion)]at q;obtain⟨ks,hks,eks,lcs,Y3⟩:=Q8 XB.bd X9;refine rh (f:=WD A) trivial _ [] _ (by rw[cS];simp only[dM];omega) (λd hd k0 hk=>?_) λp2 Xf=>?_
 .obtain⟨i,hi,rfl⟩:=dB.mp hd;obtain⟨k,i0,e1⟩:=Y3 i hi;obtain⟨n,rfl⟩:=eA i0;have e1:A.cs[n]?=some k:=e1;have hk:k0 ((A.cs[n]?).elim .mG λk=>.ref k.p) M1:=hk;rw[e1]at hk;exact oZ XB.bd.at_ (i' rfl (i' rfl (i' XB.bd.ca (i' (ra e1) hk))))
 rw[dY,eks];have t2:=qp.new (c:=.lst (ks.map λk:rm=>D.ref k.p)) Xf;have l2:=@pA M1 p2 (ks.map λk:rm=>D.ref k.p);have Zc:=XB.sub t2;have s2:=t.trans t2;generalize pB M1 p2 (.lst (ks.map λk:rm=>D.ref k.p))=M2 at l2 Zc s2 t2 ⊢;have hks:=hks.sub t2;generalize tG V ns=cs at hks lcs q;refine⟨wd,x,p2,_,ks,cs,rfl,l2,hks,by rw[lcs];exact hw,?_⟩;refine qA (c:=!IR wd x cs) (λg=>?_) (λg=>?_)
 .rw[cZ (by simpa using g)]at q;exact⟨M,s2,q⟩
 rw[cX (by simpa using g)]at q;have two:∀wd:Str,(wd=="answer"||wd=="back")=true->Q (CQ (if ((ur V x).isNone&&(cs.head?.elim false (λc=>c.mJ x)&&!(tS l V x)))=true then some "full" else ur V x)) M->cs.length=1->DP a [.ref A.b,.str x] M2 λdue M3=>uq (P9 (Ov (b3 (k3 .Is (v3 5) (c3 .mG))) (Ov (b3 (Aw "waits_with" (λD s=>D=a.e/\s=vE a) (i3 (v3 4) (c3 (.int 0))) (vi (v3 2) xu))) (Tt (b3 (Aw "is_free" (λD s=>D=a.c/\s=wU a) (v3 0) (vi (v3 2) xu)))))) (RK (c3 (.str "full"))) VG) (RK (v3 5)) {nx:=λ_ M'=>∃W9,qp W9 M'/\Q .mG W9,rt:=λd M'=>∃W9,qp W9 M'/\Q d W9} [some (.ref A.b),some (.str wd),some (.str x),some (.tup (ns.map D.int)),some (.ref p2),some due] M3:=λwd _ q hl=>by
  cases hks with
  | nil=>cases hl
  | cons k c ks cs hc _=>
  have q:Q (CQ (if ((ur V x).isNone&&(c.mJ x&&!(tS l V x)))=true then some "full" else ur V x)) M:=q;obtain⟨ad,md,h1,_⟩:=id hc;refine⟨A,V,x,rfl,Zc.bd,Zc.k,?_⟩;unfold Eu;cases e:ur V x with
  | some w0=>rw[e]at q;exact⟨M,s2,q⟩
  | none=>
   rw[e]at q;refine i' l2 (i' (zj _ _) (oZ h1 ⟨rfl,_,⟨rfl,rfl⟩,_,k,c,x,rfl,hc,?_⟩));refine qA (c:=c.mJ x) (λg1=>?_) (λg1=>?_)
   .rw[g1]at q;refine oZ Zc.bd.at_ ⟨rfl,_,⟨rfl,rfl⟩,A,V,l,x,rfl,Zc,hx,?_⟩;refine qA (c:=!(tS l V x)) (λg=>?_) (λg=>?_)
    .rw[g]at q;exact⟨M,s2,q⟩
    .rw[show(!(tS l V x))=false from dF.mpr g]at q;exact⟨M,s2,q⟩
   .rw[show c.mJ x=false from dF.mpr g1]at q;exact⟨M,s2,q⟩
 rcases hw with⟨rfl|rfl|rfl|rfl,h⟩|⟨rfl|rfl,h⟩
 .exact⟨oW rfl,rfl,rfl,two "answer" rfl q (lcs.trans h)⟩
 .exact⟨oW rfl,rfl,rfl,M,s2,q⟩
 .exact⟨oW rfl,rfl,rfl,M,s2,q⟩
 .exact⟨oW rfl,rfl,rfl,two "back" rfl q (lcs.trans h)⟩
 .exact⟨oW rfl,rfl,rfl,M,s2,q⟩
 .exact⟨oW rfl,rfl,rfl,M,s2,q⟩
def Rr:Fq P w K mg base 1 a.a3 (Rh a):=by
 refine fq G.a3.toDG yx (λr u=>⟨_,(oY (pN (yD (GG u pb U2 (pO qv rfl G.g ql (qb (pq v0)))))
 (o9 (pz pj))
 pF)
 (oY (pN (pD u (pI (pq v0) U2) (qc u U1 pj))
 (o9 (pz pj))
 pF)
 (o9 (pz rD)))),?_⟩)
 rintro ds M Q ⟨A,V,b,i,rfl,bd,q⟩
 unfold OI at q;have Y3:yW V.on.length i=(decide (0<=i)&&decide (i<V.on.length)):=rfl;have lon:((V.on.map D.bl).length:Int)=V.on.length:=by rw[cS]
 have no:yW V.on.length i=false->Q (.str "wish") M:=λh=>by rw[cZ h]at q;exact q
 have yes:yW V.on.length i=true->Q (CQ (if (V.on.getD i.toNat false==b)=true then some "wish" else none)) M:=λh=>by rw[h,cX Bool.noConfusion]at q;exact q
 refine qA (c:=decide (0<=i)) (λg0=>?_) (λg0=>⟨M,.refl,no (by rw[Y3,show decide (0<=i)=false from dF.mpr g0];rfl)⟩);refine oZ bd.at_ (i' rfl (i' bd.on ?_));rw[lon];refine qA (c:=!(decide (i<(V.on.length:Int)))) (λg1=>⟨M,.refl,no (by rw[Y3,g0,show decide (i<(V.on.length:Int))=false by simpa using g1];rfl)⟩) (λg1=>?_);have h:yW V.on.length i=true:=by rw[Y3,g0,show decide (i<(V.on.length:Int))=true by simpa using g1];rfl
 have q:=yes h;refine oZ bd.at_ (i' rfl (i' rfl (i' bd.on (i' (R5 h) ?_))));have es:(TK b=="on")=b:=by cases b<;>rfl
 show if (V.on.getD i.toNat false==(TK b=="on"))=true then _ else _
 rw[es];refine qA (λg=>?_) (λg=>?_)
 .rw[cZ g]at q;exact⟨M,.refl,q⟩
 .rw[cX g]at q;exact⟨M,.refl,q⟩
def Iq:Fq P w K mg base 6 a.a4 (HQ a):=by
 refine fq G.a4.toDG Br (λr u=>⟨_,(oY (pH 2 Br (pI U1 pb))
 (oY (pN (pD u U2 pj)
 (o9 (pz rD))
 pF)
 (oY (pN (pD u U2 (pK (rN pj pj)))
 (o9 (pz (pE (Rr G) r G.a3 (qX v0 U2 (pI U1 pb)))))
 pF)
 (oY (pN (pD u (pI U1 pb) (vD (pq v0) G.h.toCls G.L (sy G) r))
 (o9 (pz pj))
 pF)
 (oY (pN (pD u U2 pj)
 (o9 (pz (pE (NC G) r G.a0 (qX v0 (pI U1 pb) (pI U1 pb)))))
 pF)
 (o9 (pz (pE (OB G) r G.a2 (pW v0 (qX U2 (pI U1 pb) (rL U1 (sO pb) sS))))))))))),?_⟩)
 rintro ds M Q ⟨A,V,l,e,rfl,rd,hf,q⟩
 obtain⟨ph,gr,ws,Yz,pr,gd,rs,i1,_⟩:=rd.pl;have p8:=rd.ok.p8;cases e with
 | turn=>exact⟨M,.refl,q⟩
 | sw b i=>
  cases b with
  | true=>exact⟨oW rfl,rfl,rfl,A,V,true,i,rfl,rd.bd,M,.refl,q⟩
  | false=>exact⟨oW rfl,rfl,rfl,A,V,false,i,rfl,rd.bd,M,.refl,q⟩
 | call x z=>
  have q:Q (CQ (if hasS l.pn x=false then some "name" else FY l V x z)) M:=q;refine⟨oW rfl,rfl,rfl,?_⟩;refine oZ rd.bd.at_ (i' rfl (oZ i1 ⟨rfl,_,⟨rfl,rfl⟩,V.p,l,rfl,rd.pl,by omega,λp Xf=>i' pA ⟨rfl,qo _,?_⟩⟩));have t:=qp.new (c:=.lst (l.pn.map D.str)) Xf;have XB:=rd.sub t;generalize pB M p (.lst (l.pn.map D.str))=M1 at t XB ⊢;show if (!(inD (.str x) (l.pn.map D.str)))=true then _ else _
  rw[sr];refine qA (c:=!(hasS l.pn x)) (λg=>?_) (λg=>?_)
  .rw[cZ (by simpa using g)]at q;exact⟨M,t,q⟩
  .have g:hasS l.pn x=true:=by simpa using g
   rw[g,cX Bool.noConfusion]at q;exact⟨A,V,l,x,z,rfl,XB,qN.mp g,M,t,q⟩
 | num wd x ns=>
  have q:Q (CQ (if hasS l.pn x=false then some "name" else K5 l V wd x ns)) M:=q;have hf:tI.nf wd ns.length:=hf;have key:∀(M1:Mp),qp M M1->if (!(inD (.str x) (l.pn.map D.str)))=true then(∃W9,qp W9 M1/\Q (.str "name") W9)else IC a [.ref A.b,.str wd,.str x,.tup (ns.map D.int)] M1 λd M'=>∃W9,qp W9 M'/\Q d W9:=λM1 t=>by
   rw[sr];refine qA (c:=!(hasS l.pn x)) (λg=>?_) (λg=>?_)
   .rw[cZ (by simpa using g)]at q;exact⟨M,t,q⟩
   .have g:hasS l.pn x=true:=by simpa using g
    rw[g,cX Bool.noConfusion]at q;exact⟨A,V,l,wd,x,ns,rfl,rd.sub t,qN.mp g,hf,M,t,q⟩
  have one:ns.length=1->∃i,ns=[i]:=List.length_eq_one_iff.mp;have two:ns.length=2->∃i j,ns=[i,j]:=λh=>by
   match ns,h with
   | [i,j],_=>exact⟨i,j,rfl⟩
  rcases id hf with⟨rfl|rfl|rfl|rfl,h⟩|⟨rfl|rfl,h⟩
  .obtain⟨i,rfl⟩:=one h;exact⟨oW rfl,rfl,rfl,oZ rd.bd.at_ (i' rfl (oZ i1 ⟨rfl,_,⟨rfl,rfl⟩,V.p,l,rfl,rd.pl,by omega,λp Xf=>i' pA ⟨rfl,qo _,key _ (.new Xf)⟩⟩))⟩
  .obtain⟨i,rfl⟩:=one h;exact⟨oW rfl,rfl,rfl,oZ rd.bd.at_ (i' rfl (oZ i1 ⟨rfl,_,⟨rfl,rfl⟩,V.p,l,rfl,rd.pl,by omega,λp Xf=>i' pA ⟨rfl,qo _,key _ (.new Xf)⟩⟩))⟩
  .obtain⟨i,rfl⟩:=one h;exact⟨oW rfl,rfl,rfl,oZ rd.bd.at_ (i' rfl (oZ i1 ⟨rfl,_,⟨rfl,rfl⟩,V.p,l,rfl,rd.pl,by omega,λp Xf=>i' pA ⟨rfl,qo _,key _ (.new Xf)⟩⟩))⟩
  .obtain⟨i,rfl⟩:=one h;exact⟨oW rfl,rfl,rfl,oZ rd.bd.at_ (i' rfl (oZ i1 ⟨rfl,_,⟨rfl,rfl⟩,V.p,l,rfl,rd.pl,by omega,λp Xf=>i' pA ⟨rfl,qo _,key _ (.new Xf)⟩⟩))⟩
  .obtain⟨i,j,rfl⟩:=two h;exact⟨oW rfl,rfl,rfl,oZ rd.bd.at_ (i' rfl (oZ i1 ⟨rfl,_,⟨rfl,rfl⟩,V.p,l,rfl,rd.pl,by omega,λp Xf=>i' pA ⟨rfl,qo _,key _ (.new Xf)⟩⟩))⟩
  .obtain⟨i,j,rfl⟩:=two h;exact⟨oW rfl,rfl,rfl,oZ rd.bd.at_ (i' rfl (oZ i1 ⟨rfl,_,⟨rfl,rfl⟩,V.p,l,rfl,rd.pl,by omega,λp Xf=>i' pA ⟨rfl,qo _,key _ (.new Xf)⟩⟩))⟩
def Dl(V:qd)(x:Str):Prop:=∀c∈V.calls,¬Bo c x
def Ej{V:qd}(h:ur V x=none):Dl V x:=by
 unfold ur at h;cases e1:Ey V x with
 | some j=>rw[e1]at h;cases h
 | none=>
  cases e2:JK V x with
  | some j=>rw[e1,e2]at h;cases h
  | none=>
   intro c hc g;have h1:=jx.mp e1 c hc;have h2:=jx.mp e2 c hc;rcases g with g|g
   .rw[h1]at g;cases g
   .rw[h2]at g;cases g
def sD{c:pk}(h:c.st="rings"){x:Str}:Bo c x↔x=c.cr:=by unfold Bo pk.mX pk.mQ pk.mP;rw[h];simp(decide:=true)
def DO{c:pk}(h:c.st="waits"){x:Str}:Bo c x↔x=c.cr:=by unfold Bo pk.mX pk.mQ pk.mP;rw[h];simp(decide:=true)
def tK{c:pk}(h:c.st="talks"){x:Str}:Bo c x↔x∈c.ms:=by unfold Bo pk.mX pk.mQ pk.mP;rw[h,<-qN];simp(decide:=true)
def BP{c:pk}(h:c.st="held"){x:Str}:Bo c x↔x∈c.ms/\c.hd≠some x:=by unfold Bo pk.mX pk.mQ;rw[h,<-qN];simp(decide:=true)
def Gq{c:pk}(h:c.st="over"){x:Str}:¬Bo c x:=by unfold Bo pk.mX pk.mQ pk.mP;rw[h];simp(decide:=true)
def sG{c:pk}(h:c.st="rings"){x:Str}:c.hasB x=true↔x=c.cr\/x∈c.at_:=by unfold pk.hasB;rw[h,<-qN];simp(decide:=true)
def DI{c:pk}(h:c.st="waits"){x:Str}:c.hasB x=true↔x=c.cr:=by unfold pk.hasB;rw[h];simp(decide:=true)
def sU{c:pk}(h:c.st="talks"\/c.st="held"){x:Str}:c.hasB x=true↔x∈c.ms:=by unfold pk.hasB;rw[<-qN];rcases h with h|h<;>(rw[h];simp(decide:=true))
def G4{c:pk}(h:c.st="over"){x:Str}:c.hasB x=false:=by unfold pk.hasB;rw[h];simp(decide:=true)
def rS{c:pk}{x:Str}:c.mJ x=true↔c.st="waits"/\x∈c.at_:=by unfold pk.mJ;rw[dQ,fh,qN]
theorem EV{α:Type}(f:α->Bool):∀{l:List α} {i:Nat} {c:α} (c':α),l[i]?=some c->((l.set i c').filter f).length+(if f c=true then 1 else 0)=(l.filter f).length+(if f c'=true then 1 else 0)
 | [],_,_,_,h=>by simp at h
 | x::r,0,c,c',h=>by cases h;rw[List.set_cons_zero,gJ,gJ];split<;>split<;>simp
 | x::r,i+1,c,c',h=>by
  have ih:=EV f (l:=r) (i:=i) (c:=c) c' (by simpa using h);rw[kX,gJ,gJ];split
  .rw[eh,eh];omega
  .exact ih
def zc.set{V V':qd}{o o':Option Nat}{i:Nat}{c c':pk}(h:zc l V o)(e:V'.calls=V.calls.set i c')(hc:V.calls[i]?=some c)(ho:∀j,j≠i->(o==some j)=(o'==some j))(ok:vR l (o'==some i) c')(he:∀x,Bo c' x->Bo c x\/Dl V x)(hu:∀x,c'.hasB x=true->c.hasB x=true\/(uS V x:Int)<wA l x)(hw:∀x,c'.mJ x=true->c.mJ x=true\/Ax V x=false)(nx:um l V'):zc l V' o':=by
 have si:∀{j:Nat} {d:pk},V'.calls[j]?=some d->(j=i/\d=c')\/(j≠i/\V.calls[j]?=some d):=λ{j d} g=>by rw[e]at g;exact(Ff g).imp (λg=>⟨g.1,g.2.1⟩) id
 have key:∀(j:Nat) cj x,j≠i->V.calls[j]?=some cj->Bo c' x->Bo cj x->False:=λj cj x hj e1 g1 g2=>by
  rcases he x g1 with z|z
  .exact hj (h.un j i cj c x e1 hc g2 z)
  .exact z cj (qG e1) g2
 have keyw:∀(j:Nat) cj x,j≠i->V.calls[j]?=some cj->c'.mJ x=true->cj.mJ x=true->False:=λj cj x hj e1 g1 g2=>by
  rcases hw x g1 with z|z
  .exact hj (h.wt j i cj c x e1 hc g2 z)
  .unfold Ax at z;exact absurd g2 (by rw[kZ.mp z cj (qG e1)|>dF.mpr];exact Bool.noConfusion)
 refine⟨λj d g=>?_,λm n cm cn x e1 e2 g1 g2=>?_,λx hx=>?_,λm n cm cn x e1 e2 g1 g2=>?_,nx⟩
 .rcases si g with⟨rfl,rfl⟩|⟨hj,g⟩
  .exact ok
  .rw[<-ho j hj];exact h.ok j d g
 .rcases si e1 with⟨rfl,rfl⟩|⟨hm,e1⟩<;>rcases si e2 with⟨rfl,rfl⟩|⟨hn,e2⟩
  .rfl
  .exact(key n cn x hn e2 g1 g2).elim
  .exact(key m cm x hm e1 g2 g1).elim
  .exact h.un m n cm cn x e1 e2 g1 g2
 .have cs:=EV (λk:pk=>k.hasB x) c' hc;have hl:=h.ln x hx;unfold uS at hl ⊢;rw[e];by_cases g:c'.hasB x=true
  .rw[cZ g]at cs;rcases hu x g with z|z
   .rw[cZ z]at cs;omega
   .unfold uS at z;omega
  .rw[cX g]at cs;omega
 .rcases si e1 with⟨rfl,rfl⟩|⟨hm,e1⟩<;>rcases si e2 with⟨rfl,rfl⟩|⟨hn,e2⟩
  .rfl
  .exact(keyw n cn x hn e2 g1 g2).elim
  .exact(keyw m cm x hm e1 g2 g1).elim
  .exact h.wt m n cm cn x e1 e2 g1 g2
def zc.add{V V':qd}{c':pk}(h:WF l V)(e:V'.calls=V.calls++[c'])(ok:vR l true c')(he:∀x,Bo c' x->Dl V x)(hu:∀x,c'.hasB x=true->(uS V x:Int)<wA l x)(hw:∀x,c'.mJ x=false)(nx:um l V'):zc l V' (some V.calls.length):=by
 have si:∀{j:Nat} {d:pk},V'.calls[j]?=some d->(j=V.calls.length/\d=c')\/(j≠V.calls.length/\V.calls[j]?=some d):=λ{j d} g=>by
  rw[e]at g;by_cases z:j<V.calls.length
  .rw[eZ z]at g;exact .inr ⟨by omega,g⟩
  .have:=(cU.mp g).1;rw[cW,dN]at this;have z:j=V.calls.length:=by omega
   subst z;rw[eR (dg _)]at g;simp only[g9,iB,jp]at g;exact .inl ⟨rfl,g.symm⟩
 refine⟨λj d g=>?_,λm n cm cn x e1 e2 g1 g2=>?_,λx hx=>?_,λm n cm cn x e1 e2 g1 g2=>?_,nx⟩
 .rcases si g with⟨rfl,rfl⟩|⟨hj,g⟩
  .rw[fA];exact ok
  .rw[show(some V.calls.length==some j)=false by simpa using dI hj];exact h.ok j d g
 .rcases si e1 with⟨rfl,rfl⟩|⟨hm,e1⟩<;>rcases si e2 with⟨rfl,rfl⟩|⟨hn,e2⟩
  .rfl
  .exact(he x g1 cn (qG e2) g2).elim
  .exact(he x g2 cm (qG e1) g1).elim
  .exact h.un m n cm cn x e1 e2 g1 g2
 .have hl:=h.ln x hx;unfold uS at hl ⊢;rw[e,jj,cW,gJ];split
  .rename_i g;have:=hu x g;unfold uS at this;simp only[iT,dN];omega
  .simp only[iT,dM];omega
 .rcases si e1 with⟨rfl,rfl⟩|⟨hm,e1⟩<;>rcases si e2 with⟨rfl,rfl⟩|⟨hn,e2⟩
  .rfl
  .rw[hw x]at g1;cases g1
  .rw[hw x]at g2;cases g2
  .exact h.wt m n cm cn x e1 e2 g1 g2
noncomputable def pk.core(c:pk):pk:={c with way:=[],si:=0}
def zy(V V':qd):Prop:=V'.calls.map pk.core=V.calls.map pk.core
def zy.at_{V V':qd}(h:zy V V'){i:Nat}{c':pk}(e:V'.calls[i]?=some c'):∃c,V.calls[i]?=some c/\c'.core=c.core:=by
 have:=eO (·[i]?) h;simp only[dz,e]at this;cases e':V.calls[i]? with
 | none=>rw[e']at this;cases this
 | some c=>rw[e']at this;exact⟨c,rfl,df this⟩
def zy.used{V V':qd}(h:zy V V')(x:Str):uS V' x=uS V x:=by
 have key:∀cs:List pk,(cs.filter (·.hasB x)).length=((cs.map pk.core).filter (·.hasB x)).length:=λcs=>by rw[gQ,cS];rfl
 unfold uS;rw[key,h,<-key]
def zy.wf{V V':qd}{o:Option Nat}(h:zy V V')(wf:zc l V o)(hw:∀(i:Nat) c',V'.calls[i]?=some c'->c'.way≠[]/\∀z∈c'.way,z∈l.nm)(nx:um l V'):zc l V' o:=by
 refine⟨λi c' e=>?_,λi j ci cj x e1 e2 g1 g2=>?_,λx hx=>by rw[h.used];exact wf.ln x hx,λi j ci cj x e1 e2 g1 g2=>?_,nx⟩
 .obtain⟨c,ec,ee⟩:=h.at_ e;have k:=wf.ok i c ec;have k1:c'.at_=c.at_:=show c'.core.at_=c.core.at_ by rw[ee]
  have k2:c'.ms=c.ms:=show c'.core.ms=c.core.ms by rw[ee]
  have k3:c'.cr=c.cr:=show c'.core.cr=c.core.cr by rw[ee]
  exact⟨by show Q5 _ c'.core;rw[ee];exact k.sh,by rw[k3];exact k.cr,by rw[k1];exact k.at_,by rw[k2];exact k.ms,by rw[k1];exact k.an,by rw[k2];exact k.mn,by rw[k1,k3];exact k.ca,hw i c' e⟩
 .obtain⟨di,a1,a2⟩:=h.at_ e1;obtain⟨dj,b1,b2⟩:=h.at_ e2;exact wf.un i j di dj x a1 b1 (by show Bo di.core x;rw[<-a2];exact g1) (by show Bo dj.core x;rw[<-b2];exact g2)
 .obtain⟨di,a1,a2⟩:=h.at_ e1;obtain⟨dj,b1,b2⟩:=h.at_ e2;exact wf.wt i j di dj x a1 b1 (by show di.core.mJ x=true;rw[<-a2];exact g1) (by show dj.core.mJ x=true;rw[<-b2];exact g2)
def tO.core{V V':qd}(h:tO V V'):zy V V':=by have:=eO (List.map pk.core) h;rw[dX,dX]at this;exact this
def KH(V:qd):zy V (pV V .turn):=by show(V.calls.map pk.tick).map pk.core=V.calls.map pk.core;rw[dX];refine gq λc _=>?_;show(pk.tick c).core=c.core;unfold pk.tick;split<;>rfl
def Bb{V:qd}(wf:WF l V):WF l (pV V .turn):=(KH V).wf wf (λi c' e=>by
 have e:(V.calls.map pk.tick)[i]?=some c':=e;rw[dz]at e;cases q:V.calls[i]? with
 | none=>rw[q]at e;cases e
 | some c=>
  rw[q]at e;have e:c.tick=c':=df e;have hw:c.tick.way=c.way:=by unfold pk.tick;split<;>rfl
  rw[<-e,hw];exact(wf.ok i c q).wy) wf.nx
def UV{V:qd}{b:Bool}{i:Nat}(wf:WF l V):WF l (pV V (.sw b i)):=⟨wf.ok,wf.un,wf.ln,wf.wt,wf.nx⟩
def FP{V:qd}{o:Option Nat}{i:Nat}{z:Str}{ns:T0 Nat}(wf:zc l V o):zc l (pV V (.asks i z ns)) o:=⟨wf.ok,wf.un,wf.ln,wf.wt,wf.nx⟩
def Hn{V:qd}{o:Option Nat}{v:rP}(wf:zc l V o)(hz:v.g∈l.nm):zc l (pV V (.leg v)) o:=(zk V v).core.wf wf (λi c' e=>by
 have e:(V.calls.modify v.i (·.go v.g))[i]?=some c':=e;rw[iW]at e;cases q:V.calls[i]? with
 | none=>rw[q]at e;cases e
 | some c=>
  rw[q]at e;have k:=(wf.ok i c q).wy;have e:(if v.i=i then c.go v.g else c)=c':=df e;by_cases g:v.i=i
  .rw[cZ g]at e;rw[<-e];refine⟨by show c.way++[v.g]≠[];simp,λz hz'=>?_⟩;rcases dU.mp (show z∈c.way++[v.g]from hz')with y|y
   .exact k.2 z y
   .rw[dv.mp y];exact hz
  .rw[cX g]at e;rw[<-show c=c' from e];exact k) wf.nx
theorem BQ{o:Option Nat}(i:Nat):∀(st:sR) (q:Option Str) {V:qd},zc l V o->(∀s∈st,s.1∈l.nm)->zc l (qu V (rf i q st)) o
 | [],_,V,wf,_=>wf
 | (y,gs)::r,none,V,wf,h=>BQ i r (some y) (FP wf) λs hs=>h s (dA _ hs)
 | (y,gs)::r,some u,V,wf,h=>BQ i r (some y) (FP (Hn wf (h _ dG))) λs hs=>h s (dA _ hs)
def rj{V:qd}{i:Nat}{c:pk}{f:pk->pk}(h:V.calls[i]?=some c):(xg V i f).calls=V.calls.set i (f c):=by unfold xg;rw[tH h]
def Bk{i:Nat}:∀j,j≠i->((some i:Option Nat)==some j)=((none:Option Nat)==some j):=λj hj=>by rw[show((some i:Option Nat)==some j)=false by simpa using dI hj];rfl
def Wm{V:qd}{i:Nat}{c:pk}(wf:zc l V (some i))(hc:V.calls[i]?=some c):c.st="rings"/\c.ms=[]/\c.hd=none/\c.wd=none/\c.at_=[]:=by
 have sh:=(wf.ok i c hc).sh;rw[fA]at sh;rcases sh with g|g
 .exact⟨g.1,g.2.1,g.2.2.1,g.2.2.2.1,g.2.2.2.2.1 rfl⟩
 .cases g.1
def OO{c:pk}{o:Bool}{w:Str}(k:vR l o c)(hw:w∈Lc):vR l false (c.over w):=⟨.inr ⟨rfl,.inr (.inr (.inr ⟨rfl,rfl,rfl,rfl,w,hw,rfl⟩))⟩,k.cr,(λx hx=>by cases hx),(λx hx=>by cases hx),eG,eG,(λhx=>by cases hx),k.wy⟩
def wm{V V':qd}{o:Option Nat}{i:Nat}{c:pk}{w:Str}(wf:zc l V o)(hc:V.calls[i]?=some c)(ho:o=none\/o=some i)(hw:w∈Lc)(e:V'.calls=V.calls.set i (c.over w))(nx:um l V'):WF l V':=
 wf.set e hc (λj hj=>by rcases ho with rfl|rfl;rfl;exact Bk j hj) (OO (wf.ok i c hc) hw) (λx g=>(Gq rfl g).elim) (λx g=>by rw[G4 (c:=c.over w) rfl]at g;cases g) (λx g=>by have:=(rS.mp g).1;exact absurd this (show("over":Str)≠"waits" by decide)) nx
def Hk{l:pC}{V:qd}{c z:Str}(h:(l.mC z).Nodup):(xq l V c z).Nodup:=by
 unfold xq;split
 .cases(uR (l.mC z) (zC V z)).filter λx=>hasS (uh l V c z) x with
  | nil=>exact eG
  | cons y r=>exact dO.mpr ⟨dD,eG⟩
 .exact h.sublist fW
def LG(ps:T0 (Str×Int))(z:Str)(n:Int)(y:Str):(BL ps z n).find? (λp=>decide (p.1=y))=if y=z then some (z,n)else ps.find? λp=>decide (p.1=y):=by
 unfold BL;by_cases h:ps.any (λp=>decide (p.1=z))=true
 .rw[cZ h];induction ps with
  | nil=>cases h
  | cons p r ih=>
   rw[dR,fH,fH];by_cases hp:p.1=z
   .rw[cZ hp];by_cases hy:y=z
    .rw[cZ hy,hy];simp[hp]
    .rw[cX hy];have n1:decide (p.1=y)=false:=eM (λq=>hy (q.symm.trans hp));simp only[n1];by_cases hr:r.any (λp=>decide (p.1=z))=true
     .have:=ih hr;rw[cX hy]at this;exact this
     .have hr:∀q∈r,¬q.1=z:=λq hq g=>hr (gw.mpr ⟨q,hq,dS g⟩);rw[show r.map (λp=>if p.1=z then(p.1,n)else p)=r from(gq λq hq=>cX (hr q hq)).trans (je _)]
   .rw[cX hp];have hr:r.any (λp=>decide (p.1=z))=true:=by
     rw[fY,gP]at h;rcases h with g|g
     .exact absurd (fO g) hp
     .exact g
    have ih:=ih hr;by_cases hy:y=z
    .rw[cZ hy]at ih ⊢;have n1:decide (p.1=y)=false:=eM (λq=>hp (q.trans hy));simp only[n1];exact ih
    .rw[cX hy]at ih ⊢;cases decide (p.1=y)with
     | true=>rfl
     | false=>exact ih
 .rw[cX h,List.find?_append];have hr:∀q∈ps,¬q.1=z:=λq hq g=>h (gw.mpr ⟨q,hq,dS g⟩);by_cases hy:y=z
  .subst hy;rw[cZ rfl,gR.mpr λq hq=>by simpa using hr q hq,Option.none_or];simp
  .rw[cX hy,fH,eM (λq:z=y=>hy q.symm)];simp
def Ng{V:qd}{z:Str}{n:Int}(h:um l V)(h0:0<=n)(h1:n<=((l.mC z).length:Int)):um l (pV V (.next z n)):=λy hy ht=>by
 show ∃v,(BL V.ps z n).find? _=some v/\_;rw[LG];by_cases e:y=z
 .subst e;rw[cZ rfl];exact⟨_,rfl,h0,h1⟩
 .rw[cX e];exact h y hy ht
def EG{V:qd}(h:tS l V x=true):(uS V x:Int)<wA l x:=fO h
def Ks{V V':qd}{o:Option Nat}{i:Nat}{c:pk}{w x:Str}(wf:zc l V o)(hc:V.calls[i]?=some c)(e:V'.calls=V.calls.set i (c.over w))(hx:Bo c x):Dl V' x:=λd hd g=>by
 rw[e]at hd;obtain⟨j,hj,ed⟩:=gL hd;have ej:(V.calls.set i (c.over w))[j]?=some d:=by rw[cV hj,ed]
 rcases Ff ej with⟨_,rfl,_⟩|⟨Xt,ej⟩
 .exact Gq rfl g
 .exact Xt (wf.un j i d c x ej hc g hx)
def Kz{V V':qd}{i:Nat}{c:pk}{w x:Str}(hc:V.calls[i]?=some c)(e:V'.calls=V.calls.set i (c.over w))(hx:c.hasB x=true):uS V' x+1=uS V x:=by
 have:=EV (λk:pk=>k.hasB x) (c.over w) hc;unfold uS;rw[e];simp only[hx,jb,G4 (c:=c.over w) rfl]at this
 simpa using this
def GB{V V':qd}{o:Option Nat}{i j:Nat}{c d:pk}{ms:QQQ}(wf:zc l V o)(ho:o=none\/o=some i)(hc:V.calls[i]?=some c)(hd:V.calls[j]?=some d)(X5:i≠j)(e:V'.calls=(V.calls.set i (c.over "merged")).set j (d.mem ms))(nx:um l V')(dt:d.st="talks")(m1:ms.Nodup)(m2:ms.length=2\/ms.length=3)(m3:∀x∈ms,x∈d.ms\/(Bo c x/\c.hasB x=true))(m4:∀x∈ms,x∈l.pn):WF l V':=by
 have e1:(xg V i (·.over "merged")).calls=V.calls.set i (c.over "merged"):=rj hc;have w1:WF l (xg V i (·.over "merged")):=wm wf hc ho (by decide) e1 wf.nx;have hd1:(xg V i (·.over "merged")).calls[j]?=some d:=by rw[e1,eN X5];exact hd
 have kd:=w1.ok j d hd1;have kd':d.hd=none/\d.wd=none/\d.at_=[]:=by
  rcases kd.sh with g|⟨_,g|g|⟨_,g⟩|g⟩
  .rw[dt]at g;exact absurd g.1 (by decide)
  .rw[dt]at g;exact absurd g.1 (by decide)
  .exact⟨g.2.2.1,g.2.2.2.1,g.2.2.2.2⟩
  .rw[dt]at g;exact absurd g.1 (by decide)
  .rw[dt]at g;exact absurd g.1 (by decide)
 refine w1.set (c':=d.mem ms) (by rw[e,e1]) hd1 (λ_ _=>rfl) ⟨.inr ⟨rfl,.inr (.inl ⟨dt,m2,kd'.1,kd'.2.1,kd'.2.2⟩)⟩,kd.cr,kd.at_,m4,kd.an,m1,kd.ca,kd.wy⟩ (λx g=>?_) (λx g=>?_) (λx g=>?_) nx
 .have g:=(tK (c:=d.mem ms) dt).mp g;rcases m3 x g with y|y
  .exact .inl ((tK dt).mpr y)
  .exact .inr (Ks wf hc e1 y.1)
 .have g:=(sU (c:=d.mem ms) (.inl dt)).mp g;rcases m3 x g with y|y
  .exact .inl ((sU (.inl dt)).mpr y)
  .have:=Kz hc e1 y.2;have:=wf.ln x (m4 x g);exact .inr (by omega)
 .have:=(rS.mp g).1;rw[show(d.mem ms).st="talks" from dt]at this;exact absurd this (by decide)
def RC{V V1:qd}{i:Nat}{c:pk}{e:vo}(ok:qV l)(wf:zc l V1 (some i))(same:zy V V1)(hc:V1.calls[i]?=some c)(he:GY l V c.cr e):WF l (qu V1 (rR l V1 i e)):=by
 obtain⟨p1,p2,p3,p4,p5⟩:=Wm wf hc;have k:=wf.ok i c hc;have hi:=(cU.mp hc).1;cases e with
 | rings z ps=>
  obtain⟨hz,Xt,rfl⟩:=he;obtain⟨⟨q1,q2,q3,q4⟩,_⟩:=ok.of hz;obtain⟨r1,r2⟩:=GP (l:=l) (V:=V) (c:=c.cr) (z:=z);generalize hps:xq l V c.cr z=ps at Xt r1 r2;have Xa:∀V2:qd,V2.calls=V1.calls->um l V2->WF l (pV V2 (.rings i ps)):=λV2 e2 nx=>by
   have e3:(pV V2 (.rings i ps)).calls=V1.calls.set i (c.ring ps):=by show(xg (qE V2 _) i _).calls=_;rw[rj (c:=c) (by show V2.calls[i]?=_;rw[e2];exact hc)];show V2.calls.set i _=_;rw[e2]
   have free:∀x∈ps,tS l V x=true/\x≠c.cr:=λx hx=>by have h:=(fG.mp (r1 x hx).1).2;simp only[dQ,gD]at h;exact⟨h.2,by simpa using h.1⟩
   refine wf.set e3 hc Bk ⟨.inl ⟨rfl,p2,p3,p4,(λh=>by cases h),λ_=>Xt⟩,k.cr,λx hx=>q4 x (r1 x hx).2,k.ms,by rw[<-hps];exact Hk q3,k.mn,λhx=>(free _ hx).2 rfl,k.wy⟩ (λx g=>?_) (λx g=>?_) (λx g=>?_) nx
   .exact .inl ((sD p1).mpr ((sD (c:=c.ring ps) rfl).mp g))
   .rcases(sG (c:=c.ring ps) rfl).mp g with y|y
    .exact .inl ((sG p1).mpr (.inl y))
    .refine .inr ?_;rw[same.used];exact EG (free x y).1
   .exact absurd (rS.mp g).1 (show("rings":Str)≠"waits" by decide)
  show WF l (qu V1 ((if (l.mK z=="turns")=true then _ else _)++[.rings i ps]));rw[rc];by_cases ht:(l.mK z=="turns")=true
  .rw[cZ ht];have lp:0<(l.mC z).length:=fC.mpr q1;refine Xa _ rfl (Ng wf.nx (eP _ (by omega)) (Int.le_of_lt (eL _ (by omega))))
  .rw[cX ht];exact Xa V1 rfl wf.nx
 | waits z=>
  obtain⟨hz,Xt,hw⟩:=he;have e3:(pV V1 (.waits i z)).calls=V1.calls.set i (c.wait z):=rj (V:=qE V1 _) hc;have hw1:Ax V1 z=false:=by
   unfold Ax at hw ⊢;have key:∀cs:List pk,cs.any (·.mJ z)=(cs.map pk.core).any (·.mJ z):=λcs=>by rw[jK];rfl
   rw[key,same,<-key];exact hw
  refine wf.set e3 hc Bk ⟨.inr ⟨rfl,.inl ⟨rfl,p2,p3,p4,rfl⟩⟩,k.cr,λx hx=>by rw[dv.mp hx];exact hz,k.ms,dO.mpr ⟨dD,eG⟩,k.mn,λhx=>Xt (dv.mp hx).symm,k.wy⟩ (λx g=>?_) (λx g=>?_) (λx g=>?_) wf.nx
  .exact .inl ((sD p1).mpr ((DO (c:=c.wait z) rfl).mp g))
  .exact .inl ((sG p1).mpr (.inl ((DI (c:=c.wait z) rfl).mp g)))
  .have:=(rS.mp g).2;rw[dv.mp this];exact .inr hw1
 | breaks z=>
  obtain⟨x,rfl,hb⟩:=he;obtain⟨j,d0,t1,t2,t3,t4,t5,t6⟩:=GO hb;have ht:vw V1 z=some j:=by
   rw[<-t1];unfold vw;have key:∀cs:List pk,cs.findIdx? (·.mP z)=(cs.map pk.core).findIdx? (·.mP z):=λcs=>by rw[gX];rfl
   rw[key,same,<-key]
  obtain⟨d,ed,ec⟩:∃d,V1.calls[j]?=some d/\d.core=d0.core:=by
   have:=eO (·[j]?) same;simp only[dz,t2]at this;cases q:V1.calls[j]? with
   | none=>rw[q]at this;cases this
   | some d=>rw[q]at this;exact⟨d,rfl,df this⟩
  have ds:d.st="talks":=by rw[show d.st=d0.st from show d.core.st=d0.core.st by rw[ec]];exact t3
  have dm:d.ms=d0.ms:=show d.core.ms=d0.core.ms by rw[ec]
  have X5:i≠j:=λy=>by subst y;rw[hc]at ed;cases ed;rw[p1]at ds;exact absurd ds (by decide)
  have hee:rR l V1 i (.breaks z)=[.merge i j (d.ms++[c.cr])]:=by unfold rR;dsimp only;rw[ht,hc];dsimp only;rw[ed];rfl
  rw[hee];have ncr:c.cr∉d.ms:=λy=>X5 (wf.un i j c d c.cr hc ed ((sD p1).mpr rfl) ((tK ds).mpr y));have kd:=wf.ok j d ed;refine GB (V':=pV V1 (.merge i j (d.ms++[c.cr]))) (ms:=d.ms++[c.cr]) wf (.inr rfl) hc ed X5 ?_ wf.nx ds ?_ (.inr ?_) (λx hx=>?_) (λx hx=>?_)
  .show(V1.calls.modify i _).modify j _=_;rw[tH hc,tH (show(V1.calls.set i _)[j]?=some d by rw[eN X5];exact ed)]
  .refine gj.mpr ⟨kd.mn,dO.mpr ⟨dD,eG⟩,λx hx y hy q=>ncr ?_⟩;rw[dv.mp hy]at q;rw[<-q];exact hx
  .rw[cW,dm,t5];rfl
  .rcases dU.mp hx with y|y
   .exact .inl y
   .rw[dv.mp y];exact .inr ⟨(sD p1).mpr rfl,(sG p1).mpr (.inl rfl)⟩
  .rcases dU.mp hx with y|y
   .exact kd.ms x y
   .rw[dv.mp y];exact k.cr
 | engaged z=>exact wm (V':=pV V1 (.over i "engaged")) wf hc (.inr rfl) (by decide) (rj (V:=qE V1 _) hc) wf.nx
 | barred=>exact wm (V':=pV V1 (.over i "barred")) wf hc (.inr rfl) (by decide) (rj (V:=qE V1 _) hc) wf.nx
 | ring ns=>exact wm (V':=pV V1 (.over i "ring")) wf hc (.inr rfl) (by decide) (rj (V:=qE V1 _) hc) wf.nx
def QJ{V:qd}{i:Nat}{k:pk}(ok:qV l)(wf:zc l V (some i))(hk:V.calls[i]?=some k):WF l (qu V (uF l V i)):=by
 have XQ:=wf.ok i k hk;unfold uF;rw[hk];dsimp only[Option.elim];obtain⟨z,hz⟩:∃z,k.way.getLast?=some z:=by
  cases e:k.way.getLast? with
  | none=>exact absurd (gg.mp e) XQ.wy.1
  | some z=>exact⟨z,rfl⟩
 rw[show k.way.getLastD Str.empty=z by rw[gH,hz];rfl];have ro:wN l V k.cr (l.nm.length+1) [] (ui l V k.cr z k.way.dropLast):=xh ok _ _ _ _ (XQ.wy.2 z (ia hz)) λx hx=>XQ.wy.2 x (ib _ hx);generalize ui l V k.cr z k.way.dropLast=R at ro;obtain⟨e,st⟩:=R;have snm:∀s∈st,s.1∈l.nm:=λs hs=>(ro.nm s hs).elim (λh=>by cases h) id;have w1:=BQ i st none wf snm;have XH:=uy i st none V;rw[rc,rc];dsimp only;have Xa:∀V1:qd,zc l V1 (some i)->tO V V1->WF l (qu V1 (rR l V i e)):=λV1 w s=>by
  rw[<-s.ends];obtain⟨c',e1,e2⟩:=s.at_ hk;have hcr:c'.cr=k.cr:=show c'.bare.cr=k.bare.cr by rw[e2]
  exact RC ok w s.core e1 (by rw[hcr];exact ro.e)
 cases e with
 | ring ns=>
  obtain⟨x,ns',rfl⟩:=gb (show ns≠[]from ro.e);cases hl:st.getLast? with
  | none=>rw[show sY i st (.ring (x::ns'))=[]by unfold sY;dsimp only;rw[hl];rfl];exact Xa _ w1 XH
  | some s0=>rw[show sY i st (.ring (x::ns'))=[.leg ⟨i,s0.1,x,s0.1⟩]by unfold sY;dsimp only;rw[hl];rfl];exact Xa _ (Hn (v:=⟨i,s0.1,x,s0.1⟩) w1 (ro.wy _ rfl x dG)) (XH.trans (zk _ _))
 | rings _ _=>exact Xa _ w1 XH
 | waits _=>exact Xa _ w1 XH
 | breaks _=>exact Xa _ w1 XH
 | engaged _=>exact Xa _ w1 XH
 | barred=>exact Xa _ w1 XH
def Ei{V:qd}{y z:Str}(wf:WF l V)(hy:y∈l.pn)(hz:z∈l.nm)(hi:Dl V y)(hf:tS l V y=true):zc l (qu V [.new V.calls.length y,.leg ⟨V.calls.length,y,z,y⟩]) (some V.calls.length):=by
 have e:(qu V [.new V.calls.length y,.leg ⟨V.calls.length,y,z,y⟩]).calls=V.calls++[(yO y).go z]:=by show(V.calls++[yO y]).modify V.calls.length _=_;rw[tH (c:=yO y) (by rw[eR (dg _),g9];rfl),kc _ _ (dg _),g9];rfl
 refine wf.add e ⟨.inl ⟨rfl,rfl,rfl,rfl,λ_=>rfl,(λh=>by cases h)⟩,hy,(λx h=>by cases h),(λx h=>by cases h),eG,eG,(λh=>by cases h),fB _ _,λx h=>by rw[dv.mp h];exact hz⟩ (λx h=>?_) (λx h=>?_) (λx=>?_) wf.nx
 .rw[(sD (c:=(yO y).go z) rfl).mp h];exact hi
 .rcases(sG (c:=(yO y).go z) rfl).mp h with g|g
  .rw[g];exact EG hf
  .cases g
 .cases q:((yO y).go z).mJ x with
  | false=>rfl
  | true=>exact absurd (rS.mp q).1 (show("rings":Str)≠"waits" by decide)
def HP{V:qd}{y z:Str}:∃k,(qu V [.new V.calls.length y,.leg ⟨V.calls.length,y,z,y⟩]).calls[V.calls.length]?=some k:=by
 have:V.calls.length<(qu V [.new V.calls.length y,.leg ⟨V.calls.length,y,z,y⟩]).calls.length:=by show V.calls.length<((V.calls++[yO y]).modify _ _).length;rw[eW,cW];exact fv _
 exact⟨_,cV this⟩
def Bf{V:qd}{i:Nat}{c:pk}{x y:Str}{fs:T0 Nat}(wf:WF l V)(hc:V.calls[i]?=some c)(hs:c.st="rings")(hy:y∈l.nm):zc l (qu V [.asks i x fs,.quiet i,.leg ⟨i,x,y,x⟩]) (some i):=by
 refine Hn (v:=⟨i,x,y,x⟩) ?_ hy;have k:=wf.ok i c hc;have w1:WF l (pV V (.asks i x fs)):=FP wf;have sh:c.ms=[]/\c.hd=none/\c.wd=none:=by
  rcases k.sh with g|⟨_,g|g|⟨_,g⟩|g⟩
  .exact⟨g.2.1,g.2.2.1,g.2.2.2.1⟩
  all_goals(rw[hs]at g;exact absurd g.1 (by decide))
 refine w1.set (i:=i) (c:=c) (c':=c.nC) (rj (V:=qE (pV V (.asks i x fs)) _) hc) hc (λj hj=>(Bk j hj).symm) ?_ (λx g=>.inl ?_) (λx g=>.inl ?_) (λx g=>?_) wf.nx
 .rw[fA];exact⟨.inl ⟨hs,sh.1,sh.2.1,sh.2.2,λ_=>rfl,(λh=>by cases h)⟩,k.cr,(λx h=>by cases h),k.ms,eG,k.mn,(λh=>by cases h),k.wy⟩
 .exact(sD hs).mpr ((sD (c:=c.nC) hs).mp g)
 .rcases(sG (c:=c.nC) hs).mp g with y|y
  .exact(sG hs).mpr (.inl y)
  .cases y
 .have:=(rS.mp g).1;rw[show c.nC.st="rings" from hs]at this;exact absurd this (by decide)
inductive Vk(l:pC)(V:qd)(i:Nat):List Nat->Prop
 | no:Vk l V i []
 | on (c:pk) (k:Nat) (r:List Nat) (b:Bool) (x y:Str) (n:Int):V.calls[i]?=some c->c.st="rings"->l.mD[k]?=some (b,.silent x y n)->c.way.getLast?=some x->y∈l.nm->Vk l V i (k::r)
def Fl{V:qd}(ok:qV l):Vk l V i (wX l V i):=by
 unfold wX;cases e:V.calls[i]? with
 | none=>exact .no
 | some c=>
  dsimp only[Option.elim];by_cases hs:(c.st=="rings")=true
  .rw[cZ hs];cases q:Ij l V (GW c)with
   | nil=>exact .no
   | cons k r=>
    obtain⟨⟨b,w⟩,e1,e2⟩:=E5 (i:=k) (by rw[q];exact dG);cases w with
    | silent x y n=>unfold GW at e2;rw[dQ,fh]at e2;exact .on c k r b x y n e (eq_of_beq hs) e1 e2.1 (BE ok (fm e1) (z:=Str.empty) rfl)
    | _=>cases e2
  .rw[cX hs];exact .no
def xP{l:pC}{V:qd}{i k:Nat}{r:T0 Nat}{b:Bool}{x y:Str}{n:Int}(h:l.mD[k]?=some (b,.silent x y n)):so l V i (k::r)=[.asks i x (k::r),.quiet i,.leg ⟨i,x,y,x⟩]++uF l (qu V [.asks i x (k::r),.quiet i,.leg ⟨i,x,y,x⟩]) i:=by unfold so;simp only[List.head?_cons,lQ,h]
def Bj{V:qd}{i:Nat}{c:pk}{x y:Str}{fs:T0 Nat}(h:V.calls[i]?=some c):(qu V [.asks i x fs,.quiet i,.leg ⟨i,x,y,x⟩]).calls[i]?=some (c.nC.go y):=by show((V.calls.modify i pk.nC).modify i _)[i]?=_;rw[iW,iW,h];simp
def Fy{V:qd}(ok:qV l)(wf:WF l V):WF l (qu V (so l V i (wX l V i))):=by
 have d:=Fl (V:=V) (i:=i) ok;generalize wX l V i=fs at d;cases d with
 | no=>exact wf
 | on c k r b x y n hc hs hk hw hy=>rw[xP hk,rc];exact QJ ok (Bf wf hc hs hy) (Bj hc)
theorem Fo(ok:qV l):∀(is:T0 Nat) {V:qd},WF l V->WF l (qu V (qR l is V))
 | [],_,wf=>wf
 | i::r,V,wf=>by unfold qR;rw[rc];exact Fo ok r (Fy ok wf)
theorem DN(l:pC)(i:Nat):∀(is:T0 Nat) (V:qd),qR l (is++[i]) V=qR l is V++so l (qu V (qR l is V)) i (wX l (qu V (qR l is V)) i)
 | [],V=>by show so l V i _++[]=[]++_;rw[eY];rfl
 | j::r,V=>by show so l V j _++qR l (r++[i]) _=(so l V j _++qR l r _)++_;rw[DN l i r,fk,show qR l (j::r) V=so l V j (wX l V j)++qR l r (qu V (so l V j (wX l V j)))from rfl,rc]
def tT{x y:Str}:y∈rC ss x↔y∈ss/\y≠x:=by unfold rC;rw[fG,gD,gp]
theorem xD{x:Str}:∀{ss:QQQ},ss.Nodup->x∈ss->(rC ss x).length+1=ss.length
 | [],_,h=>by cases h
 | y::r,nd,h=>by
  have nd:=dO.mp nd;unfold rC;rw[gJ];by_cases e:y=x
  .subst e;rw[show(!(y==y))=false by simp,cX (by decide),kD.mpr λz hz=>by
    have:z≠y:=λq=>nd.1 (q ▸ hz)
    simpa using this]
   rfl
  .have h:x∈r:=by
    rcases de.mp h with q|q
    .exact absurd q.symm e
    .exact q
   rw[cZ (by simpa using e)];have:=xD nd.2 h;unfold rC at this;rw[eh,eh,this]
def Px{V:qd}{i:Nat}{c:pk}{x:Str}(wf:WF l V)(hc:V.calls[i]?=some c)(hl:c.nv x=true):WF l (qu V (uW V x i)):=by
 have k:=wf.ok i c hc;unfold uW;rw[hc];dsimp only[Option.elim];by_cases h1:c.mQ x=true
 .rw[cZ h1];exact wm (V':=pV V (.over i "left")) wf hc (.inl rfl) (by decide) (rj (V:=qE V _) hc) wf.nx
 .rw[cX h1];have e1:(pV V (.leaves i x)).calls=V.calls.set i (c.drop x):=rj (V:=qE V _) hc;by_cases h2:hasS c.at_ x=true
  .rw[cZ h2];by_cases h3:rC c.at_ x=[]
   .rw[cZ h3];refine wm (V':=pV (pV V (.leaves i x)) (.over i "refused")) wf hc (.inl rfl) (by decide) (w:="refused") ?_ wf.nx;have h4:(pV V (.leaves i x)).calls[i]?=some (c.drop x):=by rw[e1,eJ (cU.mp hc).1]
    show(xg (qE (pV V (.leaves i x)) _) i _).calls=_;rw[rj (V:=qE (pV V (.leaves i x)) _) h4];show(pV V (.leaves i x)).calls.set i _=_;rw[e1,iR];rfl
   .rw[cX h3];have hs:c.st="rings"/\c.ms=[]/\c.hd=none/\c.wd=none:=by
     rcases k.sh with g|⟨_,g|g|⟨_,g⟩|g⟩
     .exact⟨g.1,g.2.1,g.2.2.1,g.2.2.2.1⟩
     .exfalso;have:=xD k.an (qN.mp h2);rw[g.2.2.2.2]at this;exact h3 (gm.mp (by omega))
     .rw[g.2.2.2.2]at h2;cases h2
     .rw[g.2.2.2.2.2]at h2;cases h2
     .rw[g.2.2.2.1]at h2;cases h2
    refine wf.set (V':=pV V (.leaves i x)) (c':=c.drop x) e1 hc (λ_ _=>rfl) ⟨.inl ⟨hs.1,by show rC c.ms x=[];rw[hs.2.1];rfl,hs.2.2.1,hs.2.2.2,(λh=>by cases h),λ_=>h3⟩,k.cr,λy hy=>k.at_ y (tT.mp hy).1,λy hy=>k.ms y (tT.mp hy).1,k.an.sublist fW,k.mn.sublist fW,λhy=>k.ca (tT.mp hy).1,k.wy⟩ (λy g=>?_) (λy g=>?_) (λy g=>?_) wf.nx
    .exact .inl ((sD hs.1).mpr ((sD (c:=c.drop x) hs.1).mp g))
    .refine .inl ((sG hs.1).mpr (((sG (c:=c.drop x) hs.1).mp g).imp id λh=>(tT.mp h).1))
    .have:=(rS.mp g).1;rw[show(c.drop x).st="rings" from hs.1]at this;exact absurd this (by decide)
  .rw[cX h2];by_cases h3:2<c.ms.length
   .rw[cZ h3];have hx:x∈c.ms:=by unfold pk.nv at hl;rw[dF.mpr h1,dF.mpr h2,fM,fM]at hl;exact qN.mp hl
    have hs:c.st="talks"/\c.ms.length=3/\c.hd=none/\c.wd=none/\c.at_=[]:=by
     rcases k.sh with g|⟨_,g|g|⟨_,g⟩|g⟩
     .rw[g.2.1]at h3;cases h3
     .rw[g.2.1]at h3;cases h3
     .exact⟨g.1,g.2.1.elim (λq=>by omega) id,g.2.2⟩
     .omega
     .rw[g.2.1]at h3;cases h3
    have dl:=xD k.mn hx;refine wf.set (V':=pV V (.leaves i x)) (c':=c.drop x) e1 hc (λ_ _=>rfl) ⟨.inr ⟨rfl,.inr (.inl ⟨hs.1,.inl (by show(rC c.ms x).length=2;omega),hs.2.2.1,hs.2.2.2.1,by show rC c.at_ x=[];rw[hs.2.2.2.2];rfl⟩)⟩,k.cr,λy hy=>k.at_ y (tT.mp hy).1,λy hy=>k.ms y (tT.mp hy).1,k.an.sublist fW,k.mn.sublist fW,λhy=>k.ca (tT.mp hy).1,k.wy⟩ (λy g=>?_) (λy g=>?_) (λy g=>?_) wf.nx
    .exact .inl ((tK hs.1).mpr (tT.mp ((tK (c:=c.drop x) hs.1).mp g)).1)
    .exact .inl ((sU (.inl hs.1)).mpr (tT.mp ((sU (c:=c.drop x) (.inl hs.1)).mp g)).1)
    .have:=(rS.mp g).1;rw[show(c.drop x).st="talks" from hs.1]at this;exact absurd this (by decide)
   .rw[cX h3];exact wm (V':=pV V (.over i "done")) wf hc (.inl rfl) (by decide) (rj (V:=qE V _) hc) wf.nx
def Kt{V:qd}{i:Nat}{c:pk}(wf:WF l V)(hc:V.calls[i]?=some c)(hx:hasS c.at_ x=true)(hi:Dl V x)(hf:c.mJ x=true->tS l V x=true):WF l (pV V (.talks i [c.cr,x])):=by
 have k:=wf.ok i c hc;have hx:=qN.mp hx;have Xt:c.cr≠x:=λq=>k.ca (q ▸ hx);have hs:(c.st="rings"\/c.st="waits")/\c.wd=none:=by
  rcases k.sh with g|⟨_,g|g|⟨_,g⟩|g⟩
  .exact⟨.inl g.1,g.2.2.2.1⟩
  .exact⟨.inr g.1,g.2.2.2.1⟩
  .rw[g.2.2.2.2]at hx;cases hx
  .rw[g.2.2.2.2.2]at hx;cases hx
  .rw[g.2.2.2.1]at hx;cases hx
 have ec:Bo c c.cr/\c.hasB c.cr=true:=by
  rcases hs.1 with g|g
  .exact⟨(sD g).mpr rfl,(sG g).mpr (.inl rfl)⟩
  .exact⟨(DO g).mpr rfl,(DI g).mpr rfl⟩
 refine wf.set (V':=pV V (.talks i [c.cr,x])) (c':=c.nA [c.cr,x]) (rj (V:=qE V _) hc) hc (λ_ _=>rfl) ⟨.inr ⟨rfl,.inr (.inl ⟨rfl,.inl rfl,rfl,hs.2,rfl⟩)⟩,k.cr,(λy h=>by cases h),(λy h=>?_),eG,?_,(λh=>by cases h),k.wy⟩ (λy g=>?_) (λy g=>?_) (λy g=>?_) wf.nx
 .rcases de.mp h with g|g
  .rw[g];exact k.cr
  .rw[dv.mp g];exact k.at_ x hx
 .exact dO.mpr ⟨λh=>Xt (dv.mp h),dO.mpr ⟨dD,eG⟩⟩
 .rcases de.mp ((tK (c:=c.nA [c.cr,x]) rfl).mp g)with h|h
  .rw[h];exact .inl ec.1
  .rw[dv.mp h];exact .inr hi
 .rcases de.mp ((sU (c:=c.nA [c.cr,x]) (.inl rfl)).mp g)with h|h
  .rw[h];exact .inl ec.2
  .rw[dv.mp h];rcases hs.1 with q|q
   .exact .inl ((sG q).mpr (.inr hx))
   .exact .inr (EG (hf (rS.mpr ⟨q,hx⟩)))
 .exact absurd (rS.mp g).1 (show("talks":Str)≠"waits" by decide)
def zJ{c:pk}{x:Str}:c.mS x=true↔c.st="talks"/\x∈c.ms/\c.ms.length=2:=by unfold pk.mS pk.mP;rw[dQ,dQ,fh,qN,fh,and_assoc]
def MH{c:pk}(k:vR l false c)(h:c.st="talks"):c.hd=none/\c.wd=none/\c.at_=[]:=by
 rcases k.sh with g|⟨_,g|g|⟨_,g⟩|g⟩
 .rw[h]at g;exact absurd g.1 (by decide)
 .rw[h]at g;exact absurd g.1 (by decide)
 .exact g.2.2
 .rw[h]at g;exact absurd g.1 (by decide)
 .rw[h]at g;exact absurd g.1 (by decide)
def Eh{c:pk}{x:Str}(k:vR l false c)(h:c.hd=some x):c.st="held"/\c.ms.length=2/\x∈c.ms/\c.wd=none/\c.at_=[]:=by
 rcases k.sh with g|⟨_,g|g|⟨y,g⟩|g⟩
 .rw[h]at g;cases g.2.2.1
 .rw[h]at g;cases g.2.2.1
 .rw[h]at g;cases g.2.2.1
 .have e:=g.2.2.1;rw[h]at e;cases e;exact⟨g.1,g.2.1,g.2.2.2⟩
 .rw[h]at g;cases g.2.2.1
def Qz{V:qd}{i:Nat}{c:pk}{x:Str}(wf:WF l V)(hc:V.calls[i]?=some c)(hx:c.mS x=true):WF l (pV V (.held i x)):=by
 have k:=wf.ok i c hc;obtain⟨h1,h2,h3⟩:=zJ.mp hx;obtain⟨s1,s2,s3⟩:=MH k h1;refine wf.set (V':=pV V (.held i x)) (c':=c.hold x) (rj (V:=qE V _) hc) hc (λ_ _=>rfl) ⟨.inr ⟨rfl,.inr (.inr (.inl ⟨x,rfl,h3,rfl,h2,s2,s3⟩))⟩,k.cr,k.at_,k.ms,k.an,k.mn,k.ca,k.wy⟩ (λy g=>.inl ?_) (λy g=>.inl ?_) (λy g=>?_) wf.nx
 .exact(tK h1).mpr ((BP (c:=c.hold x) rfl).mp g).1
 .exact(sU (.inl h1)).mpr ((sU (c:=c.hold x) (.inr rfl)).mp g)
 .exact absurd (rS.mp g).1 (show("held":Str)≠"waits" by decide)
def Qq{V:qd}{i:Nat}{c:pk}{x:Str}(wf:WF l V)(hc:V.calls[i]?=some c)(hx:c.hd=some x)(hi:Dl V x):WF l (pV V (.talks i c.ms)):=by
 have k:=wf.ok i c hc;obtain⟨h1,h2,h3,h4,h5⟩:=Eh k hx;refine wf.set (V':=pV V (.talks i c.ms)) (c':=c.nA c.ms) (rj (V:=qE V _) hc) hc (λ_ _=>rfl) ⟨.inr ⟨rfl,.inr (.inl ⟨rfl,.inl h2,rfl,h4,rfl⟩)⟩,k.cr,(λy h=>by cases h),k.ms,eG,k.mn,(λh=>by cases h),k.wy⟩ (λy g=>?_) (λy g=>.inl ?_) (λy g=>?_) wf.nx
 .have g:=(tK (c:=c.nA c.ms) rfl).mp g;by_cases e:y=x
  .rw[e];exact .inr hi
  .exact .inl ((BP h1).mpr ⟨g,λq=>e (df (q.symm.trans hx))⟩)
 .exact(sU (.inr h1)).mpr ((sU (c:=c.nA c.ms) (.inl rfl)).mp g)
 .exact absurd (rS.mp g).1 (show("talks":Str)≠"waits" by decide)
def D4{c:pk}{x:Str}(nd:c.ms.Nodup)(h2:c.ms.length=2)(hx:x∈c.ms):qw c x∈c.ms/\qw c x≠x:=by
 have dl:=xD nd hx;obtain⟨y,r,e⟩:=List.exists_cons_of_length_pos (show 0<(rC c.ms x).length by omega);have hm:y∈rC c.ms x:=by rw[e];exact dG
 unfold qw;rw[e];exact tT.mp hm
def FN{V:qd}{i j:Nat}{c d:pk}{w x:Str}(wf:WF l V)(hc:V.calls[i]?=some c)(hd:V.calls[j]?=some d)(h1:c.hd=some x)(h2:d.mS x=true):i≠j/\WF l (pV V (.merge i j (if (w=="hand")=true then[qw c x,qw d x]else[x,qw c x,qw d x]))):=by
 have k:=wf.ok i c hc;have kd:=wf.ok j d hd;obtain⟨c1,c2,c3,c4,c5⟩:=Eh k h1;obtain⟨d1,d2,d3⟩:=zJ.mp h2;obtain⟨a1,a2⟩:=D4 k.mn c2 c3;obtain⟨b1,b2⟩:=D4 kd.mn d3 d2;have X5:i≠j:=λq=>by subst q;rw[hc]at hd;cases hd;rw[c1]at d1;exact absurd d1 (by decide)
 refine⟨X5,?_⟩;have ea:Bo c (qw c x):=(BP c1).mpr ⟨a1,λq=>a2 (df (q.symm.trans h1))⟩;have ab:qw c x≠qw d x:=λq=>X5 (wf.un i j c d _ hc hd ea (by rw[q];exact(tK d1).mpr b1));generalize hms:(if (w=="hand")=true then[qw c x,qw d x]else[x,qw c x,qw d x])=ms;have mm:∀y∈ms,y=x\/y=qw c x\/y=qw d x:=λy hy=>by
  rw[<-hms]at hy;split at hy
  .rcases de.mp hy with g|g
   .exact .inr (.inl g)
   .exact .inr (.inr (dv.mp g))
  .rcases de.mp hy with g|g
   .exact .inl g
   .rcases de.mp g with g|g
    .exact .inr (.inl g)
    .exact .inr (.inr (dv.mp g))
 have n2:[qw c x,qw d x].Nodup:=dO.mpr ⟨λh=>ab (dv.mp h),dO.mpr ⟨dD,eG⟩⟩;refine GB (V':=pV V (.merge i j ms)) (ms:=ms) wf (.inl rfl) hc hd X5 ?_ wf.nx d1 ?_ ?_ (λy hy=>?_) (λy hy=>?_)
 .show(V.calls.modify i _).modify j _=_;rw[tH hc,tH (show(V.calls.set i _)[j]?=some d by rw[eN X5];exact hd)]
 .rw[<-hms];split
  .exact n2
  .refine dO.mpr ⟨λh=>?_,n2⟩;rcases de.mp h with g|g
   .exact a2 g.symm
   .exact b2 (dv.mp g).symm
 .rw[<-hms];split
  .exact .inl rfl
  .exact .inr rfl
 .rcases mm y hy with g|g|g
  .rw[g];exact .inl d2
  .rw[g];exact .inr ⟨ea,(sU (.inr c1)).mpr a1⟩
  .rw[g];exact .inl b1
 .rcases mm y hy with g|g|g
  .rw[g];exact k.ms x c3
  .rw[g];exact k.ms _ a1
  .rw[g];exact kd.ms _ b1
def Sw{V:qd}{i:Int}(h:yW V.calls.length i=true):∃c,V.calls[i.toNat]?=some c:=by unfold yW at h;rw[dQ,d6,d6]at h;exact⟨_,cV (by omega)⟩
def FM{V:qd}{b:Bool}(h:(if ((ur V x).isNone&&b)=true then some ("full":Str)else ur V x)=none):ur V x=none/\b=false:=by
 cases e:ur V x with
 | some w=>rw[e]at h;cases h
 | none=>
  rw[e]at h;cases b with
  | true=>cases h
  | false=>exact⟨rfl,rfl⟩
inductive D5(l:pC)(V:qd)(x:Str):Str->List Int->Prop
 | answer (i:Int) (c:pk):0<=i->V.calls[i.toNat]?=some c->hasS c.at_ x=true->Dl V x->(c.mJ x=true->tS l V x=true)->D5 l V x "answer" [i]
 | hang (i:Int) (c:pk):0<=i->V.calls[i.toNat]?=some c->c.nv x=true->D5 l V x "hang" [i]
 | hold (i:Int) (c:pk):0<=i->V.calls[i.toNat]?=some c->c.mS x=true->D5 l V x "hold" [i]
 | back (i:Int) (c:pk):0<=i->V.calls[i.toNat]?=some c->c.hd=some x->Dl V x->D5 l V x "back" [i]
 | two (w:Str) (i j:Int) (c d:pk):0<=i->0<=j->w="hand"\/w="join"->V.calls[i.toNat]?=some c->V.calls[j.toNat]?=some d->c.hd=some x->d.mS x=true->D5 l V x w [i,j]
def Fc{V:qd}{w x:Str}(f:(tI.num w x ns).m7)(h:vL l V (.num w x ns)=none):x∈l.pn/\D5 l V x w ns:=by
 have hp:hasS l.pn x=true:=by
  cases q:hasS l.pn x with
  | true=>rfl
  | false=>unfold vL at h;dsimp only at h;rw[cZ q]at h;cases h
 refine⟨qN.mp hp,?_⟩;unfold vL at h;dsimp only at h;rw[cX (by rw[hp];decide)]at h;unfold K5 at h;cases q1:ns.all (yW V.calls.length)with
 | false=>rw[cZ q1]at h;cases h
 | true=>
 rw[cX (by rw[q1];decide)]at h;cases q2:IR w x (tG V ns)with
 | false=>rw[cZ q2]at h;cases h
 | true=>
 rw[cX (by rw[q2];decide)]at h;have z:∀i∈ns,0<=i/\∃c,V.calls[i.toNat]?=some c:=λi hi=>by have g:=eC.mp q1 i hi;refine⟨?_,Sw g⟩;unfold yW at g;rw[dQ,d6]at g;exact g.1
 rcases f with⟨fw,fl⟩|⟨fw,fl⟩
 .match ns,fl with
  | [i],_=>
   obtain⟨hi,c,hc⟩:=z i dG;have ec:tG V [i]=[c]:=by unfold tG;rw[fV,hc];rfl
   rw[ec]at h q2;rcases fw with rfl|rfl|rfl|rfl
   .rw[cX (by decide)]at h;obtain⟨h1,h2⟩:=FM h;refine .answer i c hi hc q2 (Ej h1) λhw=>?_;have h2:(c.mJ x&&!(tS l V x))=false:=h2;rw[hw]at h2
    simpa using h2
   .exact .hang i c hi hc q2
   .exact .hold i c hi hc q2
   .rw[cX (by decide)]at h;exact .back i c hi hc (eq_of_beq q2) (Ej (FM h).1)
 .match ns,fl with
  | [i,j],_=>
   obtain⟨hi,c,hc⟩:=z i dG;obtain⟨hj,d,hd⟩:=z j (dA _ dG);have ec:tG V [i,j]=[c,d]:=by unfold tG;rw[fV,hc];dsimp only;rw[fV,hd];rfl
   rw[ec]at q2;have q3:((c.hd==some x)&&d.mS x)=true:=by rcases fw with rfl|rfl<;>exact q2
   rw[dQ]at q3;exact .two w i j c d hi hj fw hc hd (eq_of_beq q3.1) q3.2
def Bd{V:qd}{y z:Str}(h:vL l V (.call y z)=none):y∈l.pn/\z∈l.nm/\Dl V y/\tS l V y=true:=by
 unfold vL at h;dsimp only at h;cases q:hasS l.pn y with
 | false=>rw[cZ q]at h;cases h
 | true=>
 rw[cX (by rw[q];decide)]at h;unfold FY at h;cases q1:hasS l.nm z with
 | false=>rw[cZ q1]at h;cases h
 | true=>
 rw[cX (by rw[q1];decide)]at h;obtain⟨h1,h2⟩:=FM h;exact⟨qN.mp q,qN.mp q1,Ej h1,by simpa using h2⟩
def Q6{V:qd}{b:Bool}{i:Int}(h:vL l V (.sw b i)=none):0<=i/\i.toNat<V.on.length:=by
 unfold vL OI at h;dsimp only at h;cases q:yW V.on.length i with
 | false=>rw[cZ q]at h;cases h
 | true=>unfold yW at q;rw[dQ,d6,d6]at q;omega
def wW{V:qd}{w x:Str}{i:Nat}{c:pk}(h:V.calls[i]?=some c):AW V w x i=if (w=="answer")=true then .talks i [c.cr,x]else if (w=="hold")=true then .held i x else .talks i c.ms:=by unfold AW;rw[h];rfl
def FI{V:qd}{w x:Str}{i j:Nat}{c d:pk}(h:V.calls[i]?=some c)(g:V.calls[j]?=some d):DY V w x i j=.merge i j (if (w=="hand")=true then[qw c x,qw d x]else[x,qw c x,qw d x]):=by unfold DY;rw[h,g];rfl
def Q2{V:qd}{e:tI}(ok:qV l)(wf:WF l V)(f:e.m7)(h:vL l V e=none):WF l (qu V (uu l V e)):=by
 cases e with
 | call y z=>obtain⟨h1,h2,h3,h4⟩:=Bd h;obtain⟨k,hk⟩:=HP (V:=V) (y:=y) (z:=z);show WF l (qu V (_++uF l _ _));rw[rc];exact QJ ok (Ei wf h1 h2 h3 h4) hk
 | turn=>exact Fo ok _ (Bb wf)
 | sw b i=>exact UV wf
 | num w x ns=>
  obtain⟨_,n⟩:=Fc f h;cases n with
  | answer i c hi hc h1 h2 h3=>show WF l (pV V (AW V "answer" x i.toNat));rw[wW hc];exact Kt wf hc h1 h2 h3
  | hang i c hi hc h1=>exact Px wf hc h1
  | hold i c hi hc h1=>show WF l (pV V (AW V "hold" x i.toNat));rw[wW hc];exact Qz wf hc h1
  | back i c hi hc h1 h2=>show WF l (pV V (AW V "back" x i.toNat));rw[wW hc];exact Qq wf hc h1 h2
  | two _ i j c d hi hj hw hc hd h1 h2=>show WF l (pV V (DY V w x i.toNat j.toNat));rw[FI hc hd];exact(FN wf hc hd h1 h2).2
def Pa(a:Ad):qY:=λds M Q=>Nc λM0 b A V l c n x i k=>ds=[.ref b,.str x,.int ((i:Nat):Int)]/\tN a M0 M b A V l c n/\c<=1000000/\n<=7000000/\V.calls[i]?=some k/\∀M' A',tN a M0 M' b A' (qu V (uW V x i)) l c (n+2)->qJ A M A' M'->Q .mG M'
def Oo(a:Ad):qY:=λds M Q=>IF λA V l L k c=>ds=[.ref A.b,.ref (rm.p k)]/\Rd a M A V l/\rF a M L k c/\Q (vZ (Ij l V (GW c))) M
def PM(a:Ad):qY:=λds M Q=>Nc λM0 b A V l c n i k r=>ds=[.ref b,.int ((i:Nat):Int),vZ (k::r)]/\tN a M0 M b A V l c n/\c<=1000000/\n<=6900000/\WF l V/\Vk l V i (k::r)/\∀M' A',tN a M0 M' b A' (qu V (so l V i (k::r))) l c (n+33)->qJ A M A' M'->Q .mG M'
def PH(a:Ad):qY:=λds M Q=>To λM0 b A V l c n=>ds=[.ref b]/\tN a M0 M b A V l c n/\c<=10000/\n<=6000000/\WF l V/\∀M' A',tN a M0 M' b A' (qu V (xS l V)) l c (n+1+33*c)->qJ A M A' M'->Q .mG M'
def R8{a:Ad}{M:Mp}{c:pk}{v:Wi}{r:Addr}{Q:DK}(h:M r=some (.ins (v.cls a) v.nE))(hk:rF a M L k c)(q:Q (.bl (GW c v)) M):Mw a v [.ref r,.ref k.p] M Q:=by
 cases v with
 | silent x y n=>exact⟨r,L,k,c,rfl,h,hk,q⟩
 | _=>exact⟨_,_,rfl,q⟩
def OE:Fq P w K mg base 4 a.ba (Pa a):=by
 refine fq G.ba.toDG By (λr u=>⟨_,(oY (pH 3 By (pI (pq v0) U2))
 (o9 (pN (vv (pR U3 G.e.toCls G.V (Cf G) r (qb U1)))
 (o9 (pJ (pR v0 G.c.toCls G.k (qO G) r (qb (pK (qX pj U2 pj))))))
 (o9 (pN (pD u U1 (pq U3))
 (oY (pJ (pR v0 G.c.toCls G.k (qO G) r (qb (pK (qX pj U2 U1)))))
 (o9 (pN (pD u (pO qv rfl G.g ql (qb (pq U3))) pb)
 (o9 (pJ (pR v0 G.c.toCls G.k (qO G) r (qb (pK (qX pj U2 pj))))))
 pF)))
 (o9 (pN (pD u (pO qv rfl G.g ql (qb (pq U3))) pb)
 (o9 (pJ (pR v0 G.c.toCls G.k (qO G) r (qb (pK (qX pj U2 U1))))))
 (o9 (pJ (pR v0 G.c.toCls G.k (qO G) r (qb (pK (qX pj U2 pj))))))))))))),?_⟩)
 rintro ds M Q ⟨M0,b,A,V,l,cc,n,x,i,c,rfl,cu,Zs,hn,hc,q⟩
 obtain⟨ka,ci⟩:=cu.call hc;obtain⟨ad,md,h1,h2,h3,h4,n1,n2⟩:=ci.cell;have hi:=(cU.mp hc).1;refine oZ cu.at_ (i' rfl (i' rfl (i' ci.bd.ca (i' (ra ci.e1) ?_))));refine oZ h1 ⟨rfl,_,⟨rfl,rfl⟩,_,ka,c,x,rfl,ci.cell,?_⟩;unfold uW at q;rw[hc]at q;dsimp only[Option.elim]at q;have over:∀(w0:Str),(∀M' A',tN a M0 M' b A' (qu V [.over i w0]) l cc (n+2)->qJ A M A' M'->Q .mG M')->∀(M1:Mp) (A1:sP),A1.b=A.b->qJ A M A1 M1->pG a M1 A1 (pV V (.over i w0))->∃W9,qp W9 M1/\Q .mG W9:=λw0 q M1 A1 eb st bd=>⟨M1,.refl,q M1 A1 ((cu.after (e:=.over i w0) hi eb st bd).mono (dg _) (by omega)) st⟩;refine qA (c:=c.mQ x) (λg=>?_) (λg=>?_)
 .rw[cZ g]at q;exact oZ cu.at_ ⟨rfl,_,⟨rfl,rfl⟩,oW rfl,b,A,V,.over i "left",rfl,cu.b,cu.bd,cu.lim Zs (by omega),hi,over "left" q⟩
 rw[cX g]at q;refine oZ h1 (i' rfl (i' h3 ⟨rfl,qo _,?_⟩));show if inD (.str x) (c.at_.map D.str)=true then _ else _
 rw[sr];refine qA (c:=hasS c.at_ x) (λg2=>?_) (λg2=>?_)
 .rw[cZ g2]at q;refine oZ cu.at_ ⟨rfl,_,⟨rfl,rfl⟩,oW rfl,b,A,V,.leaves i x,rfl,cu.b,cu.bd,cu.lim Zs (by omega),hi,λM1 A1 eb st bd=>?_⟩;have c1:=cu.after (e:=.leaves i x) hi eb st bd;have Zt:(pV V (.leaves i x)).calls=V.calls.set i (c.drop x):=rj (V:=qE V _) hc;have hc1:(pV V (.leaves i x)).calls[i]?=some (c.drop x):=by rw[Zt,eJ hi]
  obtain⟨ad',md',g1,Zo,g3,g4,_⟩:=c1.bd.cs i ka _ (st.2.2.1 i ka ci.e1) hc1;have le0:((((c.drop x).at_.map D.str).length:Int)==0)=decide (rC c.at_ x=[]):=by rw[cS,gi,fh,d6];show((rC c.at_ x).length:Int)=0↔_;rw[<-gm];omega
  refine oZ g1 (i' rfl (i' g3 ?_));refine qA (c:=(((c.drop x).at_.map D.str).length:Int)==0) (λg5=>?_) (λg5=>?_)
  .rw[le0,d6]at g5;rw[cZ g5]at q;have XW:i<(pV V (.leaves i x)).calls.length:=(cU.mp hc1).1;refine oZ c1.at_ ⟨rfl,_,⟨rfl,rfl⟩,oW rfl,b,A1,_,.over i "refused",rfl,c1.b,c1.bd,c1.lim Zs (by omega),XW,λM2 A2 eb2 Xo Ys=>?_⟩;exact⟨M2,.refl,q M2 A2 (c1.after (e:=.over i "refused") XW eb2 Xo Ys) (st.trans Xo)⟩
  .rw[le0,d6]at g5;rw[cX g5]at q;exact⟨M1,.refl,q M1 A1 (c1.mono (dg _) (by omega)) st⟩
 .rw[cX g2]at q;refine oZ h1 (i' rfl (i' h4 ?_));have lm:decide ((2:Int)<((c.ms.map D.str).length:Int))=decide (2<c.ms.length):=by rw[cS,gi,d6,d6];omega
  refine qA (c:=decide ((2:Int)<((c.ms.map D.str).length:Int))) (λg3=>?_) (λg3=>?_)
  .rw[lm,d6]at g3;rw[cZ g3]at q;refine oZ cu.at_ ⟨rfl,_,⟨rfl,rfl⟩,oW rfl,b,A,V,.leaves i x,rfl,cu.b,cu.bd,cu.lim Zs (by omega),hi,λM1 A1 eb st bd=>?_⟩;exact⟨M1,.refl,q M1 A1 ((cu.after (e:=.leaves i x) hi eb st bd).mono (dg _) (by omega)) st⟩
  .rw[lm,d6]at g3;rw[cX g3]at q;exact oZ cu.at_ ⟨rfl,_,⟨rfl,rfl⟩,oW rfl,b,A,V,.over i "done",rfl,cu.b,cu.bd,cu.lim Zs (by omega),hi,over "done" q⟩
def Pk:Fq P w K mg base 2 a.bb (Oo a):=by
 refine fq G.bb.toDG yj (λr u=>⟨_,(oY (pH 2 yj (pq (pq v0)))
 (o9 (pz (pT rZ rfl G.z rX (qb (qB rfl (yg (ix:=[none,none,some 2,some 1]) (N':=["i","on","wishes","call"])) (wK rfl G.bU (qb (pq v0))) (vI (n:=2) rfl (qK (qz 0) (qK (qz 1) uD))) (vP (W3.b3 (yA (vv U1) (xO (vv (FJ (R:=Gf a) (pI U2 v0) (TN G) (r.mono (by first|decide|omega)) (qb U3))))))) v0)))))),?_⟩)
 rintro ds M Q ⟨A,V,l,L,k,c,rfl,rd,hk,q⟩
 obtain⟨ph,gr,ws,Yz,pr,gd,rs,i1,i2,i3,i4,i5,i6,i7,i8⟩:=rd.pl;refine oZ rd.bd.at_ (i' rfl (oZ i1 (i' rfl ?_)));refine oZ rd.bd.at_ (i' rfl (i' rd.bd.on ?_));refine IT (rest:=[some (.ref ws),some (.ref k.p)]) rd.on rd.ok.w16 rd.bd.on (λi w0 ew y kk hkk=>?_) λp hp=>i' pA ⟨M,.new hp,q⟩;obtain⟨r,e1,e2⟩:=Bq i8 ew;exact i' i4 (i' e1 (oZ e2 ⟨by cases w0.2<;>rfl,_,⟨w0.2,rfl,rfl⟩,R8 e2 hk hkk⟩))
def Qe:Fq P w K mg base 10 a.bc (PM a):=by
 refine fq G.bc.toDG CF (λr u=>⟨_,(oY (pH 3 CF (Co (R:=MK a) (pI (pq (pq v0)) (pI U2 pb)) (Sk G) (r.mono (by first|decide|omega))))
 (oY (pJ (pR v0 G.c.toCls G.k (qO G) r (qb (pK (pW pj (qX U1 (pI U3 pb) U2))))))
 (oY (pJ (pR v0 G.c.toCls G.k (qO G) r (qb (pK (rN pj U1)))))
 (oY (pJ (pR v0 G.c.toCls G.k (qO G) r (qb (pK (pW pj (pW U1 (qX (pI U3 pb) (pI U3 pb) (pI U3 pb))))))))
 (o9 (pJ (pE (Jz G) r G.ae (rN v0 U1)))))))),?_⟩)
 rintro ds M Q ⟨M0,b,A,V,l,c,n,i,k,r,rfl,cu,hc,hn,wf,du,q⟩
 obtain⟨ph,gr,ws,Yz,pr,gd,rs,i1,i2,i3,i4,i5,i6,i7,i8⟩:=cu.pl;cases du with
 | on k0 _ _ b0 x y m hk hs hw hl hy=>
  have hi:=(cU.mp hk).1;rw[xP hw]at q;rw[rc]at q;obtain⟨r0,e1,e2⟩:=Bq i8 hw;refine oZ cu.at_ (i' rfl (oZ i1 (i' rfl (i' (zj _ _) (i' i4 (i' e1 (oZ e2 ⟨rfl,_,⟨⟨.silent x y m,rfl⟩,rfl⟩,r0,.silent x y m,rfl,e2,?_⟩)))))));refine oZ cu.at_ ⟨rfl,_,⟨rfl,rfl⟩,oW rfl,b,A,V,.asks i x (k::r),rfl,cu.b,cu.bd,cu.lim hc (by omega),trivial,λM1 A1 eb1 Xz bd1=>?_⟩;have c1:=cu.after (e:=.asks i x (k::r)) trivial eb1 Xz bd1;refine oZ c1.at_ ⟨rfl,_,⟨rfl,rfl⟩,oW rfl,b,A1,_,.quiet i,rfl,c1.b,c1.bd,c1.lim hc (by omega),hi,λM2 A2 eb2 Xo Ys=>?_⟩;have c2:=c1.after (e:=.quiet i) hi eb2 Xo Ys;have X1:i<(pV (pV V (.asks i x (k::r))) (.quiet i)).calls.length:=by show i<(V.calls.modify i pk.nC).length;rw[eW];exact hi
  refine oZ c2.at_ ⟨rfl,_,⟨rfl,rfl⟩,oW rfl,b,A2,_,.leg ⟨i,x,y,x⟩,rfl,c2.b,c2.bd,c2.lim hc (by omega),X1,λM3 A3 eb3 X2 bd3=>?_⟩;have c3:=c2.after (e:=.leg ⟨i,x,y,x⟩) X1 eb3 X2 bd3;exact⟨M0,b,A3,_,l,c,n+3,i,_,rfl,c3,hc,by omega,Bf wf hk hs hy,Bj hk,λM4 A4 c4 st4=>⟨M4,.refl,q M4 A4 (c4.mono (dg _) (by omega)) (Xz.trans (Xo.trans (X2.trans st4)))⟩⟩
def Pq:Fq P w K mg base 11 a.bd (PH a):=by
 refine fq G.bd.toDG tJ (λr u=>⟨_,(oY (pJ (pR v0 G.c.toCls G.k (qO G) r (qb (pK (qb pj)))))
 (o9 (uM fu rfl (wK rfl G.bU (qb (pT su rfl G.r sj (qb (pq v0))))) (vI (n:=2) rfl (qK (sH 1 tJ) (qK (sH 2 tJ) uD)))
 (o9 (pN (pD u (pq U2) pj)
 (oY (pH 3 tJ (pE (Pk G) r G.bb (rN v0 U2)))
 (o9 (pN (pD u (pO qv rfl G.g ql (qb U3)) pb)
 (o9 (pJ (pE (Qe G) r G.bc (qX v0 U1 U3))))
 pF)))
 pF))))),?_⟩)
 rintro ds M Q ⟨M0,b,A,V,l,c,n,rfl,cu,hc,hn,wf,q⟩
 refine oZ cu.at_ ⟨rfl,_,⟨rfl,rfl⟩,oW rfl,b,A,V,.turn,rfl,cu.b,cu.bd,cu.lim (by omega) (by omega),trivial,λM1 A1 eb st bd=>?_⟩;have c1:=cu.after (e:=.turn) trivial eb st bd;have wf1:=Bb wf;have lv:(pV V .turn).calls.length=V.calls.length:=cS ..;have ev:xS l V=.turn::qR l (List.range V.calls.length) (pV V .turn):=rfl;rw[ev,<-lv]at q;have q:∀M' A',tN a M0 M' b A' (qu (pV V .turn) (qR l (List.range (pV V .turn).calls.length) (pV V .turn))) l c (n+1+33*c)->qJ A M A' M'->Q .mG M':=q;have c1:tN a M0 M1 b A1 (pV V .turn) l c (n+1):=c1;generalize pV V .turn=V1 at c1 wf1 q bd;refine oZ c1.at_ (i' rfl (i' c1.bd.ca λr hr=>i' pA ?_));have t:=qp.new (c:=.lst (A1.cs.map λk=>D.ref k.p)) hr;have lr:=@pA M1 r (A1.cs.map λk=>D.ref k.p);have nf:=c1.bd.nQ hr;have c2:=c1.sub t;have cl:V1.calls.length<=c:=c1.sz.ca;generalize pB M1 r (.lst (A1.cs.map λk=>D.ref k.p))=M2 at t lr c2 ⊢;refine wG (ut 0 (A1.cs.map λk=>D.ref k.p)) (λpre U M'=>(∃A',tN a M0 M' b A' (qu V1 (qR l (List.range pre.length) V1)) l c (n+1+33*pre.length)/\qJ A1 M2 A' M')/\∃y1 y2 y3,U=[some (.ref b),y1,y2,y3]) (λpre U M' j=>?_) _ [] _ _ rfl ⟨⟨A1,c2,.refl⟩,none,none,none,rfl⟩ ?_ ?_
 .obtain⟨⟨A',c3,X2⟩,_⟩:=j;exact rM (X2.1 r _ nf (pU lr))
 .rintro pre d post e U M' ⟨⟨A',c3,X2⟩,y1,y2,y3,rfl⟩ nx Xj
  rw[cW,dN,iS,DN,rc]at Xj;have wf3:=Fo cu.ok (List.range pre.length) wf1;generalize qu V1 (qR l (List.range pre.length) V1)=V3 at c3 wf3 Xj;obtain⟨x,hx,rfl⟩:=Jo e;rw[dz]at hx;cases ek:A1.cs[pre.length]? with
  | none=>rw[ek]at hx;cases hx
  | some k=>
   rw[ek]at hx;have hx:D.ref k.p=x:=df hx;subst hx;have hp:pre.length<c:=by have:=(cU.mp ek).1;rw[c1.bd.len]at this;omega
   have ek3:=X2.2.2.1 _ k ek;have hi:pre.length<V3.calls.length:=by rw[<-c3.bd.len];exact(cU.mp ek3).1
   have ec:V3.calls[pre.length]?=some V3.calls[pre.length]:=cV hi;generalize V3.calls[pre.length]=cv at ec;have ca:=c3.bd.cs _ k cv ek3 ec;obtain⟨ad,md,g1,_⟩:=ca;refine⟨rfl,oZ g1 (i' rfl ?_)⟩;have hdv:wX l V3 pre.length=if (cv.st=="rings")=true then Ij l V3 (GW cv)else[]:=by unfold wX;rw[ec];rfl
   have mG:wX l V3 pre.length=[]->∀y1' y2' y3',nx [some (.ref b),y1',y2',y3'] M':=λh0 y1' y2' y3'=>Xj _ _ ⟨⟨A',by rw[h0];exact c3.mono (dg _) (by omega),X2⟩,_,_,_,rfl⟩;have du:=Fl (V:=V3) (i:=pre.length) cu.ok;refine qA (c:=cv.st=="rings") (λg=>?_) (λg=>mG (by rw[hdv,cX g]) _ _ _);rw[cZ g]at hdv;refine⟨A',V3,l,_,k,cv,by rw[c3.b],c3.rd (by omega) wf3,c3.bd.cs _ k cv ek3 ec,?_⟩;rw[<-hdv];cases hdq:wX l V3 pre.length with
   | nil=>exact mG hdq _ _ _
   | cons k0 r0=>rw[hdq]at du Xj;refine AF (dS (by rw[cS];show(0:Int)<((k0::r0).length:Nat);rw[eh];omega)) ?_;exact⟨M0,b,A',V3,l,c,_,pre.length,k0,r0,rfl,c3,by omega,by omega,wf3,du,λM4 A4 c4 st4=>Xj _ _ ⟨⟨A4,c4.mono (dg _) (by omega),X2.trans st4⟩,_,_,_,rfl⟩⟩
 .rintro U M' ⟨⟨A',c3,X2⟩,y1,y2,y3,rfl⟩
  have hl:(ut 0 (A1.cs.map λk=>D.ref k.p)).length=V1.calls.length:=by rw[uZ,cS,c1.bd.len]
  rw[hl]at c3;exact⟨M',.refl,q M' A' (c3.mono (dg _) (by omega)) (st.trans ((qJ.sub t).trans X2))⟩
inductive QQ(l:pC)(V:qd):tI->Ev->Prop
 | sw (b:Bool) (i:Nat):i<V.on.length->QQ l V (.sw b (i:Nat)) (.sw b i)
 | answer (x:Str) (i:Nat) (c:pk):V.calls[i]?=some c->QQ l V (.num "answer" x [(i:Nat)]) (.talks i [c.cr,x])
 | hold (x:Str) (i:Nat) (c:pk):V.calls[i]?=some c->QQ l V (.num "hold" x [(i:Nat)]) (.held i x)
 | back (x:Str) (i:Nat) (c:pk):V.calls[i]?=some c->QQ l V (.num "back" x [(i:Nat)]) (.talks i c.ms)
 | two (w x:Str) (i j:Nat) (c d:pk):i≠j->w="hand"\/w="join"->V.calls[i]?=some c->V.calls[j]?=some d->rC c.ms x≠[]->rC d.ms x≠[]->QQ l V (.num w x [(i:Nat),(j:Nat)]) (.merge i j (if (w=="hand")=true then[qw c x,qw d x]else[x,qw c x,qw d x]))
def Gr(a:Ad):qY:=λds M Q=>F0 λA V l e ev=>ds=[.ref A.b,tI.d e]/\Rd a M A V l/\QQ l V e ev/\Q ev.d M
def RM(a:Ad):qY:=λds M Q=>Tg λM0 b A V l c n e=>ds=[.ref b,tI.d e]/\tN a M0 M b A V l c n/\c<10000/\n<=5000000/\WF l V/\e.m7/\vL l V e=none/\∀M' A',tN a M0 M' b A' (qu V (uu l V e)) l (c+1) (n+40+33*c)->qJ A M A' M'->Q .mG M'
def WY(a:Ad)(M0 M:Mp)(b:Addr)(A:sP)(V:qd)(l:pC)(c n:Nat)(e:tI)(Q:DK):Prop:=vL l V e=none->∀M' A' r,tN a M0 M' b A' (qu V (uu l V e)) l (c+1) (n+40+33*c)->qJ A M A' M'->M' r=none->Q (.ref r) (pB M' r (.lst ((uu l V e).map Ev.d)))
def Uv(a:Ad):Hd:=λds M Q R=>Tg λM0 b A V l c n e=>ds=[.ref b,tI.d e]/\tN a M0 M b A V l c n/\c<10000/\n<=5000000/\WF l V/\e.m7/\WY a M0 M b A V l c n e Q/\(∀w,vL l V e=some w->R a.H (some ("word",.str w)) M)
def Rd.call{V:qd}(rd:Rd a M A V l){i:Nat}{c:pk}(e:V.calls[i]?=some c):∃k,A.cs[i]?=some k/\rF a M (A.lists++V.fo) k c:=by
 have hi:i<A.cs.length:=by rw[rd.bd.len];exact(cU.mp e).1
 exact⟨A.cs[i],cV hi,rd.bd.cs i _ c (cV hi) e⟩
def yC{i:Int}(h:0<=i):∃m:Nat,i=(m:Int):=eA h
def I9{c:pk}{x:Str}(nd:c.ms.Nodup)(h2:c.ms.length=2)(hx:x∈c.ms):rC c.ms x≠[]:=λz=>by have:=xD nd hx;rw[z]at this;simp only[dM]at this;omega
def NH:Fq P w K mg base 2 a.be (Gr a):=by
 refine fq G.be.toDG tz (λr u=>⟨_,(oY (pH 2 tz (pI U1 pb))
 (oY (pN (pD u U2 (pK (rN pj pj)))
 (o9 (pz (pK (rN U2 (pI U1 pb)))))
 pF)
 (oY (pH 3 tz (pI U1 pb))
 (oY (pH 4 tz (pI U1 pb))
 (oY (pH 5 tz (pI (pq v0) v4))
 (oY (pN (pD u U2 pj)
 (o9 (pz (pK (qX pj v4 (pK (rN (pq v5) U3))))))
 pF)
 (oY (pN (pD u U2 pj)
 (o9 (pz (pK (qX pj v4 U3))))
 pF)
 (oY (pN (pD u U2 pj)
 (o9 (pz (pK (qX pj v4 (pT rZ rfl G.z rX (qb (pq v5)))))))
 pF)
 (oY (pH 6 tz (pI U1 pb))
 (oY (pH 7 tz (pK (rN (pR v5 G.e.toCls G.ax (G5 G) r (qb U3)) (pR (pI (pq v0) v6) G.e.toCls G.ax (G5 G) r (qb U3)))))
 (oY (pN (pD u U2 pj)
 (o9 (pz (pK (pW pj (qX v4 v6 v7)))))
 pF)
 (o9 (pz (pK (pW pj (qX v4 v6 (pS (pK (qb U3)) v7))))))))))))))))),?_⟩)
 rintro ds M Q ⟨A,V,l,e,ev,rfl,rd,sg,q⟩
 cases sg with
 | sw b i hi=>
  cases b with
  | true=>exact⟨oW rfl,rfl,rfl,oW rfl,M,.refl,q⟩
  | false=>exact⟨oW rfl,rfl,rfl,oW rfl,M,.refl,q⟩
 | answer x i c hc=>obtain⟨k,ek,ca⟩:=rd.call hc;obtain⟨ad,md,h1,h2,h3,h4,n1,n2⟩:=ca;refine⟨oW rfl,rfl,rfl,?_⟩;refine oZ rd.bd.at_ (i' rfl (i' rfl (i' rd.bd.ca (i' (ra ek) ?_))));exact oZ h1 (i' rfl ⟨oW rfl,oW rfl,M,.refl,q⟩)
 | hold x i c hc=>obtain⟨k,ek,ca⟩:=rd.call hc;refine⟨oW rfl,rfl,rfl,?_⟩;refine oZ rd.bd.at_ (i' rfl (i' rfl (i' rd.bd.ca (i' (ra ek) ?_))));exact⟨oW rfl,M,.refl,q⟩
 | back x i c hc=>obtain⟨k,ek,ca⟩:=rd.call hc;obtain⟨ad,md,h1,h2,h3,h4,n1,n2⟩:=ca;refine⟨oW rfl,rfl,rfl,?_⟩;refine oZ rd.bd.at_ (i' rfl (i' rfl (i' rd.bd.ca (i' (ra ek) ?_))));exact oZ h1 (i' rfl (i' h4 ⟨oW rfl,M,.refl,q⟩))
 | two wd x i j c d X5 hw hc hd nc nd=>
  obtain⟨k,ek,ca⟩:=rd.call hc;obtain⟨k',ek',ca'⟩:=rd.call hd;have ca0:=ca;have ca1:=ca';obtain⟨ad,md,h1,h2,h3,h4,n1,n2⟩:=ca0;obtain⟨ad',md',f1,_⟩:=ca1;obtain⟨y1,r1,e1⟩:=gb nc;obtain⟨y2,r2,e2⟩:=gb nd;have o1:qw c x=y1:=by unfold qw;rw[e1];rfl
  have o2:qw d x=y2:=by unfold qw;rw[e2];rfl
  rw[o1,o2]at q;rcases hw with rfl|rfl
  .refine⟨oW rfl,rfl,rfl,?_⟩;refine oZ rd.bd.at_ (i' rfl (i' rfl (i' rd.bd.ca (i' (ra ek) ?_))));refine oZ h1 ⟨rfl,_,⟨rfl,rfl⟩,_,k,c,x,y1,r1,rfl,ca,(rd.ms c (qG hc)).2,e1,?_⟩;refine oZ rd.bd.at_ (i' rfl (i' rfl (i' rd.bd.ca (i' (ra ek') ?_))));refine oZ f1 ⟨rfl,_,⟨rfl,rfl⟩,_,k',d,x,y2,r2,rfl,ca',(rd.ms d (qG hd)).2,e2,?_⟩;exact⟨oW rfl,oW rfl,M,.refl,q⟩
  .refine⟨oW rfl,rfl,rfl,?_⟩;refine oZ rd.bd.at_ (i' rfl (i' rfl (i' rd.bd.ca (i' (ra ek) ?_))));refine oZ h1 ⟨rfl,_,⟨rfl,rfl⟩,_,k,c,x,y1,r1,rfl,ca,(rd.ms c (qG hc)).2,e1,?_⟩;refine oZ rd.bd.at_ (i' rfl (i' rfl (i' rd.bd.ca (i' (ra ek') ?_))));refine oZ f1 ⟨rfl,_,⟨rfl,rfl⟩,_,k',d,x,y2,r2,rfl,ca',(rd.ms d (qG hd)).2,e2,?_⟩;exact⟨oW rfl,oW rfl,fB _ _,by show 1+2<=sizeLine;have hz:=dH;omega,oW rfl,M,.refl,q⟩
def S0:Fq P w K mg base 12 a.bf (RM a):=by
 refine fq G.bf.toDG LL (λr u=>⟨_,(oY (pH 2 LL (pI U1 pb))
 (o9 (pN (pD u U2 pj)
 (o9 (pJ (pE (Mo G) r G.a9 (qX v0 (pI U1 pb) (pI U1 pb)))))
 (o9 (pN (pD u U2 pj)
 (o9 (pJ (pE (OE G) r G.ba (qX v0 (pI U1 pb) (pI U1 pb)))))
 (o9 (pN (pD u U2 pj)
 (o9 (pJ (pE (Pq G) r G.bd (qb v0))))
 (o9 (pJ (pR v0 G.c.toCls G.k (qO G) r (qb (pE (NH G) r G.be (rN v0 U1))))))))))))),?_⟩)
 rintro ds M Q ⟨M0,b,A,V,l,c,n,e,rfl,cu,hc,hn,wf,hf,hr,q⟩
 have rd:=cu.rd (by omega) wf;have one:∀(ev:Ev),QQ l V e ev->uu l V e=[ev]->ev.ok V->ev.nw=0->Ah (M b) λC fs'=>fs'.lookup ("apply":Str)=none/\∃sp,(C=a.c/\sp=vO a)/\Gr a [.ref b,e.d] M λd M1=>sp [.ref b,d] M1 λ_ M'=>∃W9,qp W9 M'/\Q .mG W9:=λev sg he ok h0=>by refine oZ cu.at_ ⟨rfl,_,⟨rfl,rfl⟩,A,V,l,e,ev,by rw[cu.b],rd,sg,b,A,V,ev,rfl,cu.b,cu.bd,cu.lim (by omega) (by omega),ok,λM1 A1 eb st bd=>?_⟩;rw[he]at q;have c1:=cu.after ok eb st bd;rw[h0]at c1;exact⟨M1,.refl,q M1 A1 (c1.mono (by omega) (by omega)) st⟩
 cases e with
 | call y z=>obtain⟨h1,h2,h3,h4⟩:=Bd hr;exact⟨M0,b,A,V,l,c,n,y,z,rfl,cu,by omega,by omega,Ei wf h1 h2 h3 h4,λM' A' c1 st=>⟨M',.refl,q M' A' (c1.mono (by omega) (by omega)) st⟩⟩
 | turn=>exact⟨M0,b,A,V,l,c,n,rfl,cu,by omega,by omega,wf,λM' A' c1 st=>⟨M',.refl,q M' A' (c1.mono (by omega) (by omega)) st⟩⟩
 | sw b0 i=>
  obtain⟨h1,h2⟩:=Q6 hr;obtain⟨i,rfl⟩:=yC h1;cases b0 with
  | true=>exact one (.sw true i) (.sw true i h2) rfl h2 rfl
  | false=>exact one (.sw false i) (.sw false i h2) rfl h2 rfl
 | num wd x ns=>
  obtain⟨hx,no⟩:=Fc hf hr;cases no with
  | answer i c0 hi hc0 h1 h2 h3=>obtain⟨i,rfl⟩:=yC hi;have lt:=(cU.mp hc0).1;exact one (.talks i [c0.cr,x]) (.answer x i c0 hc0) (eO (λev=>[ev]) (wW hc0)) ⟨lt,by show 2<=100;decide⟩ rfl
  | hang i c0 hi hc0 h1=>obtain⟨i,rfl⟩:=yC hi;exact⟨M0,b,A,V,l,c,n,x,i,c0,rfl,cu,by omega,by omega,hc0,λM' A' c1 st=>⟨M',.refl,q M' A' (c1.mono (by omega) (by omega)) st⟩⟩
  | hold i c0 hi hc0 h1=>obtain⟨i,rfl⟩:=yC hi;have lt:=(cU.mp hc0).1;exact one (.held i x) (.hold x i c0 hc0) (eO (λev=>[ev]) (wW hc0)) lt rfl
  | back i c0 hi hc0 h1 h2=>obtain⟨i,rfl⟩:=yC hi;have lt:=(cU.mp hc0).1;exact one (.talks i c0.ms) (.back x i c0 hc0) (eO (λev=>[ev]) (wW hc0)) ⟨lt,(cu.sz.cs c0 (qG hc0)).2.2⟩ rfl
  | two _ i j c0 d0 hi hj hw hc0 hd0 h1 h2=>
   obtain⟨i,rfl⟩:=yC hi;obtain⟨j,rfl⟩:=yC hj;have lt:=(cU.mp hc0).1;have lt':=(cU.mp hd0).1;have X5:=(FN (w:=wd) wf hc0 hd0 h1 h2).1;have k0:=wf.ok _ c0 hc0;have k1:=wf.ok _ d0 hd0;obtain⟨_,u2,u3,_⟩:=Eh k0 h1;obtain⟨_,v2,v3⟩:=zJ.mp h2;have sg:=QQ.two (l:=l) wd x i j c0 d0 X5 hw hc0 hd0 (I9 k0.mn u2 u3) (I9 k1.mn v3 v2);have ok:(Ev.merge i j (if (wd=="hand")=true then[qw c0 x,qw d0 x]else[x,qw c0 x,qw d0 x])).ok V:=⟨lt,lt',X5,by split;exact(by decide:2<=100);exact(by decide:3<=100)⟩;have he:uu l V (.num wd x [(i:Int),(j:Int)])=[.merge i j (if (wd=="hand")=true then[qw c0 x,qw d0 x]else[x,qw c0 x,qw d0 x])]:=eO (λev=>[ev]) (FI hc0 hd0);rcases hw with rfl|rfl
   .exact one _ sg he ok rfl
   .exact one _ sg he ok rfl
def JT:wZ P w K mg base (CB P w) 1 a.J.f a.J.d a.J.p (vW K "word"):=
 MZ G.J.toDG CO λXd A outer s H E=>Ep (P' (pv 0) (pv 1))
def Vb:VD P w K mg base 13 a.N (Uv a):=by
 refine U' G.N.toDG HL (by walk_at "m") (λ_ _ _ _ _ _ R hr hR=>⟨_,(oY (pH 2 HL (pE (Iq G) hr G.a4 (rN v0 U1)))
 (oY (pN (pD (WH hr) U2 rD)
 (o9 (Kk G.b4 (JT G) (hr.mono (by first|decide|omega)) G.J.b G.b5 G.J.at_ rfl G.bV hR (qb U2)))
 pF)
 (oY (pH 3 HL (pO qv rfl G.g ql (qb (pq v0))))
 (oY (pJ (pE (S0 G) hr G.bf (rN v0 U1)))
 (o9 (pz (rL (pq v0) (sO U3) sS))))))),?_⟩)
 .rintro ds M Q ⟨M0,b,A,V,l,c,n,e,rfl,cu,hc,hn,wf,hf,q,rr⟩
  refine⟨A,V,l,e,by rw[cu.b],cu.rd (by omega) wf,hf,?_⟩;cases er:vL l V e with
  | some w0=>exact⟨_,rfl,rr w0 er⟩
  | none=>
   refine oZ cu.at_ (i' rfl (i' cu.bd.lo ?_));refine⟨M0,b,A,V,l,c,n,e,rfl,cu,hc,hn,wf,hf,er,λM' A' c1 st=>?_⟩;refine oZ c1.at_ (i' rfl (i' c1.bd.lo λp hp=>?_));have hcut:L3.tL ((qu V (uu l V e)).log.map Ev.d) (some (((V.log.map Ev.d).length:Nat):Int)) none=(uu l V e).map Ev.d:=by rw[Ba,dP,Hu _ _ (by rw[cW];omega),List.drop_left]
   rw[hcut];exact⟨_,.refl,q er M' A' p c1 st hp⟩
def RD(a:Ad):qY:=λds M Q=>Tg λM0 b A V l c n e=>ds=[.ref b,tI.d e]/\tN a M0 M b A V l c n/\c<10000/\n<=5000000/\WF l V/\e.m7/\(vL l V e=none->∀M' A',tN a M0 M' b A' (qu V (uu l V e)) l (c+1) (n+40+33*c)->qJ A M A' M'->Q .mG M')/\(∀w,vL l V e=some w->Q (.str w) M)
def LD:Fq P w K mg base 14 a.aj (RD a):=by
 refine fq G.aj.toDG vd (λr u=>⟨_,(oY (pH 2 vd rD)
 (oY (Ql (ix:=2) (i:=3) (My (Vb G) (r.mono (by first|decide|omega)) rfl G.N.mg G.N.toDG.kp G.N.b (rN v0 U1)) rfl rfl rfl G.bV vd.nd rfl rfl rfl rfl (by decide))
 (o9 (pz U2)))),?_⟩)
 rintro ds M Q ⟨M0,b,A,V,l,c,n,e,rfl,cu,hc,hn,wf,hf,q,qf⟩
 refine⟨λC y M'=>C=a.H/\M=M'/\∃w,vL l V e=some w/\y=some (("word":Str),D.str w),?_,?_⟩
 .exact⟨M0,b,A,V,l,c,n,e,rfl,cu,hc,hn,wf,hf,λh M' A' r c1 st hm=>⟨M',.new hm,q h M' A' c1 st⟩,λw h=>⟨rfl,rfl,w,h,rfl⟩⟩
 .rintro C y M' ⟨rfl,rfl,w,h,rfl⟩
  exact⟨G.b7,G.b6,w,rfl,M,.refl,qf w h⟩
noncomputable def vA(g:uk):Bool:=g.2.1==("turns":Str)
noncomputable def uX(l:pC):T0 (Str×Int):=(l.groups.filter vA).map λg=>(g.1,0)
noncomputable def V0(p:Addr)(h:Int)(l:pC)(F:QXQ):qd:=⟨p,h,0,[],[],uX l,l.mD.map (·.1),[],F⟩
def Ek(a:Ad):qY:=λds M Q=>F0 λb p h F (l:pC)=>ds=[.ref b,.ref p,.int h]/\M b=some (.ins a.c [])/\se a M p l/\qV l/\p≠b/\(∀x∈F,∃c,M x=some c)/\∀M' A,A.b=b->sd b M M'->(∀x∈A.foot,x=b\/M x=none)->pG a M' A (V0 p h l F)->Q .mG M'
noncomputable def LH(g:D):Bool:=match g with
 | .tup (_::.str m::_)=>m=="turns"
 | _=>false
noncomputable def QS(d:D):D:=.tup [Dg d,.int 0]
def Ig(gs:List uk):((gs.map qL).filter LH).map QS=(gs.filter vA).map λg=>D.tup [.str g.1,.int 0]:=by rw[gQ,dX];rfl
def KO(l:pC):((l.groups.filter vA).map λg=>((Sum.inr g.1:qS),D.int 0))=tE (uX l):=by unfold tE uX;rw[dX];rfl
noncomputable def bF(p:Addr)(h:Int)(ca le nx YE:Addr)(k:Nat):T0 (Str×D):=List.take (α:=Str×D) k [("plan",.ref p),("hour",.int h),("turn",.int 0),("calls",.ref ca),("legs",.ref le),("nexts",.ref nx),("on",.ref YE)]
def GZ:Fq P w K mg base 1 a.R (Ek a):=by
 refine fq G.R.toDG Ds (λr u=>⟨_,(oY (pY v0 U1)
 (oY (pY v0 U2)
 (oY (pY v0 pb)
 (oY (pY v0 (qT sV))
 (oY (pY v0 (qT sV))
 (oY (pY v0 (pT (EB rfl) rfl G.bT Fb (qb (qB rfl (yg (ix:=[none]) (N':=["group"])) (qF (pq U1)) (qz 0) (vP (pD u (pI v0 pb) pj)) (pK (rN (pI v0 pb) pb))))))
 (oY (pY v0 (pT su rfl G.r sj (qb (pq U1))))
 (o9 (pY v0 (qT sV)))))))))),?_⟩)
 rintro ds M Q ⟨b,p,h,F,l,rfl,hb,⟨ph,gr,ws,on,pr,gd,rs,i1,i2,i3,i4,i5,i6,i7,i8⟩,ok,nbp,hF,q⟩
 have hz:=dH;have l2:=ok.g3;refine oZ hb ⟨(G.E "plan" rfl),by show 0<1000;decide,?_⟩;have k1:sd b M (pB M b (.ins a.c [("plan",.ref p)])):=.put;have b1:pB M b (.ins a.c [("plan",.ref p)]) b=some (.ins a.c [("plan",.ref p)]):=pL;show uq _ _ _ _ (pB M b (.ins a.c [("plan",.ref p)]));generalize pB M b (.ins a.c [("plan",.ref p)])=N1 at k1 b1 ⊢;refine oZ b1 ⟨(G.E "hour" rfl),by show 1<1000;decide,?_⟩;have k2:=k1.trans (sd.put (p:=b) (c:=.ins a.c [("plan",.ref p),("hour",.int h)]));have b2:pB N1 b (.ins a.c [("plan",.ref p),("hour",.int h)]) b=some (.ins a.c [("plan",.ref p),("hour",.int h)]):=pL;show uq _ _ _ _ (pB N1 b (.ins a.c [("plan",.ref p),("hour",.int h)]));generalize pB N1 b (.ins a.c [("plan",.ref p),("hour",.int h)])=N2 at k2 b2 ⊢;refine oZ b2 ⟨(G.E "turn" rfl),by show 2<1000;decide,?_⟩;have k3:=k2.trans (sd.put (p:=b) (c:=.ins a.c (bF p h 0 0 0 0 3)));have b3:pB N2 b (.ins a.c (bF p h 0 0 0 0 3)) b=some (.ins a.c (bF p h 0 0 0 0 3)):=pL;show uq _ _ _ _ (pB N2 b (.ins a.c (bF p h 0 0 0 0 3)));generalize pB N2 b (.ins a.c (bF p h 0 0 0 0 3))=N3 at k3 b3 ⊢;clear k1 k2 b1 b2;refine⟨oW rfl,λca hca=>?_⟩;obtain⟨n4,e4,k4,c4,b4⟩:=sX (fs':=(bF p h ca 0 0 0 4)) (c:=.lst []) b3 hca;refine oZ e4 ⟨(G.E "calls" rfl),by show 3<1000;decide,?_⟩;show uq _ _ _ _ (pB (pB N3 ca (.lst [])) b (.ins a.c (bF p h ca 0 0 0 4)));generalize pB (pB N3 ca (.lst [])) b (.ins a.c (bF p h ca 0 0 0 4))=N4 at k4 c4 b4 ⊢;have Y8:=k3.trans k4;have z1:M ca=none:=rA k3 b3 hca;have lc4:oR N4 ca=some []:=rM c4;refine⟨oW rfl,λle hle=>?_⟩;obtain⟨n5,e5,k5,c5,b5⟩:=sX (fs':=(bF p h ca le 0 0 5)) (c:=.lst []) b4 hle;refine oZ e5 ⟨(G.E "legs" rfl),by show 4<1000;decide,?_⟩;show uq _ _ _ _ (pB (pB N4 le (.lst [])) b (.ins a.c (bF p h ca le 0 0 5)));generalize pB (pB N4 le (.lst [])) b (.ins a.c (bF p h ca le 0 0 5))=N5 at k5 c5 b5 ⊢;have Y9:=Y8.trans k5;have z2:M le=none:=rA Y8 b4 hle;have le5:oR N5 le=some []:=rM c5;have mcl:le≠ca:=λz=>by rw[z,pU lc4]at hle;cases hle
 have lc5:=k5.lst (pP lc4 b4) lc4;have p5:=Y9 _ _ nbp i1;have g5:=Y9.lst (pP i3 hb) i3;clear k3 k4 k5 Y8 lc4 c4 c5 e4 e5 b3 b4;refine oZ p5 (i' rfl (i' g5 ?_));refine tM (f:=QS) (t:=LH) g5 _ [] _ (by rw[cS];simp only[dM];omega) (λd hd k hk=>?_) (λd hd _ k hk=>?_) λq1 XG=>?_
 .obtain⟨v,_,rfl⟩:=dB.mp hd;exact hk
 .obtain⟨v,_,rfl⟩:=dB.mp hd;exact⟨oW rfl,hk⟩
 rw[dY,Ig];have ZE:=qp.new (c:=.lst ((l.groups.filter vA).map λg=>D.tup [.str g.1,.int 0])) XG;refine i' pA (i' (wQ (λg:uk=>g.1) (λ_=>D.int 0) _) ⟨yE (iw (List.Sublist.map _ fW) (iw (ju _ _) ok.nd)),λnx Xj=>?_⟩);have z3:M nx=none:=rA Y9 b5 (ZE.none Xj);obtain⟨n6,e6,k6,c6,b6⟩:=sX (fs':=(bF p h ca le nx 0 6)) (c:=.dk ((l.groups.filter vA).map λg=>((Sum.inr g.1:qS),D.int 0))) (ZE _ _ b5) Xj;refine oZ e6 ⟨(G.E "nexts" rfl),by show 5<1000;decide,?_⟩;have k6:=ZE.keep.trans k6;have YZ:vJ "nexts" (.ref nx) (bF p h ca le 0 0 5)=(bF p h ca le nx 0 6):=rfl;rw[YZ];generalize pB (pB (pB N5 q1 (.lst ((l.groups.filter vA).map λg=>D.tup [.str g.1,.int 0]))) nx (.dk ((l.groups.filter vA).map λg=>((Sum.inr g.1:qS),D.int 0)))) b (.ins a.c (bF p h ca le nx 0 6))=N6 at k6 b6 c6 ⊢;have x6:zd N6 nx=some ((l.groups.filter vA).map λg=>((Sum.inr g.1:qS),D.int 0)):=Ck c6;have kk6:=Y9.trans k6;have lc6:=k6.lst (pP lc5 b5) lc5;have le6:=k6.lst (pP le5 b5) le5;have p6:=kk6 _ _ nbp i1;have o6:=kk6.lst (pP i5 hb) i5;clear Y9 k6 lc5 p5 g5 e6 c6;refine oZ p6 (i' rfl (i' o6 λYE hon=>?_));have z4:M YE=none:=rA kk6 b6 hon;obtain⟨n7,e7,k7,c7,b7⟩:=sX (fs':=(bF p h ca le nx YE 7)) (c:=.lst (l.mD.map λw=>D.bl w.1)) b6 hon;refine oZ e7 ⟨(G.E "on" rfl),by show 6<1000;decide,?_⟩;have YZ:vJ "on" (.ref YE) (bF p h ca le nx 0 6)=(bF p h ca le nx YE 7):=rfl;rw[YZ];generalize pB (pB N6 YE (.lst (l.mD.map λw=>D.bl w.1))) b (.ins a.c (bF p h ca le nx YE 7))=N7 at k7 b7 c7 ⊢;have kk7:=kk6.trans k7;have lc7:=k7.lst (pP lc6 b6) lc6;have le7:=k7.lst (pP le6 b6) le6;have x7:=k7.dk (CA x6 b6) x6;have lo7:oR N7 YE=some ((l.mD.map (·.1)).map D.bl):=by rw[dX];exact rM c7
 refine⟨oW rfl,λlg hlg=>?_⟩;obtain⟨n8,e8,k8,c8,b8⟩:=sX (fs':=tR (.ref p) h 0 ca le nx YE lg) (c:=.lst []) b7 hlg;refine oZ e8 ⟨(G.E "log" rfl),by show 7<1000;decide,_,.refl,?_⟩;have apart:∀{N:Mp} {x y:Addr} {ds:T0 D},N x=none->oR N y=some ds->x≠y:=λ{N x y ds} h1 h2 z=>by have:=pU h2;rw[<-z,h1]at this;cases this
 have y5:=rA kk7 b7 hlg;refine q _ ⟨b,ca,le,nx,YE,lg,[]⟩ rfl (kk7.trans k8) (λx hx=>?_) ⟨b8,k8.lst (pP lc7 b7) lc7,k8.lst (pP le7 b7) le7,?_,k8.lst (pP lo7 b7) lo7,rM c8,rfl,λi k c e=>by simp at e,?_,dO.mpr ⟨dD,eG⟩,λx hx=>?_⟩
 rotate_right
 .by_cases z:x=b
  .exact⟨_,by rw[z];exact b8⟩
  .obtain⟨c,e⟩:=hF x hx;exact⟨c,(kk7.trans k8) x c z e⟩
 .have hx:x∈[b,nx,ca,le,YE,lg]:=by
   unfold sP.foot sP.lists at hx
   simpa using hx
  simp only[de,dD,eX]at hx;rcases hx with rfl|rfl|rfl|rfl|rfl|rfl
  .exact .inl rfl
  .exact .inr z3
  .exact .inr z1
  .exact .inr z2
  .exact .inr z4
  .exact .inr y5
 .show zd _ nx=some (tE (uX l));rw[<-KO];exact k8.dk (CA x7 b7) x7
 .have m1:=apart hlg lc7;have m2:=apart hlg le7;have m3:=apart hlg lo7;have m4:=apart hon lc6;have m5:=apart hon le6;show[ca,le,YE,lg].Nodup;simp only[dO,de,dD,eX,fK,not_false_eq_true,eG,and_true];exact⟨⟨dI mcl,dI m4,dI m1⟩,⟨dI m5,dI m2⟩,dI m3⟩
def V4{p:Addr}{F:QXQ}(ok:qV l):WF l (V0 p h l F):=by
 refine⟨λi c e=>by simp[V0]at e,λi j ci cj x e=>by simp[V0]at e,λx hx=>?_,λi j ci cj x e=>by simp[V0]at e,λz hz ht=>?_⟩
 .show((0:Nat):Int)<=wA l x;unfold wA;cases e:l.mV x with
  | none=>exact Int.le_refl _
  | some v=>have:=(ok.po v (gf e)).l1;show(0:Int)<=v.2.1;omega
 .show ∃v,(uX l).find? (λp=>decide (p.1=z))=some v/\_;unfold pC.mK at ht;cases e:l.group z with
  | none=>rw[e]at ht;exact absurd ht (by decide)
  | some g=>
   rw[e]at ht;have hg:=gf e;have hn:g.1=z:=by simpa using l0 e
   have hm:((g.1,0):Str×Int)∈uX l:=dB.mpr ⟨g,fG.mpr ⟨hg,ht⟩,rfl⟩;cases q:(uX l).find? (λp=>decide (p.1=z))with
   | none=>exact absurd (gR.mp q _ hm) (by simp[hn])
   | some v=>refine⟨v,rfl,?_⟩;obtain⟨g',_,rfl⟩:=dB.mp (gf q);exact⟨Int.le_refl _,Int.natCast_nonneg _⟩
def Ev.old:Ev->Prop
 | .new _ _=>False
 | _=>True
def Mf{V:qd}{e:Ev}(h:e.old):(pV V e).calls.length=V.calls.length:=by
 cases e with
 | new _ _=>cases h
 | merge i j ms=>exact(eW ..).trans (eW ..)
 | turn=>exact cS ..
 | asks _ _ _=>rfl
 | next _ _=>rfl
 | sw _ _=>rfl
 | _=>exact eW ..
theorem IZ:∀{es:T0 Ev} {V:qd},(∀e∈es,e.old)->(qu V es).calls.length=V.calls.length
 | [],_,_=>rfl
 | e::r,V,h=>(IZ (es:=r) (V:=pV V e) λx hx=>h x (dA _ hx)).trans (Mf (h e dG))
theorem zY(i:Nat):∀(st:sR) (q:Option Str) {V:qd},i<V.calls.length->C5 V (rf i q st)
 | [],_,V,_=>by unfold rf;trivial
 | (y,gs)::r,none,V,h=>⟨trivial,zY i r (some y) h⟩
 | (y,gs)::r,some u,V,h=>⟨h,trivial,zY i r (some y) (by
  show i<(V.calls.modify i _).length;rw[eW];exact h)⟩
def Qn{V V1:qd}{e:vo}(h:DT l V i e)(hi:i<V.calls.length)(hl:V1.calls.length=V.calls.length):C5 V1 (rR l V i e):=by
 have XW:i<V1.calls.length:=by rw[hl];exact hi
 cases e with
 | rings z ps=>
  have h4:ps.length<=100:=h.2.2.2;show C5 V1 ((if (l.mK z=="turns")=true then _ else _)++[.rings i ps]);split
  .exact⟨trivial,⟨XW,h4⟩,trivial⟩
  .exact⟨⟨XW,h4⟩,trivial⟩
 | waits z=>exact⟨XW,trivial⟩
 | breaks z=>
  obtain⟨j,k,t1,t2,t3,t4⟩:=h;have e1:V.calls[i]?=some V.calls[i]:=cV hi;have hee:rR l V i (.breaks z)=[.merge i j (k.ms++[V.calls[i].cr])]:=by unfold rR;dsimp only;rw[t1,e1];dsimp only;rw[t2];rfl
  rw[hee];exact⟨⟨XW,by rw[hl];exact(cU.mp t2).1,t3,by rw[cW,t4];exact(by decide:3<=100)⟩,trivial⟩
 | engaged z=>exact⟨XW,trivial⟩
 | barred=>exact⟨XW,trivial⟩
 | ring ns=>exact⟨XW,trivial⟩
def NK{V:qd}{i:Nat}{k:pk}(ok:qV l)(wf:zc l V (some i))(hk:V.calls[i]?=some k):C5 V (uF l V i):=by
 have XQ:=wf.ok i k hk;have hi:=(cU.mp hk).1;unfold uF;rw[hk];dsimp only[Option.elim];obtain⟨z,hz⟩:∃z,k.way.getLast?=some z:=by
  cases e:k.way.getLast? with
  | none=>exact absurd (gg.mp e) XQ.wy.1
  | some z=>exact⟨z,rfl⟩
 rw[show k.way.getLastD Str.empty=z by rw[gH,hz];rfl];have ro:wN l V k.cr (l.nm.length+1) [] (ui l V k.cr z k.way.dropLast):=xh ok _ _ _ _ (XQ.wy.2 z (ia hz)) λx hx=>XQ.wy.2 x (ib _ hx);have eo:=HK ok wf hk ro.e;generalize ui l V k.cr z k.way.dropLast=R at ro eo;obtain⟨e,st⟩:=R;have s1:=(uy i st none V).len;refine wu (zY i st none hi) (wu ?_ (Qn eo hi ?_))
 .unfold sY;cases e with
  | ring ns=>
   dsimp only;cases st.getLast? with
   | none=>trivial
   | some s0=>exact⟨by show i<_;rw[s1];exact hi,trivial⟩
  | _=>trivial
 .refine(IZ λx hx=>?_).trans s1;unfold sY at hx;cases e with
  | ring ns=>
   dsimp only at hx;cases q:st.getLast? with
   | none=>rw[q]at hx;cases hx
   | some s0=>rw[q]at hx;rw[dv.mp hx];trivial
  | _=>cases hx
def ND{V:qd}(ok:qV l)(wf:WF l V):C5 V (so l V i (wX l V i)):=by
 have d:=Fl (V:=V) (i:=i) ok;generalize wX l V i=fs at d;cases d with
 | no=>trivial
 | on c k r b x y n hc hs hk hw hy=>rw[xP hk];have hi:=(cU.mp hc).1;exact wu ⟨trivial,hi,(by show i<(V.calls.modify i pk.nC).length;rw[eW];exact hi),trivial⟩ (NK ok (Bf wf hc hs hy) (Bj hc))
theorem FV(ok:qV l):∀(is:T0 Nat) {V:qd},WF l V->C5 V (qR l is V)
 | [],V,_=>by unfold qR;trivial
 | i::r,V,wf=>by unfold qR;exact wu (ND ok wf) (FV ok r (Fy ok wf))
def Re{V:qd}{e:tI}(ok:qV l)(wf:WF l V)(hm:∀c∈V.calls,c.ms.length<=100)(f:e.m7)(h:vL l V e=none):C5 V (uu l V e):=by
 cases e with
 | call y z=>obtain⟨h1,h2,h3,h4⟩:=Bd h;obtain⟨k,hk⟩:=HP (V:=V) (y:=y) (z:=z);refine wu ⟨trivial,?_,trivial⟩ (NK ok (Ei wf h1 h2 h3 h4) hk);show V.calls.length<(V.calls++[yO y]).length;rw[cW];exact fv _
 | turn=>exact⟨trivial,FV ok _ (Bb wf)⟩
 | sw b i=>exact⟨(Q6 h).2,trivial⟩
 | num w x ns=>
  obtain⟨_,n⟩:=Fc f h;cases n with
  | answer i c hi hc h1 h2 h3=>show C5 V [AW V "answer" x i.toNat];rw[wW hc];exact⟨⟨(cU.mp hc).1,(by decide:2<=100)⟩,trivial⟩
  | hang i c hi hc h1=>
   have lt:=(cU.mp hc).1;show C5 V (uW V x i.toNat);unfold uW;rw[hc];dsimp only[Option.elim];split
   .exact⟨lt,trivial⟩
   split
   .refine⟨lt,?_⟩;split
    .exact⟨by show _<(V.calls.modify _ _).length;rw[eW];exact lt,trivial⟩
    .trivial
   split
   .exact⟨lt,trivial⟩
   .exact⟨lt,trivial⟩
  | hold i c hi hc h1=>show C5 V [AW V "hold" x i.toNat];rw[wW hc];exact⟨(cU.mp hc).1,trivial⟩
  | back i c hi hc h1 h2=>show C5 V [AW V "back" x i.toNat];rw[wW hc];exact⟨⟨(cU.mp hc).1,hm c (qG hc)⟩,trivial⟩
  | two _ i j c d hi hj hw hc hd h1 h2=>
   show C5 V [DY V w x i.toNat j.toNat];rw[FI hc hd];refine⟨⟨(cU.mp hc).1,(cU.mp hd).1,(FN (w:=w) wf hc hd h1 h2).1,?_⟩,trivial⟩;split
   .exact(by decide:2<=100)
   .exact(by decide:3<=100)
noncomputable def qd.at_(V:qd)(p:Addr)(F:QXQ):qd:={V with p:=p,fo:=F}
def Fu(V:qd)(p:Addr)(F:QXQ)(e:Ev):pV (V.at_ p F) e=(pV V e).at_ p F:=by cases e<;>rfl
theorem wx(p:Addr)(F:QXQ):∀(es:T0 Ev) (V:qd),qu (V.at_ p F) es=(qu V es).at_ p F
 | [],_=>rfl
 | e::r,V=>by show qu (pV (V.at_ p F) e) r=_;rw[Fu,wx p F r];rfl
theorem Mc(p:Addr)(F:QXQ):∀(es:T0 Ev) (V:qd),C5 V es->C5 (V.at_ p F) es
 | [],_,_=>trivial
 | e::r,V,h=>⟨by cases e<;>exact h.1,by rw[Fu];exact Mc p F r _ h.2⟩
noncomputable def FT(c:pk):D:=.tup [.str c.st,.str c.cr,.tup (c.way.map D.str),.tup (c.at_.map D.str),.tup (c.ms.map D.str),CQ c.hd,.int c.si,CQ c.wd]
noncomputable def Ue(V:qd):D:=.tup [.int V.t,.tup (V.calls.map FT),.tup ((tF V.ps).map Au),.tup (V.on.map D.bl)]
def O6(a:Ad):qY:=λds M Q=>C8 λL k c=>ds=[.ref k.p]/\rF a M L k c/\Q (FT c) M
def HG(a:Ad):qY:=λds M Q=>A8 λA V=>ds=[.ref A.b]/\pG a M A V/\V.calls.length<=10000/\V.ps.length<=3/\Q (Ue V) M
def Gu(a:Ad):qY:=λds M Q=>IF λp h r F (l:pC) (es:T0 Ev)=>ds=[.ref p,.int h,.ref r]/\se a M p l/\qV l/\(∀x∈F,∃c,M x=some c)/\oR M r=some (es.map Ev.d)/\es.length<=900000/\C5 (V0 p h l F) es/\∀M' A,tN a M M' A.b A (qu (V0 p h l F) es) l es.length (3+es.length)->Q (.ref A.b) M'
def U9(e:Ev):e.nw<=1:=by cases e<;>first|exact dg _|exact eD _
def zS(ok:qV l):(uX l).length<=3:=by unfold uX;rw[cS];exact dW (gB _ _) ok.g3
def LF{es:T0 Ev}{pre post:T0 D}{d:D}(e:pre++d::post=es.map Ev.d):∃ev,es[pre.length]?=some ev/\d=ev.d/\es.take (pre.length+1)=es.take pre.length++[ev]/\es.drop pre.length=ev::es.drop (pre.length+1):=by
 have h:(es.map Ev.d)[pre.length]?=some d:=by rw[<-e];simp
 rw[dz]at h;cases q:es[pre.length]? with
 | none=>rw[q]at h;cases h
 | some ev=>rw[q]at h;have hl:=(cU.mp q).1;have eg:es[pre.length]=ev:=(cU.mp q).2;exact⟨ev,rfl,(df h).symm,by rw[List.take_succ,q];rfl,by rw[gG hl,eg]⟩
def P7:Fq P w K mg base 1 a.aT (O6 a):=by
 refine fq G.aT.toDG wR (λr u=>⟨_,(oY (pH 1 wR (pK (qX (pT rZ rfl G.z rX (qb (pq v0))) (pT rZ rfl G.z rX (qb (pq v0))) (pT rZ rfl G.z rX (qb (pq v0))))))
 (o9 (pz (pS (pS (pK (rN (pq v0) (pq v0))) U1) (pK (qX (pq v0) (pq v0) (pq v0))))))),?_⟩)
 rintro ds M Q ⟨L,k,c,rfl,⟨ad,md,h1,h2,h3,h4,_⟩,q⟩
 have hz:=dH;refine oZ h1 (i' rfl (i' h2 (oZ h1 (i' rfl (i' h3 (oZ h1 (i' rfl (i' h4 ⟨oW rfl,?_⟩))))))));refine oZ h1 (i' rfl (oZ h1 (i' rfl ⟨oW rfl,fB _ _,by show 2+3<=sizeLine;omega,?_⟩)));exact oZ h1 (i' rfl (oZ h1 (i' rfl (oZ h1 (i' rfl ⟨oW rfl,fB _ _,by show 5+3<=sizeLine;omega,M,.refl,q⟩)))))
def CH:Fq P w K mg base 2 a.ac (HG a):=by
 refine fq G.ac.toDG BG (λr u=>⟨_,(oY (pH 1 BG (pT rZ rfl G.z rX (qb (qB rfl (yg (ix:=[none]) (N':=["call"])) (qF (pq v0)) (qz 0) rQ (pE (P7 G) r G.aT (qb v0))))))
 (o9 (pz (pK (pW (pq v0) (qX U1 (pT rZ rfl G.z rX (qb (FL rfl (pq v0) rfl G.cC))) (pT rZ rfl G.z rX (qb (pq v0))))))))),?_⟩)
 rintro ds M Q ⟨A,V,rfl,bd,Xx,h3,q⟩
 have hz:=dH;refine oZ bd.at_ (i' rfl (i' bd.ca ?_));refine Bp (A.cs.map λk=>D.ref k.p) (λpre acc U M'=>M=M'/\acc=(V.calls.take pre.length).map FT/\∃y,U=[y]) (λ_ _ _ M' j=>by rw[<-j.1];exact bd.ca) _ [] [] _ _ rfl ?_ ⟨rfl,rfl,none,rfl⟩ ?_ ?_
 .rw[cS,bd.len];simp only[dM];omega
 .rintro pre d post e acc U M' ⟨rfl,rfl,y,rfl⟩ k hk
  obtain⟨ka,c,e1,e2,rfl,hc,et⟩:=Ee bd e;refine⟨_,ka,c,rfl,hc,hk _ _ _ ⟨rfl,?_,_,rfl⟩⟩;rw[cW,dN,et,dP];rfl
 .rintro acc U M' ⟨rfl,rfl,y,rfl⟩ p1 Yy
  rw[cS,bd.len,fE];refine i' pA ?_;have s1:=qp.new (c:=.lst (V.calls.map FT)) Yy;generalize pB M p1 (.lst (V.calls.map FT))=M1 at s1 ⊢;refine oZ (s1 _ _ bd.at_) (i' rfl (oZ (s1 _ _ bd.at_) (i' rfl ⟨V.ps,s1.dk bd.nx,h3,λS hS=>i' pA ?_⟩)));have s2:=s1.trans (qp.new (c:=.lst ((tF V.ps).map Au)) hS);generalize pB M1 S (.lst ((tF V.ps).map Au))=M2 at s2 ⊢;exact oZ (s2 _ _ bd.at_) (i' rfl (i' (s2.lst bd.on) ⟨oW rfl,M,s2,q⟩))
def GK:Fq P w K mg base 4 a.aU (Gu a):=by
 refine fq G.aU.toDG xJ (λr u=>⟨_,(oY (pH 3 xJ (uL (GZ G) r G.c G.bW G.R.toDG (rN v0 U1)))
 (oY (uM fu rfl (qF U2) (sH 4 xJ)
 (o9 (pJ (pR U3 G.c.toCls G.k (qO G) r (qb v4)))))
 (o9 (pz U3)))),?_⟩)
 rintro ds M Q ⟨p,h,r,F,l,es,rfl,pl,ok,hF,lr,hes,mM,q⟩
 refine λb hb=>?_;obtain⟨hb0,s0⟩:pB M b (.ins a.c []) b=some (.ins a.c [])/\qp M (pB M b (.ins a.c [])):=⟨pL,.new hb⟩;refine⟨b,p,h,F,l,rfl,hb0,pl.sub s0,ok,λz=>?_,λx hx=>(hF x hx).imp λc e=>s0 x c e,λM1 A eb kp fr bd=>⟨rfl,?_⟩⟩
 .obtain⟨ph,gr,ws,Yz,pr,gd,rs,i1,_⟩:=pl;rw[z,hb]at i1;cases i1
 have s1:qp M M1:=λx c e=>kp x c (λz=>by rw[z,hb]at e;cases e) (s0 x c e);have c0:tN a M M1 b A (V0 p h l F) l 0 3:=⟨bd,pl,s1,λx hx=>?_,eb,⟨eD _,eD _,dg _,zS ok,λk hk=>by cases hk⟩,ok,cS ..⟩
 rotate_left
 .rcases fr x hx with z|z
  .rw[z];exact hb
  .exact s0.none z
 have nf:r∉A.foot:=λz=>by have:=c0.fr r z;rw[pU lr]at this;cases this
 have lr1:=s1.lst lr;refine i' lr1 (wG (es.map Ev.d) (λpre U M'=>(∃A',tN a M M' b A' (qu (V0 p h l F) (es.take pre.length)) l pre.length (3+pre.length)/\qJ A M1 A' M'/\C5 (qu (V0 p h l F) (es.take pre.length)) (es.drop pre.length))/\∃y,U=[some (.ref p),some (.int h),some (.ref r),some (.ref b),y]) (λpre U M' j=>?_) _ [] _ _ rfl ⟨⟨A,c0,.refl,mM⟩,none,rfl⟩ ?_ ?_)
 .obtain⟨⟨A',c1,Xz,_⟩,_⟩:=j;exact rM (Xz.1 r _ nf (pU lr1))
 .rintro pre d post e U M' ⟨⟨A',c1,Xz,o1⟩,y,rfl⟩ nx Xj
  obtain⟨ev,e1,rfl,e2,e3⟩:=LF e;have hp:pre.length<es.length:=(cU.mp e1).1;rw[e3]at o1;rw[cW,dN,e2,rc]at Xj;generalize qu (V0 p h l F) (es.take pre.length)=V1 at c1 o1 Xj;refine oZ c1.at_ ⟨rfl,_,⟨rfl,rfl⟩,b,A',V1,ev,rfl,c1.b,c1.bd,c1.lim (by omega) (by omega),o1.1,λM2 A2 eb2 Xo Ys=>Xj _ _ ⟨⟨A2,(c1.after o1.1 eb2 Xo Ys).mono (Nat.add_le_add_left (U9 ev) _) (by omega),Xz.trans Xo,o1.2⟩,_,rfl⟩⟩
 .rintro U M' ⟨⟨A',c1,Xz,o1⟩,y,rfl⟩
  rw[cS,fE]at c1;have qq:=q M' A' (by rw[c1.b];exact c1);rw[c1.b]at qq;exact⟨M',.refl,qq⟩
def Ev.noT:Ev->Prop
 | .turn=>False
 | _=>True
def Ev.noN:Ev->Prop
 | .next _ _=>False
 | _=>True
theorem Ef:∀{es:T0 Ev} {V:qd},(∀e∈es,e.noN)->(qu V es).ps=V.ps
 | [],_,_=>rfl
 | e::r,V,h=>(Ef (es:=r) (V:=pV V e) λx hx=>h x (dA _ hx)).trans (by have:=h e dG;cases e<;>first|rfl|cases this)
theorem Cg(i:Nat):∀(st:sR) (q:Option Str),∀e∈rf i q st,e.noT/\e.noN
 | [],_,e,h=>by unfold rf at h;cases h
 | (y,gs)::r,none,e,h=>by
  rcases de.mp (show e∈Ev.asks i y gs::rf i (some y) r from h)with rfl|h
  .exact⟨trivial,trivial⟩
  .exact Cg i r _ e h
 | (y,gs)::r,some u,e,h=>by
  rcases de.mp (show e∈Ev.leg ⟨i,u,y,u⟩::Ev.asks i y gs::rf i (some y) r from h)with rfl|h
  .exact⟨trivial,trivial⟩
  rcases de.mp h with rfl|h
  .exact⟨trivial,trivial⟩
  .exact Cg i r _ e h
def N8{st:sR}:∀e∈sY i st en,e.noT/\e.noN:=λe h=>by
 unfold sY at h;cases en with
 | ring ns=>
  dsimp only at h;cases q:st.getLast? with
  | none=>rw[q]at h;cases h
  | some s0=>rw[q]at h;rw[dv.mp h];exact⟨trivial,trivial⟩
 | _=>cases h
def OT{ps:T0 (Str×Int)}{z:Str}{n:Int}(h:ps.any (λp=>decide (p.1=z))=true):(BL ps z n).length=ps.length:=by unfold BL;rw[cZ h,cS]
def R9{V V1:qd}(nx:um l V1)(he:DT l V i en):(qu V1 (rR l V i en)).ps.length=V1.ps.length:=by
 cases en with
 | rings z ps=>
  show(qu V1 ((if (l.mK z=="turns")=true then[Ev.next z (QR (l.mC z) (ps.headD Str.empty))]else[])++[.rings i ps])).ps.length=_;rw[rc];by_cases ht:(l.mK z=="turns")=true
  .rw[cZ ht];refine OT ?_;obtain⟨v,e,_⟩:=nx z he.1 ht;exact gw.mpr ⟨v,gf e,by simpa using l0 e⟩
  .rw[cX ht];rfl
 | breaks z=>
  unfold rR;dsimp only;split
  .rfl
  .rfl
 | waits z=>rfl
 | engaged z=>rfl
 | barred=>rfl
 | ring ns=>rfl
def QV{V:qd}{i:Nat}{k:pk}(ok:qV l)(wf:zc l V (some i))(hk:V.calls[i]?=some k):(qu V (uF l V i)).ps.length=V.ps.length:=by
 have XQ:=wf.ok i k hk;unfold uF;rw[hk];dsimp only[Option.elim];obtain⟨z,hz⟩:∃z,k.way.getLast?=some z:=by
  cases e:k.way.getLast? with
  | none=>exact absurd (gg.mp e) XQ.wy.1
  | some z=>exact⟨z,rfl⟩
 rw[show k.way.getLastD Str.empty=z by rw[gH,hz];rfl];have ro:wN l V k.cr (l.nm.length+1) [] (ui l V k.cr z k.way.dropLast):=xh ok _ _ _ _ (XQ.wy.2 z (ia hz)) λx hx=>XQ.wy.2 x (ib _ hx);have eo:=HK ok wf hk ro.e;generalize ui l V k.cr z k.way.dropLast=R at eo;obtain⟨e,st⟩:=R;have e1:(qu (qu V (rf i none st)) (sY i st e)).ps=V.ps:=(Ef λx hx=>(N8 x hx).2).trans (Ef λx hx=>(Cg i st none x hx).2);rw[rc,rc];refine(R9 (λz hz ht=>?_) eo).trans (eO List.length e1);rw[e1];exact wf.nx z hz ht
theorem IX(ok:qV l):∀(is:T0 Nat) {V:qd},WF l V->(qu V (qR l is V)).ps.length=V.ps.length
 | [],V,_=>by unfold qR;rfl
 | i::r,V,wf=>by
  unfold qR;rw[rc];refine(IX ok r (Fy ok wf)).trans ?_;have d:=Fl (V:=V) (i:=i) ok;generalize wX l V i=fs at d;cases d with
  | no=>rfl
  | on c k r b x y n hc hs hk hw hy=>rw[xP hk,rc];exact QV ok (Bf wf hc hs hy) (Bj hc)
def Q4{V:qd}{e:tI}(ok:qV l)(wf:WF l V)(f:e.m7)(h:vL l V e=none):(qu V (uu l V e)).ps.length=V.ps.length:=by
 cases e with
 | call y z=>obtain⟨h1,h2,h3,h4⟩:=Bd h;obtain⟨k,hk⟩:=HP (V:=V) (y:=y) (z:=z);show(qu V (_++uF l _ _)).ps.length=_;rw[rc];exact QV ok (Ei wf h1 h2 h3 h4) hk
 | turn=>exact IX ok _ (Bb wf)
 | sw b i=>rfl
 | num w x ns=>
  refine eO List.length (Ef λev hev=>?_);obtain⟨_,n⟩:=Fc f h;cases n with
  | answer i c hi hc h1 h2 h3=>rw[dv.mp (show ev∈[AW V "answer" x i.toNat]from hev),wW hc];trivial
  | hang i c hi hc h1=>
   have hev:ev∈uW V x i.toNat:=hev;unfold uW at hev;rw[hc]at hev;dsimp only[Option.elim]at hev;split at hev
   .rw[dv.mp hev];trivial
   split at hev
   .rcases de.mp hev with rfl|hev
    .trivial
    split at hev
    .rw[dv.mp hev];trivial
    .cases hev
   split at hev
   .rw[dv.mp hev];trivial
   .rw[dv.mp hev];trivial
  | hold i c hi hc h1=>rw[dv.mp (show ev∈[AW V "hold" x i.toNat]from hev),wW hc];trivial
  | back i c hi hc h1 h2=>rw[dv.mp (show ev∈[AW V "back" x i.toNat]from hev),wW hc];trivial
  | two _ i j c d hi hj hw hc hd h1 h2=>rw[dv.mp (show ev∈[DY V w x i.toNat j.toNat]from hev),FI hc hd];trivial
theorem z9(n:Nat):∀ss:QQQ,(ss.map D.str).all (sI n)=true
 | []=>rfl
 | s::r=>by rw[dR,eU,z9 n r];cases n<;>rfl
theorem D6(n:Nat):∀ss:T0 Nat,(ss.map λi=>D.int (i:Nat)).all (sI n)=true
 | []=>rfl
 | s::r=>by rw[dR,eU,D6 n r];cases n<;>rfl
theorem Gg(n:Nat):∀ss:T0 Bool,(ss.map D.bl).all (sI n)=true
 | []=>rfl
 | s::r=>by rw[dR,eU,Gg n r];cases n<;>rfl
def IA(e:Ev):sI 6 e.d=true:=by
 have t:∀ss:QQQ,sI 5 (names ss)=true:=λss=>z9 4 ss;have u:∀ss:T0 Nat,sI 5 (vZ ss)=true:=λss=>D6 4 ss;cases e with
 | asks i z ns=>show([D.str "asks",.int (i:Nat),.str z,vZ ns].all (sI 5))=true;simp only[eU,u];rfl
 | merge i j ms=>show([D.str "merge",.int (i:Nat),.int (j:Nat),names ms].all (sI 5))=true;simp only[eU,t];rfl
 | rings i ps=>show([D.str "rings",.int (i:Nat),names ps].all (sI 5))=true;simp only[eU,t];rfl
 | talks i ps=>show([D.str "talks",.int (i:Nat),names ps].all (sI 5))=true;simp only[eU,t];rfl
 | _=>rfl
def Mz{n:Nat}(V:qd):sI (n+4) (Ue V)=true:=by
 have c1:∀c∈V.calls,sI (n+2) (FT c)=true:=λc hc=>by
  have h0:∀o:Option Str,sI (n+1) (CQ o)=true:=λo=>by cases o<;>rfl
  have t:∀ss:QQQ,sI (n+1) (.tup (ss.map D.str))=true:=λss=>z9 n ss;show([D.str c.st,.str c.cr,.tup (c.way.map D.str),.tup (c.at_.map D.str),.tup (c.ms.map D.str),CQ c.hd,.int c.si,CQ c.wd].all (sI (n+1)))=true;simp only[eU,t,h0];rfl
 have c2:sI (n+3) (.tup (V.calls.map FT))=true:=by show(V.calls.map FT).all (sI (n+2))=true;rw[jF,eC];exact c1
 have c3:sI (n+3) (.tup ((tF V.ps).map L3.Au))=true:=by show((tF V.ps).map L3.Au).all (sI (n+2))=true;rw[jF,eC];exact λx _=>rfl
 have c4:sI (n+3) (.tup (V.on.map D.bl))=true:=Gg (n+2) _;show([D.int V.t,.tup (V.calls.map FT),.tup ((tF V.ps).map L3.Au),.tup (V.on.map D.bl)].all (sI (n+3)))=true;simp only[eU,c2,c3,c4];rfl
noncomputable def Be(c:pk):QQQ:=if (c.st=="talks"||c.st=="held")=true then c.ms else c.cr::c.at_
def JY(a:Ad):qY:=λds M Q=>C8 λL k c=>ds=[.ref (rm.p k)]/\rF a M L k c/\c.at_.length<=100/\∀r M',qp M M'->oR M' r=some ((Be c).map D.str)->Q (.ref r) M'
noncomputable def LS(V:qd)(Ye:QQQ):T0 Nat:=(List.range V.calls.length).filter λi=>(V.calls[i]?).elim false λc=>hasS Ye c.st
def Qd(a:Ad):qY:=λds M Q=>Bg λA V l Ye=>ds=[.ref A.b,.tup (List.map D.str Ye)]/\Rd a M A V l/\∀r M',qp M M'->oR M' r=some ((LS V Ye).map λn=>D.int (n:Nat))->Q (.ref r) M'
noncomputable def Ry(V:qd)(Ye:QQQ):D->Bool
 | .int n=>(V.calls[n.toNat]?).elim false λc=>hasS Ye c.st
 | _=>false
def KF:Fq P w K mg base 1 a.br (JY a):=by
 refine fq G.br.toDG C9 (λr u=>⟨_,(oY (pN (W3.b3 (yh (pD u (pq v0) pj) (xC (pD u (pq v0) pj))))
 (o9 (pz (pT su rfl G.r sj (qb (pq v0)))))
 pF)
 (o9 (pz (pS (qT (qb (pq v0))) (pT su rfl G.r sj (qb (pq v0))))))),?_⟩)
 rintro ds M Q ⟨L,k,c,rfl,⟨ad,md,h1,h2,h3,h4,_⟩,ha,q⟩
 have hz:=dH;unfold Be at q;refine oZ h1 (i' rfl (qA (c:=c.st=="talks") (λg=>?_) (λg=>?_)))
 .rw[g,gY,cZ rfl]at q;exact oZ h1 (i' rfl (i' h4 λr hr=>⟨_,.refl,q r _ (.new hr) pA⟩))
 rw[dF.mpr g,fM]at q;refine oZ h1 (i' rfl (qA (c:=c.st=="held") (λg=>?_) (λg=>?_)))
 .rw[cZ g]at q;exact oZ h1 (i' rfl (i' h4 λr hr=>⟨_,.refl,q r _ (.new hr) pA⟩))
 rw[cX g]at q;refine oZ h1 (i' rfl ⟨oW rfl,λr1 XO=>?_⟩);have t1:=qp.new (c:=.lst [D.str c.cr]) XO;have l1:=@pA M r1 [D.str c.cr];show Ah (pB M r1 (.lst [D.str c.cr]) k.p) _;generalize pB M r1 (.lst [D.str c.cr])=M1 at t1 l1 ⊢;refine oZ (t1 _ _ h1) (i' rfl (i' (t1.lst h3) λr2 Zn=>?_));have t2:=qp.new (c:=.lst (c.at_.map D.str)) Zn;refine i' (t2.lst l1) (i' pA ⟨?_,λr3 ZF=>⟨_,.refl,q r3 _ (t1.trans (t2.trans (.new ZF))) pA⟩⟩);rw[cS];show 1+c.at_.length<=sizeLine;omega
def O2:Fq P w K mg base 1 a.bs (Qd a):=by
 refine fq G.bs.toDG AX (λr u=>⟨_,(o9 (pz (qB rfl (yg (ix:=[none,some 0,some 1]) (N':=["_law_k","_law_board","_law_states"])) (vV rfl G.aa (qb (pO qv rfl G.g ql (qb (pq v0))))) (qz 0) (vP (pD u (pq (pI (pq U1) v0)) U2)) v0))),?_⟩)
 rintro ds M Q ⟨A,V,l,Ye,rfl,rd,q⟩
 have hz:=dH;have lc:((A.cs.map λk=>D.ref k.p).length:Int)=(V.calls.length:Nat):=by rw[cS,rd.bd.len]
 have hb:=rd.k;refine oZ rd.bd.at_ (i' rfl (i' rd.bd.ca ?_));rw[lc];refine⟨rfl,⟨by omega,by omega⟩,?_⟩;refine tM (f:=id) (t:=Ry V Ye) trivial _ [] _ (by rw[cS,eB];simp only[dM];omega) (λd hd k hk=>?_) (λd hd _ k hk=>?_) λr hr=>?_
 .obtain⟨i,hi,rfl⟩:=dB.mp hd;rw[gc]at hi;have hi:i<V.calls.length:=by omega
  obtain⟨k',ek,⟨ad,md,h1,_⟩⟩:=rd.call (cV hi);have ea:wj (A.cs.map λk=>D.ref k.p) (0+(i:Nat))=some (.ref k'.p):=by rw[mw];exact ra ek
  refine oZ rd.bd.at_ (i' rfl (i' rfl (i' rd.bd.ca (i' ea (oZ h1 (i' rfl (i' rfl ⟨rfl,qo _,?_⟩)))))));show k (inD (.str V.calls[i].st) (Ye.map D.str)) M;rw[sr];have e1:Ry V Ye (.int (0+(i:Nat)))=hasS Ye V.calls[i].st:=by show(V.calls[(0+(i:Int)).toNat]?).elim false _=_;rw[show(0+(i:Int)).toNat=i by omega,cV hi];rfl
  show k (hasS Ye V.calls[i].st) M;rw[<-e1];exact hk
 .exact hk
 .refine⟨_,.refl,q r _ (.new hr) (pA.trans (eO some ?_))⟩;rw[dY,je,gQ,show(((V.calls.length:Nat):Int)).toNat=V.calls.length from rfl];unfold LS;have e1:(Ry V Ye∘λi:Nat=>D.int (0+(i:Nat)))=λi=>(V.calls[i]?).elim false λc=>hasS Ye c.st:=funext λi=>by show(V.calls[(0+(i:Int)).toNat]?).elim false _=_;rw[show(0+(i:Int)).toNat=i by omega]
  rw[e1];exact gq λi _=>by rw[mw]
noncomputable def GI:Str->QQQ:=λw=>if (w=="answer")=true then["rings","waits"]else if (w=="hold")=true then["talks"]else if (w=="hang")=true then["rings","waits","talks","held"]else["held"]
def SU(w:Str):Prop:=w="answer"\/w="hang"\/w="hold"\/w="back"\/w="hand"\/w="join"
def Kv(a:Ad):qY:=λds M Q=>F0 λA V l c w=>ds=[.ref A.b,.int c,.str w,.tup ((GI w).map D.str)]/\Rd a M A V l/\WF l V/\(∀k∈V.calls,k.at_.length<=100)/\SU w/\∀M',qp M M'->Q .mG M'/\∀e:tI,e.m7->Q e.d M'
def Rz{n:Nat}{a b:Addr}{ds:T0 D}(ha:oR M a=some ds)(hb:oR M b=some []):ym M (n+1) (.ref a) (.ref b)=some ds.isEmpty:=by
 show(oR M a).bind (λi=>(oR M b).bind λj=>if i.length=j.length then sF (ym M n) i j else some false)=_;rw[ha,hb];cases ds with
 | nil=>rfl
 | cons x r=>rfl
def uB{α:Type}(f:α->D){xs:List α}(h:xs≠[])(c k:Int):(0:Int)<((xs.map f).length:Nat)/\∃x∈xs,wj (xs.map f) (qk c k ((xs.map f).length:Nat))=some (f x):=by
 have hp:(0:Int)<((xs.map f).length:Nat):=by have:=fC.mpr h;rw[cS];omega
 have d0:=qP (c:=c) (f:=k) hp;have d1:=qH (c:=c) (f:=k) hp;obtain⟨n,e⟩:=eA d0;rw[e]at d1 ⊢;have hn:n<xs.length:=by rw[cS]at d1;omega
 exact⟨hp,xs[n],hZ hn,uV (by rw[dz,cV hn];rfl)⟩
def RQ{V:qd}{i:Nat}(h:i∈LS V Ye):∃c,V.calls[i]?=some c/\c.st∈Ye:=by
 have h:=(fG.mp h).2;cases e:V.calls[i]? with
 | none=>rw[e]at h;cases h
 | some c=>rw[e]at h;exact⟨c,rfl,qN.mp h⟩
def DA{c:pk}(k:vR l false c)(h:c.st≠"over"):Be c≠[]:=by
 unfold Be;split
 .rename_i g;rcases k.sh with z|⟨_,z|z|⟨_,z⟩|z⟩
  .rw[z.1]at g;exact absurd g (by decide)
  .rw[z.1]at g;exact absurd g (by decide)
  .intro y;rw[y]at z;rcases z.2.1 with u|u<;>cases u
  .intro y;rw[y]at z;cases z.2.1
  .exact absurd z.1 h
 .exact fB _ _
def Ua{c:pk}(k:vR l false c)(h:c.st∈GI "answer"):c.at_≠[]:=by
 have h:c.st="rings"\/c.st="waits":=by
  rcases de.mp h with g|g
  .exact .inl g
  .exact .inr (dv.mp g)
 rcases k.sh with z|⟨_,z|z|⟨_,z⟩|z⟩
 .exact z.2.2.2.2.2 rfl
 .intro y;rw[y]at z;cases z.2.2.2.2
 all_goals(rw[z.1]at h;exact absurd h (by decide))
def I0{c:pk}(k:vR l false c)(h:c.st="held"):∃x,c.hd=some x:=by
 rcases k.sh with z|⟨_,z|z|⟨x,z⟩|z⟩
 .rw[h]at z;exact absurd z.1 (by decide)
 .rw[h]at z;exact absurd z.1 (by decide)
 .rw[h]at z;exact absurd z.1 (by decide)
 .exact⟨x,z.2.2.1⟩
 .rw[h]at z;exact absurd z.1 (by decide)
def J1:Fq P w K mg base 4 a.bt (Kv a):=by
 refine fq G.bt.toDG rq (λr u=>⟨_,(oY (pH 4 rq (pE (O2 G) r G.bs (rN v0 U3)))
 (oY (pN (pD u v4 (qT sV))
 (o9 (pz rD))
 pF)
 (oY (pH 5 rq (pI v4 (pE (qy G) r G.i (qX U1 pb (pO qv rfl G.g ql (qb v4))))))
 (oY (pH 6 rq (pE (KF G) r G.br (qb (pI (pq v0) v5))))
 (oY (pN (pD u U2 pj)
 (o9 (pH 6 rq (pT su rfl G.r sj (qb (pq (pI (pq v0) v5))))))
 pF)
 (oY (pN (W3.b3 (yh (pD u U2 pj) (yh (pD u U2 pj) (xC (pD u U2 pj)))))
 (o9 (pH 6 rq (qT (qb (pq (pI (pq v0) v5))))))
 pF)
 (oY (pH 7 rq (pI v6 (pE (qy G) r G.i (qX U1 pb (pO qv rfl G.g ql (qb v6))))))
 (oY (pN (W3.b3 (yh (pD u U2 pj) (xC (pD u U2 pj))))
 (oY (pH 8 rq (pR v0 G.c.toCls G.S (yK G) r (qb v7)))
 (o9 (pz (pK (pW U2 (qX v7 v5 (QL (pD u v8 rD) pb v8)))))))
 pF)
 (o9 (pz (pK (qX U2 v7 v5)))))))))))),?_⟩)
 rintro ds M Q ⟨A,V,l,c,wd,rfl,rd,wf,ha,ho,q⟩
 have hz:=dH;refine⟨A,V,l,GI wd,rfl,rd,λr M1 s1 lr=>?_⟩;refine⟨oW rfl,λr0 hr0=>?_⟩;have t2:=qp.new (c:=.lst []) hr0;have ZK:=t2.lst lr;refine i' (Rz ZK pA) ?_;have s2:=s1.trans t2;generalize pB M1 r0 (.lst [])=M2 at s2 ZK ⊢;clear t2 lr hr0 s1;refine qA (c:=((LS V (GI wd)).map λn=>D.int (n:Nat)).isEmpty) (λ_=>⟨M2,.refl,(q M2 s2).1⟩) (λg=>?_);have gne:LS V (GI wd)≠[]:=λz=>g (by rw[z];rfl);obtain⟨hp,i,hi,ei⟩:=uB (λn:Nat=>D.int (n:Nat)) gne c 40692;obtain⟨cv,hc,hs⟩:=RQ hi;have Zc:=rd.sub s2;obtain⟨k,ek,ca⟩:=Zc.call hc;have ca0:=ca;obtain⟨ad,md,h1,h2,h3,h4,_⟩:=ca0;have XQ:=wf.ok i cv hc;refine i' ZK ⟨c,_,_,rfl,hp,i' ZK (i' ei ?_)⟩;refine oZ Zc.bd.at_ (i' rfl (i' rfl (i' Zc.bd.ca (i' (ra ek) ?_))));refine⟨_,k,cv,rfl,ca,ha cv (qG hc),λr3 M3 s3 lr3=>?_⟩;have XN:=s3 _ _ h1;have q3:=λM' (s:qp M3 M')=>q M' (s2.trans (s3.trans s));have Zq:=Zc.sub s3;have ZD:=s3.lst h3;clear q ZK s2 h1 h2 h3 h4 ca;rcases ho with rfl|rfl|rfl|rfl|rfl|rfl
 .
  refine oZ Zq.bd.at_ (i' rfl (i' rfl (i' Zq.bd.ca (i' (ra ek) (oZ XN (i' rfl (i' ZD λr4 hr4=>?_)))))));obtain⟨Xf,x,hx,ex⟩:=uB D.str (Ua XQ hs) c 742938285;refine i' pA ⟨c,_,_,rfl,Xf,i' pA (i' ex ?_)⟩;exact⟨oW rfl,_,.refl,(q3 _ (.new hr4)).2 (.num "answer" x [(i:Nat)]) (.inl ⟨.inl rfl,rfl⟩)⟩
 .
  obtain⟨Xf,x,hx,ex⟩:=uB D.str (DA XQ (λz=>by rw[z]at hs;exact absurd hs (by decide))) c 742938285;refine i' lr3 ⟨c,_,_,rfl,Xf,i' lr3 (i' ex ?_)⟩;exact⟨oW rfl,_,.refl,(q3 _ .refl).2 (.num "hang" x [(i:Nat)]) (.inl ⟨.inr (.inl rfl),rfl⟩)⟩
 .
  obtain⟨Xf,x,hx,ex⟩:=uB D.str (DA XQ (λz=>by rw[z]at hs;exact absurd hs (by decide))) c 742938285;refine i' lr3 ⟨c,_,_,rfl,Xf,i' lr3 (i' ex ?_)⟩;exact⟨oW rfl,_,.refl,(q3 _ .refl).2 (.num "hold" x [(i:Nat)]) (.inl ⟨.inr (.inr (.inl rfl)),rfl⟩)⟩
 .
  obtain⟨y,hy⟩:=I0 XQ (dv.mp hs);refine oZ Zq.bd.at_ (i' rfl (i' rfl (i' Zq.bd.ca (i' (ra ek) (oZ XN (i' rfl ⟨oW rfl,λr4 hr4=>?_⟩))))));rw[show CQ cv.hd=.str y by rw[hy];rfl];obtain⟨Xf,x,hx,ex⟩:=uB D.str (fB y []) c 742938285;refine i' pA ⟨c,_,_,rfl,Xf,i' pA (i' ex ?_)⟩;exact⟨oW rfl,_,.refl,(q3 _ (.new hr4)).2 (.num "back" x [(i:Nat)]) (.inl ⟨.inr (.inr (.inr rfl)),rfl⟩)⟩
 all_goals
  obtain⟨y,hy⟩:=I0 XQ (dv.mp hs);refine oZ Zq.bd.at_ (i' rfl (i' rfl (i' Zq.bd.ca (i' (ra ek) (oZ XN (i' rfl ⟨oW rfl,λr4 hr4=>?_⟩))))));rw[show CQ cv.hd=.str y by rw[hy];rfl];obtain⟨Xf,x,hx,ex⟩:=uB D.str (fB y []) c 742938285;refine i' pA ⟨c,_,_,rfl,Xf,i' pA (i' ex ?_)⟩;have t4:=qp.new (c:=.lst [D.str y]) hr4;refine oZ (t4 _ _ Zq.bd.at_) ⟨rfl,_,⟨rfl,rfl⟩,A,V,x,rfl,Zq.bd.sub t4,Zq.k,?_⟩;unfold Aq;cases vw V x with
  | none=>first|exact⟨oW rfl,_,.refl,(q3 _ t4).2 (.num "hand" x [(i:Nat),(0:Nat)]) (.inr ⟨.inl rfl,rfl⟩)⟩|exact⟨oW rfl,_,.refl,(q3 _ t4).2 (.num "join" x [(i:Nat),(0:Nat)]) (.inr ⟨.inr rfl,rfl⟩)⟩
  | some j=>first|exact⟨oW rfl,_,.refl,(q3 _ t4).2 (.num "hand" x [(i:Nat),(j:Nat)]) (.inr ⟨.inl rfl,rfl⟩)⟩|exact⟨oW rfl,_,.refl,(q3 _ t4).2 (.num "join" x [(i:Nat),(j:Nat)]) (.inr ⟨.inr rfl,rfl⟩)⟩
def Jd:qY:=λds M Q=>IF λc o n own nm m=>ds=[.int c,.ref o,.ref n,.int ((m:Nat):Int)]/\oR M o=some (List.map D.str own)/\oR M n=some (List.map D.str nm)/\own.length<=100/\nm.length<=100/\m<=1000000/\∀M' (e:tI),qp M M'->e.m7->Q e.d M'
def La(a:Ad):qY:=λds M Q=>Tg λA V l c o n own nm=>ds=[.ref A.b,.int c,.ref o,.ref n]/\Rd a M A V l/\WF l V/\(∀k∈V.calls,k.at_.length<=100)/\oR M o=some (List.map D.str own)/\oR M n=some (List.map D.str nm)/\own≠[]/\nm≠[]/\own.length<=100/\nm.length<=100/\∀M' (e:tI),qp M M'->e.m7->Q e.d M'
def Jx{α:Type}(f:α->D){xs:List α}(h:xs≠[]){m:Int}(hm:m=(xs.length:Nat))(c k:Int):(0:Int)<m/\∃x∈xs,wj (xs.map f) (qk c k m)=some (f x):=by have:=uB f h c k;rw[cS,<-hm]at this;exact this
def Ow{α:Type}(xs:List α)(x:α):xs++[x]≠[]:=by simp
noncomputable def HV:QQQ:=["call","call","call","call","call","answer","answer","answer","answer","answer","hang","hang","hold","hold","hold","back","hand","join","turn","turn","turn"]
theorem DU(d:D):∀n:Nat,(List.replicate n [d]).flatten=List.replicate n d
 | 0=>rfl
 | n+1=>by rw[eF,fN,DU d n,eF];rfl
noncomputable def zz:Str:="zzzzzz"
noncomputable def MR(a b:Str)(k m:Int):List tI:=[.call a b,.num "answer" a [k],.num "hang" a [k],.num "hold" a [k],.num "back" a [k],.num "hand" a [k,m],.num "join" a [k,m],.turn,.sw true k,.sw false k]
def Np{a b:Str}{k m:Int}{e:tI}(h:e∈MR a b k m):e.m7:=by
 unfold MR at h;simp only[de,dD,eX]at h;rcases h with rfl|rfl|rfl|rfl|rfl|rfl|rfl|rfl|rfl|rfl
 .trivial
 .exact .inl ⟨.inl rfl,rfl⟩
 .exact .inl ⟨.inr (.inl rfl),rfl⟩
 .exact .inl ⟨.inr (.inr (.inl rfl)),rfl⟩
 .exact .inl ⟨.inr (.inr (.inr rfl)),rfl⟩
 .exact .inr ⟨.inl rfl,rfl⟩
 .exact .inr ⟨.inr rfl,rfl⟩
 .trivial
 .trivial
 .trivial
def PQ:Fq P w K mg base 2 a.bu Jd:=by
 refine fq G.bu.toDG ux (λr u=>⟨_,(oY (pH 4 ux (pI (pS U1 (qT (qb pj))) (pE (qy G) r G.i (qX v0 pb (pS (pO qv rfl G.g ql (qb U1)) pb)))))
 (oY (pH 5 ux (pI (pS U2 (qT (qb pj))) (pE (qy G) r G.i (qX v0 pb (pS (pO qv rfl G.g ql (qb U2)) pb)))))
 (oY (pH 6 ux (pS (pE (qy G) r G.i (qX v0 pb (pS U3 pb))) pb))
 (oY (pH 7 ux (pS (pE (qy G) r G.i (qX v0 pb (pS U3 pb))) pb))
 (oY (pH 8 ux (qT (pW (pK (qX pj v4 v5)) (pW (pK (qX pj v4 v6)) (pW (pK (qX pj v4 v6)) (qX (pK (qX pj v4 v6)) (pK (qX pj v4 v6)) (pK (pW pj (qX v4 v6 v7)))))))))
 (o9 (pz (pI (pS v8 (qT (pW (pK (pW pj (qX v4 v6 v7))) (qX (pK (qb pj)) (pK (rN pj v6)) (pK (rN pj v6)))))) (pE (qy G) r G.i (qX v0 pb pb)))))))))),?_⟩)
 rintro ds M Q ⟨c,o,n,own,nm,m,rfl,ho,hn,ol,nl,ml,q⟩
 have hz:=dH;have add:∀{M1:Mp} {p:Addr} {xs:QQQ} (f:Int) (nx:DK),qp M M1->oR M1 p=some (xs.map D.str)->xs.length<=100->(∀x M',qp M M'->nx (.str x) M')->∀r1,M1 r1=none->(oR (pB M1 r1 (.lst [D.str zz])) p).elim False λi=>(oR (pB M1 r1 (.lst [D.str zz])) r1).elim False λj=>i.length+j.length<=sizeLine/\∀r2,pB M1 r1 (.lst [D.str zz]) r2=none->(oR (pB (pB M1 r1 (.lst [D.str zz])) r2 (.lst (i++j))) p).elim False λys=>Iw [.int c,.int f,.int ((ys.length:Nat)+1)] (pB (pB M1 r1 (.lst [D.str zz])) r2 (.lst (i++j))) λy M2=>match y with
  | .int n=>(oR M2 r2).elim False λzs=>(wj zs n).elim False λd=>nx d M2
  | _=>False:=λ{M1 p xs} f nx s hx lx Xj r1 XO=>by
  have t1:=qp.new (c:=.lst [D.str zz]) XO;refine i' (t1.lst hx) (i' pA ⟨by rw[cS];show xs.length+1<=sizeLine;omega,λr2 Zn=>?_⟩);have t2:=qp.new (c:=.lst (xs.map D.str++[D.str zz])) Zn;obtain⟨hp,x,_,ex⟩:=Jx D.str (Ow xs zz) (m:=((xs.map D.str).length:Nat)+1) (by rw[cS,cW];rfl) c f;rw[dP]at ex;exact i' ((t1.trans t2).lst hx) ⟨c,f,_,rfl,hp,i' pA (i' ex (Xj x _ (s.trans (t1.trans t2))))⟩
 refine⟨oW rfl,add 16807 _ .refl ho ol λx M1 s1=>⟨oW rfl,add 39373 _ s1 (s1.lst hn) nl λy M2 s2=>?_⟩⟩;refine⟨c,_,_,rfl,by show(0:Int)<(m:Nat)+2;omega,⟨c,_,_,rfl,by show(0:Int)<(m:Nat)+2;omega,?_⟩⟩;generalize qk c 69621 ((m:Nat)+2) - 1=k0;refine⟨oW rfl,oW rfl,oW rfl,oW rfl,oW rfl,oW rfl,oW rfl,λr8 hr8=>⟨oW rfl,oW rfl,oW rfl,oW rfl,oW rfl,λr9 hr9=>?_⟩⟩;have t8:=qp.new (c:=.lst (((MR x y k0 (qk c 22695477 ((m:Nat)+2) - 1)).take 6).map tI.d)) hr8;have t9:=qp.new (c:=.lst (((MR x y k0 (qk c 22695477 ((m:Nat)+2) - 1)).drop 6).map tI.d)) hr9;refine i' (t9.lst pA) (i' pA ⟨by show 6+4<=sizeLine;omega,λr10 hr10=>?_⟩);obtain⟨hp,e,he,ee⟩:=Jx tI.d (xs:=MR x y k0 (qk c 22695477 ((m:Nat)+2) - 1)) (fB _ _) (m:=10) rfl c 1664525;exact⟨c,_,_,rfl,hp,i' pA (i' ee ⟨_,.refl,q _ e (s2.trans (t8.trans (t9.trans (.new hr10)))) (Np he)⟩)⟩
def K6:Fq P w K mg base 5 a.bv (La a):=by
 refine fq G.bv.toDG rn (λr u=>⟨_,(oY (pH 4 rn (pS (pS (pS (pS (pS (BN (qT (qb pj)) pb) (BN (qT (qb pj)) pb)) (BN (qT (qb pj)) pb)) (BN (qT (qb pj)) pb)) (qT (qX pj pj pj))) (BN (qT (qb pj)) pb)))
 (oY (pH 4 rn (pI v4 (pE (qy G) r G.i (qX U1 pb (pO qv rfl G.g ql (qb v4))))))
 (oY (pH 5 rn (pK (pW pj (qX pj pj pj))))
 (oY (pN (pD u v4 pj)
 (o9 (pH 5 rn (pK (rN pj pj))))
 pF)
 (oY (pN (pD u v4 pj)
 (o9 (pH 5 rn (pK (qb pj))))
 pF)
 (oY (pN (W3.b3 (yh (pD u v4 pj) (yh (pD u v4 pj) (xC (pD u v4 pj)))))
 (o9 (pH 5 rn (pK (qb pj))))
 pF)
 (oY (pN (pD u v4 pj)
 (o9 (pz (pK (qb pj))))
 pF)
 (oY (pN (pD u (pE (qy G) r G.i (qX U1 pb pb)) pb)
 (o9 (pz (pE (PQ G) r G.bu (pW U1 (qX U2 U3 (pO qv rfl G.g ql (qb (pq v0))))))))
 pF)
 (oY (pH 6 rn rD)
 (oY (pN (pD u v4 pj)
 (o9 (pH 6 rn (pE (J1 G) r G.bt (pW v0 (qX U1 v4 v5)))))
 pF)
 (oY (pN (pD u v6 rD)
 (oY (pH 7 rn (pI U2 (pE (qy G) r G.i (qX U1 pb (pO qv rfl G.g ql (qb U2))))))
 (o9 (pH 6 rn (pK (qX pj v7 (pI U3 (pE (qy G) r G.i (qX U1 pb (pO qv rfl G.g ql (qb U3))))))))))
 pF)
 (o9 (pz v6))))))))))))),?_⟩)
 rintro ds M Q ⟨A,V,l,c,o,n,own,nm,rfl,rd,wf,ha,ho,hn,one,nne,ol,nl,q⟩
 have hz:=dH;refine Pf (t:=Cz _ _) (λU M'=>qp M M'/\∃r,oR M' r=some (HV.map D.str)/\U=[some (.ref A.b),some (.int c),some (.ref o),some (.ref n),some (.ref r),none,none,none]) (λnx h=>?_) ?_
 .have Y2:∀{N:Mp} {U:uY} (w0:Str) (m:Int) (nx:DK),qp M N->(0<=m/\m<=10)->(∀r N',qp M N'->qp N N'->oR N' r=some ((List.replicate m.toNat w0).map D.str)->nx (.ref r) N')->Va (TY (vi (L3.c3 (.str w0)) xu)) (L3.c3 (.int m)) U N nx:=λ{N U} w0 m nx sn hm Xj=>by refine⟨oW rfl,λr1 XO=>?_⟩;refine i' pA ⟨⟨by omega,by omega,by show 1<=1000;decide⟩,λr2 Zn=>?_⟩;have t:=(qp.new (c:=.lst [D.str w0]) XO).trans (qp.new (c:=.lst (List.replicate m.toNat [D.str w0]).flatten) Zn);refine Xj r2 _ (sn.trans t) t (pA.trans (eO some ?_));rw[List.map_replicate];exact DU _ _
  have Yf:∀{N:Mp} {p r:Addr} {xs ys:QQQ} (nx:DK),qp M N->oR N p=some (xs.map D.str)->oR N r=some (ys.map D.str)->xs.length+ys.length<=100->(∀r N',qp M N'->oR N' r=some ((xs++ys).map D.str)->nx (.ref r) N')->Vd .Add (.ref p) (.ref r) N nx:=λ{N p r xs ys} nx sn hx hy hl Xj=>by refine i' hx (i' hy ⟨by rw[cS,cS];omega,λr2 Zn=>?_⟩);refine Xj r2 _ (sn.trans (.new Zn)) (pA.trans (eO some ?_));rw[dP]
  dsimp only[Cz,o3];refine Y2 "call" 5 _ .refl (by decide) λp1 N1 s1 _ l1=>Y2 "answer" 5 _ s1 (by decide) λq2 N2 s2 t2 l2=>Yf _ s2 (t2.lst l1) l2 (by decide) λp2 N3 s3 l3=>Y2 "hang" 2 _ s3 (by decide) λq4 N4 s4 t4 l4=>Yf _ s4 (t4.lst l3) l4 (by decide) λp5 N5 s5 l5=>Y2 "hold" 3 _ s5 (by decide) λq6 N6 s6 t6 l6=>Yf _ s6 (t6.lst l5) l6 (by decide) λp7 N7 s7 l7=>⟨oW rfl,λr8 hr8=>?_⟩;have t8:=qp.new (c:=.lst ((["back","hand","join"]:QQQ).map D.str)) hr8;exact Yf (ys:=["back","hand","join"]) _ (s7.trans t8) (t8.lst l7) pA (by decide) λp9 N9 s9 l9=>Y2 "turn" 3 _ s9 (by decide) λq10 N10 s10 t10 l10=>Yf _ s10 (t10.lst l9) l10 (by decide) λp11 N11 s11 l11=>h _ _ ⟨s11,p11,l11,rfl⟩
 rintro U M1 ⟨s1,r,lr,rfl⟩
 have s1n:=s1.lst hn;have s1o:=s1.lst ho;obtain⟨hp,w0,hw,ew⟩:=uB D.str (show HV≠[]from fB _ _) c 48271;refine i' lr ⟨c,_,_,rfl,hp,i' lr (i' ew ?_)⟩;obtain⟨Yy,x1,hx1,ex1⟩:=uB D.str one c 16807;obtain⟨Xf,x2,hx2,ex2⟩:=uB D.str nne c 39373;have Y0:=rd.sub s1;have lc:((A.cs.map λk=>D.ref k.p).length:Int)=(V.calls.length:Nat):=by rw[cS,rd.bd.len]
 clear lr hp ew;have hw:w0="call"\/w0="turn"\/SU w0:=by unfold HV at hw;simp only[de,dD,eX]at hw;unfold SU;rcases hw with h|h|h|h|h|h|h|h|h|h|h|h|h|h|h|h|h|h|h|h|h<;>simp[h]
 have Xa:∀M' (e:tI),qp M1 M'->e.m7->∃W9,qp W9 M'/\Q e.d W9:=λM' e s f=>⟨M',.refl,q M' e (s1.trans s) f⟩;rcases hw with rfl|rfl|hw
 .refine⟨oW rfl,c,_,_,rfl,by decide,qA (c:=qk c 950706376 9==0) (λ_=>oZ Y0.bd.at_ (i' rfl (i' Y0.bd.ca ?_))) (λ_=>?_)⟩
  .rw[lc];exact⟨c,o,n,own,nm,V.calls.length,rfl,s1o,s1n,ol,nl,rd.k,Xa⟩
  exact i' s1o ⟨c,_,_,rfl,Yy,i' s1o (i' ex1 (i' s1n ⟨c,_,_,rfl,Xf,i' s1n (i' ex2 ⟨oW rfl,Xa M1 (.call x1 x2) .refl trivial⟩)⟩))⟩
 .exact⟨oW rfl,oW rfl,Xa M1 .turn .refl trivial⟩
 have lany:Jd [.int c,.ref o,.ref n,.int ((V.calls.length:Nat):Int)] M1 λd M'=>∃W9,qp W9 M'/\Q d W9:=⟨c,o,n,own,nm,V.calls.length,rfl,s1o,s1n,ol,nl,rd.k,Xa⟩;have hw':=hw;rcases hw with rfl|rfl|rfl|rfl|rfl|rfl
 all_goals
  first
   | refine⟨oW rfl,oW rfl,c,_,_,rfl,by decide,qA (c:=qk c 950706376 9==0) (λ_=>oZ Y0.bd.at_ (i' rfl (i' Y0.bd.ca ?_))) (λ_=>⟨A,V,l,c,_,rfl,Y0,wf,ha,hw',λM' s=>⟨?_,λe f=>?_⟩⟩)⟩
   | refine⟨oW rfl,c,_,_,rfl,by decide,qA (c:=qk c 950706376 9==0) (λ_=>oZ Y0.bd.at_ (i' rfl (i' Y0.bd.ca ?_))) (λ_=>⟨A,V,l,c,_,rfl,Y0,wf,ha,hw',λM' s=>⟨?_,λe f=>?_⟩⟩)⟩
  .rw[lc];exact lany
  .exact i' (s.lst s1o) ⟨c,_,_,rfl,Yy,i' (s.lst s1o) (i' ex1 (i' (s.lst s1n) ⟨c,_,_,rfl,Xf,i' (s.lst s1n) (i' ex2 ⟨oW rfl,Xa M' (.call x1 x2) s trivial⟩)⟩))⟩
  .cases e with
   | call y z=>exact Xa M' (.call y z) s f
   | num v y ns=>exact Xa M' (.num v y ns) s f
   | turn=>exact Xa M' .turn s f
   | sw b i=>exact Xa M' (.sw b i) s f
def NT(a:Ad):qY:=λds M Q=>Bg λr1 r2 r3 (l:pC)=>ds=[.tup [.ref r1,.ref r2,.ref r3]]/\oR M r1=some (l.mF.map qD)/\oR M r2=some (l.groups.map qL)/\oR M r3=some (l.mD.map uT)/\qV l/\∀p M',qp M M'->se a M' p l->(∀N,(∀x c,M x=none->M' x=some c->N x=some c)->se a N p l)->Q (.ref p) M'
def NE:qY:=λds M Q=>∃ns,ds=[.rl (List.map D.int ns)]/\Q (.int (qk (cell ns 0) 1664525 24)) M
def NP(a:Ad):qY:=λds M Q=>F0 λA V l ns k=>ds=[.ref A.b,.rl (List.map D.int ns),.int k]/\Rd a M A V l/\WF l V/\(∀k∈V.calls,k.at_.length<=100)/\(0<=k/\k<=1000)/\∀M' (e:tI),qp M M'->e.m7->Q e.d M'
structure Cy(a:Ad)(M0 M:Mp)(A:sP)(V:qd)(l:pC)(p:Addr)(h:Int)(F:QXQ)(c n:Nat):Prop where
 cu:tN a M0 M A.b A V l c n
 wf:WF l V
 oks:C5 (V0 p h l F) V.log
 run:V=qu (V0 p h l F) V.log
 ps:V.ps.length<=3
def Cy.after{V:qd}{p:Addr}{F:QXQ}{c n:Nat}{e:tI}(g:Cy a M0 M A V l p h F c n)(f:e.m7)(hr:vL l V e=none){c' n':Nat}(cu:tN a M0 M' A.b A' (qu V (uu l V e)) l c' n'):Cy a M0 M' A' (qu V (uu l V e)) l p h F c' n':=by
 have ok:=Re g.cu.ok g.wf (λk hk=>(g.cu.sz.cs k hk).2.2) f hr;have ZJ:tN a M0 M' A'.b A' (qu V (uu l V e)) l c' n':=by rw[cu.b];exact cu
 refine⟨ZJ,Q2 g.cu.ok g.wf f hr,?_,?_,?_⟩
 .rw[Ba];exact wu g.oks (by rw[<-g.run];exact ok)
 .rw[Ba,rc,<-g.run]
 .rw[Q4 g.cu.ok g.wf f hr];exact g.ps
def Cy.sub{V:qd}{p:Addr}{F:QXQ}{c n:Nat}(g:Cy a M0 M A V l p h F c n)(s:qp M M'):Cy a M0 M' A V l p h F c n:=⟨g.cu.sub s,g.wf,g.oks,g.run,g.ps⟩
def Cy.mono{V:qd}{p:Addr}{F:QXQ}{c n c' n':Nat}(g:Cy a M0 M A V l p h F c n)(hc:c<=c')(hn:n<=n'):Cy a M0 M A V l p h F c' n':=⟨g.cu.mono hc hn,g.wf,g.oks,g.run,g.ps⟩
def J4{pre post:T0 D}{d:D}(e:pre++d::post=(List.range n).map λi=>D.int (1+(i:Nat))):d=.int (1+(pre.length:Nat))/\pre.length<n:=by
 have h:((List.range n).map λi=>D.int (1+(i:Nat)))[pre.length]?=some d:=by rw[<-e];simp
 have hl:pre.length<n:=by
  have:=(cU.mp h).1
  simpa using this
 rw[dz,iY hl]at h;exact⟨(df h).symm,hl⟩
def F9:Fq P w K mg base 9 a.ai (NT a):=by
 refine fq G.ai.toDG Ge (λr u=>⟨_,(o9 (pz (uL (PC G) r G.h G.b8 G.al.toDG (qX (pT su rfl G.r sj (qb (pI v0 pb))) (pT su rfl G.r sj (qb (pI v0 pb))) (pT su rfl G.r sj (qb (pI v0 pb))))))),?_⟩)
 rintro ds M Q ⟨r1,r2,r3,l,rfl,h1,h2,h3,ok,q⟩
 refine i' h1 λp1 Yy=>?_;have t1:=qp.new (c:=.lst (l.mF.map qD)) Yy;have l1:=@pA M p1 (l.mF.map qD);generalize pB M p1 (.lst (l.mF.map qD))=M1 at t1 l1 ⊢;refine i' (t1.lst h2) λp2 Xf=>?_;have t2:=qp.new (c:=.lst (l.groups.map qL)) Xf;have l2:=@pA M1 p2 (l.groups.map qL);generalize pB M1 p2 (.lst (l.groups.map qL))=M2 at t2 l2 ⊢;refine i' ((t1.trans t2).lst h3) λp3 hp3=>?_;have t3:=qp.new (c:=.lst (l.mD.map uT)) hp3;have l3:=@pA M2 p3 (l.mD.map uT);generalize pB M2 p3 (.lst (l.mD.map uT))=M3 at t3 l3 ⊢;refine λp hp=>?_;have t4:=qp.new (c:=.ins a.h []) hp;refine⟨p,p1,p2,p3,l,rfl,pL,(t2.trans (t3.trans t4)).lst l1,(t3.trans t4).lst l2,t4.lst l3,ok,λM5 kp pa pf=>⟨rfl,_,.refl,q p M5 ?_ pa λN H=>pf N λx c hx e=>H x c ?_ e⟩⟩
 .exact t1.trans (t2.trans (t3.trans λx c e=>kp x c (λz=>by rw[z,hp]at e;cases e) (t4 x c e)))
 .have s3:=t1.trans (t2.trans t3);rcases hx with z|z
  .rw[z];exact s3.none hp
  .exact s3.none (t4.none z)
def NS:Fq P w K mg base 2 a.bw NE:=by
 refine fq G.bw.toDG Gk (λr u=>⟨_,(o9 (pz (pE (qy G) r G.i (qX (pE (Gn G) r G.I (rN v0 pb)) pb pb)))),?_⟩)
 rintro ds M Q ⟨ns,rfl,q⟩
 exact⟨ns,0,rfl,_,_,_,rfl,by decide,M,.refl,q⟩
def Mg:Fq P w K mg base 6 a.bx (NP a):=by
 refine fq G.bx.toDG GE (λr u=>⟨_,(o9 (pz (pE (K6 G) r G.bv (pW v0 (qX (pS (pE (Gn G) r G.I (rN U1 U2)) (pS (pS pb U2) U2)) (vD (pq v0) G.h.toCls G.L (sy G) r) (vD (pq v0) G.h.toCls G.am (yi G) r)))))),?_⟩)
 rintro ds M Q ⟨A,V,l,ns,k,rfl,rd,wf,ha,hk,q⟩
 obtain⟨ph,gr,ws,Yz,pr,gd,rs,i1,_⟩:=rd.pl;have p1:=rd.ok.p1;have p8:=rd.ok.p8;have g3:=rd.ok.g3;have pl:l.pn.length=l.mF.length:=cS ..;have nl:l.nm.length=l.mF.length+l.groups.length:=by unfold pC.nm pC.pn pC.gn;rw[cW,cS,cS]
 refine⟨ns,k,rfl,?_⟩;refine⟨.inl ⟨by decide,by decide⟩,.inr ⟨by omega,by omega⟩,?_⟩;refine oZ rd.bd.at_ (i' rfl (oZ i1 ⟨rfl,_,⟨rfl,rfl⟩,V.p,l,rfl,rd.pl,by omega,λq1 XG=>?_⟩));have t1:=qp.new (c:=.lst (l.pn.map D.str)) XG;have l1:=@pA M q1 (l.pn.map D.str);show Ah (pB M q1 (.lst (l.pn.map D.str)) A.b) _;generalize pB M q1 (.lst (l.pn.map D.str))=M1 at t1 l1 ⊢;refine oZ (t1 _ _ rd.bd.at_) (i' rfl (oZ (t1 _ _ i1) ⟨rfl,_,⟨rfl,rfl⟩,V.p,l,rfl,rd.pl.sub t1,by omega,by omega,λq2 Yq=>?_⟩));have t2:=qp.new (c:=.lst (l.nm.map D.str)) Yq;exact⟨A,V,l,_,q1,q2,l.pn,l.nm,rfl,rd.sub (t1.trans t2),wf,ha,t2.lst l1,pA,λz=>by rw[z]at pl;simp only[dM]at pl;omega,λz=>by rw[z]at nl;simp only[dM]at nl;omega,by omega,by omega,λM' e s f=>⟨M',.refl,q M' e (t1.trans (t2.trans s)) f⟩⟩
theorem Ex:∀(n:Nat) (d:D),sI n d=true->sI (n+1) d=true
 | 0,d,h=>by
  cases d with
  | tup ds=>cases h
  | ref _=>cases h
  | ty _=>cases h
  | rl _=>cases h
  | _=>rfl
 | n+1,d,h=>by
  cases d with
  | tup ds=>exact eC.mpr λd hd=>Ex n d (eC.mp (show ds.all (sI n)=true from h) d hd)
  | ref _=>cases h
  | ty _=>cases h
  | rl _=>cases h
  | _=>rfl
noncomputable def zv(A:sP)(M:Mp):Mp:=λx=>if x∈A.foot then none else M x
structure Lp(a:Ad)(M0 N M:Mp)(b:Addr)(A:sP)(V:qd)(l:pC)(m:Nat):Prop where
 cu:tN a M0 M b A V l (1+m) (3+2200*m)
 wf:WF l V
 ps:V.ps.length<=3
 own:∀x c,N x=some c->M x=some c/\x∉A.foot
variable {N:Mp}{m:Nat}
def Gv{V:qd}{p:Addr}{F:QXQ}(h:WF l V):WF l (V.at_ p F):=⟨h.ok,h.un,h.ln,h.wt,h.nx⟩
theorem Nr:∀(es:T0 Ev) (V:qd),(qu V es).fo=V.fo
 | [],_=>rfl
 | e::r,V=>(Nr r _).trans (Oy V e)
def IK{x:Addr}{c:uK}(e:zv A M x=some c):M x=some c/\x∉A.foot:=by
 unfold zv at e;split at e
 .cases e
 .rename_i h;exact⟨e,h⟩
def zZ{A:sP}{M:Mp}{x:Addr}{c:uK}(e:M x=some c)(n:x∉A.foot):zv A M x=some c:=(cX n).trans e
def Cj{A:sP}{x:Addr}(n:x∈A.foot):zv A M x=none:=cZ n
def pG.oo{V:qd}(h:pG a M A V)(st:qJ A1 M A2 M')(h1:∀x∈A1.foot,x∉A.foot)(h2:V.fo=A1.foot)(h3:∀x∈A2.foot,∃c,M' x=some c):pG a M' A (V.at_ V.p A2.foot):=by
 have b:=h.frame st h1 λx hx=>.inl (h2 ▸ hx);refine⟨b.at_,b.ca,b.le,b.nx,b.on,b.lo,b.len,λi k c e1 e2=>?_,b.nl,b.np,h3⟩;obtain⟨ad,md,g1,g2,g3,g4,g5,g6⟩:=h.cs i k c e1 e2;obtain⟨f1,f2,f3,f4,f5,f6,f7⟩:=A.mO;have no:∀{x:Addr} {ds:T0 D},x∉A.lists++V.fo->oR M x=some ds->oR M' x=some ds/\x∉A.lists++A2.foot:=λ{x ds} hx e=>by
  have n1:x∉A1.foot:=λz=>hx (d9 _ (h2 ▸ z));refine⟨rM (st.1 x _ n1 (pU e)),λz=>?_⟩;rcases dU.mp z with z|z
  .exact hx (fg _ z)
  .rcases st.2.1 x z with y|y
   .exact n1 y
   .rw[pU e]at y;cases y
 have hf:∀x∈A.foot,∀c,M x=some c->M' x=some c:=λx hx c e=>st.1 x c (λz=>h1 x z hx) e;exact⟨ad,md,hf _ (f6 k (qG e1)) _ g1,rM (hf _ (f7 k (qG e1)) _ (pU g2)),(no g5 g3).1,(no g6 g4).1,(no g5 g3).2,(no g6 g4).2⟩
structure Tw(a:Ad)(N M:Mp)(b:Addr)(A:sP)(V:qd)(l:pC)(c n:Nat)(b2:Addr)(A2:sP)(V2:qd)(l2:pC)(c2 n2:Nat):Prop where
 x:tN a N M b A V l c n
 y:tN a N M b2 A2 V2 l2 c2 n2
 f:V.fo=A2.foot
 g:V2.fo=A.foot
 ne:∀x∈A.foot,x∉A2.foot
variable {b2:Addr}{A2:sP}{V2:qd}{l2:pC}{c' n' c2 n2:Nat}
section
variable {c:Nat}
def Tw.swap(t:Tw a N M b A V l c n b2 A2 V2 l2 c2 n2):Tw a N M b2 A2 V2 l2 c2 n2 b A V l c n:=⟨t.y,t.x,t.g,t.f,λx h z=>t.ne x z h⟩
def Tw.sub(t:Tw a N M b A V l c n b2 A2 V2 l2 c2 n2)(s:qp M M'):Tw a N M' b A V l c n b2 A2 V2 l2 c2 n2:=⟨t.x.sub s,t.y.sub s,t.f,t.g,t.ne⟩
def Tw.one(t:Tw a N M b A V l c n b2 A2 V2 l2 c2 n2)(st:qJ A M A' M')(cu:tN a N M' b A' V' l c' n')(hf:V'.fo=V.fo):Tw a N M' b A' V' l c' n' b2 A2 (V2.at_ V2.p A'.foot) l2 c2 n2:=by
 have dm:=cu.bd.oC.2;refine⟨cu,⟨t.y.bd.oo st t.ne t.g dm,t.y.oB,cu.s0,t.y.fr,t.y.b,⟨t.y.sz.lo,t.y.sz.le,t.y.sz.ca,t.y.sz.ps,t.y.sz.cs⟩,t.y.ok,t.y.on⟩,hf.trans t.f,rfl,λx h z=>?_⟩;rcases st.2.1 x h with y|y
 .exact t.ne x y z
 .exact t.y.bd.nQ y z
def Tw.mono(t:Tw a N M b A V l c n b2 A2 V2 l2 c2 n2){c3 n3 c4 n4:Nat}(h1:c<=c3)(h2:n<=n3)(h3:c2<=c4)(h4:n2<=n4):Tw a N M b A V l c3 n3 b2 A2 V2 l2 c4 n4:=⟨t.x.mono h1 h2,t.y.mono h3 h4,t.f,t.g,t.ne⟩
end
def pG.refo{V:qd}{F:QXQ}(h:pG a M A V)(s:qp M M')(hn:∀x∈F,M x=none)(hF:∀x∈F,∃c,M' x=some c):pG a M' A (V.at_ V.p F):=by
 have b:=h.sub s;refine⟨b.at_,b.ca,b.le,b.nx,b.on,b.lo,b.len,λi k c e1 e2=>?_,b.nl,b.np,hF⟩;obtain⟨ad,md,g1,g2,g3,g4,g5,g6⟩:=h.cs i k c e1 e2;have no:∀{x:Addr} {ds:T0 D},x∉A.lists++V.fo->oR M x=some ds->x∉A.lists++F:=λ{x ds} hx e z=>by
  rcases dU.mp z with z|z
  .exact hx (fg _ z)
  .have:=hn x z;rw[pU e]at this;cases this
 exact⟨ad,md,s _ _ g1,s.lst g2,s.lst g3,s.lst g4,no g5 g3,no g6 g4⟩
def Tw.join{M01 M1 M3 M02 M4 M2 M:Mp}{V V2:qd}{c n d k:Nat}(c1:tN a M01 M1 b A V l c n)(s1:qp M1 M3)(s2:qp M3 M02)(pf:∀N,(∀x c,M3 x=none->M02 x=some c->N x=some c)->se a N V2.p l2)(s4:qp M02 M4)(c2:tN a M4 M2 b2 A2 V2 l2 d k)(s3:qp M2 M)(hf:V2.fo=A.foot):Tw a (zv A2 (zv A M)) M b A (V.at_ V.p A2.foot) l c n b2 A2 V2 l2 d k:=by
 have d1:∀x∈A.foot,∃c,M3 x=some c:=λx hx=>by obtain⟨c,e⟩:=c1.bd.oC.2 x hx;exact⟨c,s1 x c e⟩
 have s24:=s2.trans s4;have ne:∀x∈A.foot,x∉A2.foot:=λx hx z=>by obtain⟨c,e⟩:=d1 x hx;have:=c2.fr x z;rw[s24 x c e]at this;cases this
 have s23:=c2.s0.trans s3;have s14:=s1.trans s24;have sM:=s14.trans s23;have k1:qp M01 (zv A2 (zv A M)):=λx c e=>by
  have e1:=c1.s0 x c e;refine zZ (zZ (sM x c e1) λz=>?_) λz=>?_
  .rw[c1.fr x z]at e;cases e
  .have:=c2.fr x z;rw[s14 _ _ e1]at this;cases this
 have k2:se a (zv A2 (zv A M)) V2.p l2:=pf _ λx c e1 e2=>zZ (zZ (s23 x c (s4 x c e2)) λz=>by
  obtain⟨d,e⟩:=d1 x z;rw[e1]at e;cases e) λz=>by have:=c2.fr x z;rw[s4 x c e2]at this;cases this
 have k3:qp (zv A2 (zv A M)) M:=λx c e=>(IK (IK e).1).1;have d2:∀x∈A2.foot,∃c,M x=some c:=λx hx=>by obtain⟨c,e⟩:=c2.bd.oC.2 x hx;exact⟨c,s3 x c e⟩
 refine⟨⟨c1.bd.refo sM (λx hx=>s14.none (c2.fr x hx)) d2,c1.oB.sub k1,k3,λx hx=>?_,c1.b,⟨c1.sz.lo,c1.sz.le,c1.sz.ca,c1.sz.ps,c1.sz.cs⟩,c1.ok,c1.on⟩,⟨c2.bd.sub s3,k2,k3,λx hx=>Cj hx,c2.b,c2.sz,c2.ok,c2.on⟩,rfl,hf,ne⟩;by_cases z:x∈A2.foot
 .exact Cj z
 .exact(cX z).trans (Cj hx)
variable {p:Addr}{F:QXQ}
def Pc{c z:Str}:zB l (V.at_ p F) c z=zB l V c z:=by
 have h:zg l (V.at_ p F) c z=zg l V c z:=funext λw=>by cases w<;>rfl
 unfold zB;rw[h];rfl
theorem GC{c:Str}:∀(n:Nat) (z:Str) (way:QQQ) (st:sR),uH l (V.at_ p F) c n z way st=uH l V c n z way st
 | 0,_,_,_=>rfl
 | n+1,z,way,st=>by unfold uH;rw[Pc];simp only[GC n];rfl
def QT:uF l (V.at_ p F) i=uF l V i:=by
 unfold uF ui;simp only[GC];have h:∀e,rR l (V.at_ p F) i e=rR l V i e:=λe=>by cases e<;>rfl
 simp only[h];rfl
def Qv:so l (V.at_ p F) i fs=so l V i fs:=by
 unfold so;split
 .dsimp only;rw[wx,QT]
 .rfl
def Su:wX l (V.at_ p F) i=wX l V i:=rfl
theorem JM:∀(is:T0 Nat) (V:qd),qR l is (V.at_ p F)=qR l is V
 | [],_=>rfl
 | i::r,V=>by unfold qR;rw[Su,Qv,wx,JM r]
def QG(e:tI):uu l (V.at_ p F) e=uu l V e:=by
 cases e with
 | call y z=>show xR l (V.at_ p F) y z=xR l V y z;unfold xR;dsimp only;rw[wx,QT];rfl
 | num w x ns=>
  match ns with
  | []=>rfl
  | [_]=>rfl
  | [_,_]=>rfl
  | _::_::_::_=>rfl
 | turn=>show xS l (V.at_ p F)=xS l V;unfold xS;rw[Fu,JM];rfl
 | sw b i=>rfl
def EA(e:tI):vL l (V.at_ p F) e=vL l V e:=by cases e<;>rfl
seal L3.E3 L3.B3 L3.A3 L3.S3 L3.HC
def K3:qY:=λds M Q=>∃ns:T0 Int,ds=[.rl (ns.map D.int)]/\ns.length<=63/\Q (.bl true) M
def tN.szs{V V1:qd}{c n c' n':Nat}{p:Addr}{F:QXQ}(h:tN a N M b A V l c n)(z:Sz V1 c' n')(e:V=V1.at_ p F):tN a N M b A V l c' n':=⟨h.bd,h.oB,h.s0,h.fr,h.b,by subst e;exact⟨z.lo,z.le,z.ca,z.ps,z.cs⟩,h.ok,h.on⟩
inductive St(a:Ad)(M0 M:Mp)(b p:Addr)(l:pC)(h:Int)(m:Nat)(ct k:Int):D->Prop
 | one (A:sP) (V:qd):Cy a M0 M A V l p h [] (1+m) (3+2200*m)->A.b=b->St a M0 M b p l h m ct k .mG
 | two (N:Mp) (A:sP) (V:qd) (b2:Addr) (A2:sP) (p2:Addr):qp M0 N->Tw a N M b A V l (1+m) (3+2200*m) b2 A2 (V.at_ p2 A.foot) l (1+m) (3+2200*m)->WF l V->V.ps.length<=3->ct<=k->St a M0 M b p l h m ct k (.ref b2)
def St.up{ct k k':Int}{o:D}(s:St a M0 M b p l h m ct k o)(hk:k<=k'):St a M0 M b p l h m ct k' o:=by
 cases s with
 | one A V g e=>exact .one A V g e
 | two N A V b2 A2 p2 s t w ps c=>exact .two N A V b2 A2 p2 s t w ps (Int.le_trans c hk)
noncomputable def K8(ns:T0 Int)(r1 r2 r3:Addr)(hh:Int)(b:Addr)(N ct:Int)(ys:T0 (Option D)):T0 (Option D):=some (.rl (ns.map D.int))::some (.tup [.ref r1,.ref r2,.ref r3])::some (.int hh)::some (.ref b)::some (.int N)::some (.int ct)::ys
def K1{x y:Addr}{es:T0 Ev}(h1:oR M x=some (L3.tL (es.map Ev.d) u v))(h2:oR M y=some (L3.tL (es.map Ev.d) u v)):ym M 9 (.ref x) (.ref y)=some true:=Aa h1 h2 λd hd=>by unfold L3.tL at hd;obtain⟨v,_,rfl⟩:=dB.mp (iV (iU hd));exact xj 7 _ (Ex 6 _ (IA v))
def S7{x y:Addr}{es:T0 Ev}(h1:oR M x=some (es.map Ev.d))(h2:oR M y=some (es.map Ev.d)):ym M 9 (.ref x) (.ref y)=some true:=Aa h1 h2 λd hd=>by obtain⟨v,_,rfl⟩:=dB.mp hd;exact xj 7 _ (Ex 6 _ (IA v))
def RX:Fq P w K mg base 17 a.ak K3:=by
 refine fq G.ak.toDG uN (λr u=>⟨_,(oY (pH 1 uN (pE (Lx G) r G.bq (rN v0 pb)))
 (oY (pH 2 uN (pE (NS G) r G.bw (qb v0)))
 (oY (pH 3 uN (uL (GZ G) r G.c G.bW G.R.toDG (rN (pE (F9 G) r G.ai (qb U1)) U2)))
 (oY (pH 4 uN (pO (Nf rfl) rfl G.b0 KY (rN (pO qv rfl G.g ql (qb v0)) pb)))
 (oY (pH 5 uN (pS pb (pE (qy G) r G.i (qX (pE (Gn G) r G.I (rN v0 pb)) pb (pO (SE rfl) rfl G.cB RS (rN pb v4))))))
 (oY (pH 6 uN rD)
 (oY (uM fu rfl (Kb rfl G.aa (rN pb v4)) (sH 7 uN)
 (oY (pN (pD u v7 v5)
 (o9 (pH 6 uN (pE (GK G) r G.aU (qX (pE (F9 G) r G.ai (qb U1)) U2 (pT su rfl G.r sj (qb (pq U3)))))))
 pF)
 (oY (pH 8 uN (pE (Mg G) r G.bx (qX U3 v0 v7)))
 (oY (pH 9 uN (pO qv rfl G.g ql (qb (pq U3))))
 (oY (pH 10 uN (pE (LD G) r G.aj (rN U3 v8)))
 (o9 (pN (pD u v6 rD)
 (o9 (pN (W3.b3 (yh (pD u (pE (LD G) r G.aj (rN v6 v8)) WW) (xC (pD u (rL (pq v6) (sO v9) sS) (rL (pq U3) (sO v9) sS)))))
 (o9 (pz yo))
 pF))
 pF)))))))
 (oY (pN (pD u v6 rD)
 (o9 (pz yo))
 pF)
 (o9 (pz (sQ (qc u (pE (CH G) r G.ac (qb v6)) (pE (CH G) r G.ac (qb U3))) (sQ (qc u (pq v6) (pq U3)) (sA (qc u (pq v6) (pq U3))))))))))))))),?_⟩)
 rintro ds M Q ⟨ns,rfl,hns,q⟩
 have hz:=dH;have ok:qV (B4 ns 4):=Oz (by decide) (by decide);refine⟨ns,4,rfl,by decide,by decide,λr1 r2 r3 M1 s1 h1 h2 h3=>?_⟩;generalize B4 ns 4=l at h1 h2 h3 ok;refine⟨ns,rfl,?_⟩;generalize qk (cell ns 0) 1664525 24=hh;refine⟨r1,r2,r3,l,rfl,h1,h2,h3,ok,λp M2 s2 pa _=>λb hb=>?_⟩;have t1:=qp.new (c:=.ins a.c []) hb;refine⟨b,p,_,[],l,rfl,pL,pa.sub t1,ok,λz=>?_,(λx hx=>by cases hx),λM3 A eb kp fr bd=>⟨rfl,?_⟩⟩
 .obtain⟨ph,gr,ws,Yz,pr,gd,rs,i1,_⟩:=pa;rw[z,hb]at i1;cases i1
 have s3:qp M2 M3:=λx c e=>kp x c (λz=>by rw[z,hb]at e;cases e) (t1 x c e);have oB:Cy a M2 M3 A (V0 p hh l []) l p hh [] 1 3:=⟨⟨bd,pa,s3,λx hx=>?_,rfl,⟨eD _,eD _,eD _,zS ok,λk hk=>by cases hk⟩,ok,cS ..⟩,V4 ok,trivial,rfl,zS ok⟩
 rotate_left
 .rcases fr x hx with z|z
  .rw[z];exact hb
  .exact t1.none z
 dsimp only[uw];have h1:=s2.lst h1;have h2:=s2.lst h2;have h3:=s2.lst h3;have s02:=s1.trans s2;clear t1 kp fr bd pa s3 hb s2 s1;refine Pf (t:=Cz _ _) (λU M'=>M3=M'/\∃N:Int,(0<=N/\N<=63)/\U=[some (.rl (ns.map D.int)),some (.tup [.ref r1,.ref r2,.ref r3]),some (.int hh),some (.ref b),some (.int N),none,none,none,none,none,none]) (λnx h=>h _ _ ⟨rfl,if (63:Int)<((ns.map D.int).length:Nat)then(63:Int)else((ns.map D.int).length:Nat),by split<;>omega,rfl⟩) ?_
 rintro U M' ⟨rfl,N,hN0,rfl⟩
 refine Pf (t:=Cz _ _) (λU M'=>M3=M'/\∃ct:Int,U=K8 ns r1 r2 r3 hh b N ct [none,none,none,none,none]) (λnx h=>⟨ns,1,rfl,_,_,_,rfl,?_,h _ _ ⟨rfl,_,rfl⟩⟩) ?_
 .split<;>omega
 rintro U M' ⟨rfl,ct,rfl⟩
 refine Pf (t:=Cz _ _) (λU M'=>M3=M'/\U=K8 ns r1 r2 r3 hh b N ct [some .mG,none,none,none,none]) (λnx h=>h _ _ ⟨rfl,rfl⟩) ?_
 rintro U M' ⟨rfl,rfl⟩
 refine Pf (t:=UW _ _ _) (λU M'=>(∃o m k,St a M2 M' b p l hh m ct k o/\m<=62/\∃y7 y8 y9 ZL,U=K8 ns r1 r2 r3 hh b N ct [some o,y7,y8,y9,ZL])) (λnx Xj=>?_) ?_
 .refine⟨rfl,⟨by decide,by decide,by omega,by omega⟩,?_⟩;refine wG ((List.range (N - 1).toNat).map λn=>D.int (1+(n:Nat))) (λpre U M'=>(∃o,St a M2 M' b p l hh pre.length ct pre.length o/\∃y7 y8 y9 ZL,U=K8 ns r1 r2 r3 hh b N ct [some o,y7,y8,y9,ZL])) (λ_ _ _ _=>trivial) _ [] _ _ rfl ⟨.mG,.one A _ oB eb,none,none,none,none,rfl⟩ ?_ ?_
  .clear oB eb
   rintro pre d post e U M' ⟨o,st,y7,y8,y9,ZL,rfl⟩ nx2 YF
   obtain⟨rfl,Xg⟩:=J4 e;have Xg:pre.length<62:=by omega
   rw[cW,dN]at YF;generalize pre.length=m at st Xg YF;refine Pf (t:=P9 _ _ _) (λU M3=>(∃o,St a M2 M3 b p l hh m ct (m+1:Nat) o/\U=K8 ns r1 r2 r3 hh b N ct [some o,some (.int (1+(m:Nat))),y8,y9,ZL])) (λVG h=>?_) ?_
   .refine qA (c:=(1+((m:Nat):Int))==ct) (λc1=>?_) (λc1=>h _ _ ⟨o,st.up (by omega),rfl⟩);have c1:=eq_of_beq c1;cases st with
    | two N A V b2 A2 p2 s t w ps c=>omega
    | one A V g eb=>
     subst eb;have s0:=g.cu.s0;refine⟨r1,r2,r3,l,rfl,s0.lst h1,s0.lst h2,s0.lst h3,ok,λp2 M4 s4 pa2 pf=>?_⟩;have g4:=g.sub s4;refine oZ g4.cu.at_ (i' rfl (i' g4.cu.bd.lo λr hr=>?_));have t5:=qp.new (c:=.lst (V.log.map Ev.d)) hr;refine⟨p2,hh,r,A.foot,l,V.log,rfl,pa2.sub t5,ok,λx hx=>(g4.cu.bd.oC.2 x hx).imp λc e=>t5 x c e,pA,by have:=g.cu.sz.lo;omega,Mc p2 A.foot _ (V0 p hh l []) g.oks,λM6 A2 c=>?_⟩;have eV:qu (V0 p2 hh l A.foot) V.log=V.at_ p2 A.foot:=(wx p2 A.foot V.log (V0 p hh l [])).trans (by rw[<-g.run]);rw[eV]at c;have tw:=Tw.join g.cu .refl s4 pf t5 c .refl rfl;have sN:qp M2 (zv A2 (zv A M6)):=λx d e=>by
      have e1:=t5 x d (s4 x d (s0 x d e));refine zZ (zZ (c.s0 x d e1) λz=>?_) λz=>?_
      .rw[g.cu.fr x z]at e;cases e
      .rw[c.fr x z]at e1;cases e1
     exact h _ _ ⟨_,.two _ A (V.at_ V.p A2.foot) A2.b A2 p2 sN ⟨tw.x,tw.y.szs tw.x.sz rfl,tw.f,tw.g,tw.ne⟩ (Gv g.wf) g.ps (by omega),rfl⟩
   .rintro U M3 ⟨o,st,rfl⟩
    cases st with
    | one A V g eb=>subst eb;refine⟨A,V,l,ns,_,rfl,g.cu.rd (by omega) g.wf,g.wf,λk hk=>(g.cu.sz.cs k hk).2.1,⟨by omega,by omega⟩,λM4 e s f=>?_⟩;have g:=g.sub s;refine oZ g.cu.at_ (i' rfl (i' g.cu.bd.lo ?_));exact⟨M2,A.b,A,V,l,_,_,e,rfl,g.cu,by omega,by omega,g.wf,f,λhr M5 A5 c5 YL=>YF _ _ ⟨.mG,.one A5 _ ((g.after f hr c5).mono (by omega) (by omega)) c5.b,_,_,_,_,rfl⟩,λw0 _=>YF _ _ ⟨.mG,.one A V (g.mono (by omega) (by omega)) rfl,_,_,_,_,rfl⟩⟩
    | two N A V b2 A2 p2 sN tw wf ps hct=>
     have eb:=tw.x.b;subst eb;refine⟨A,V,l,ns,_,rfl,tw.x.rd (by omega) wf,wf,λk hk=>(tw.x.sz.cs k hk).2.1,⟨by omega,by omega⟩,λM4 e s f=>?_⟩;have tw:=tw.sub s;refine oZ tw.x.at_ (i' rfl (i' tw.x.bd.lo ?_));refine⟨N,A.b,A,V,l,_,_,e,rfl,tw.x,by omega,by omega,wf,f,λhr M5 A5 c5 YL=>?_,λw0 hw0=>?_⟩
     .have t1:=tw.one YL c5 (Nr _ _);have wf5:=Q2 tw.x.ok wf f hr;have ps5:(qu V (uu l V e)).ps.length<=3:=by rw[Q4 tw.x.ok wf f hr];exact ps
      refine⟨N,b2,A2,_,l,_,_,e,rfl,t1.y,by omega,by omega,Gv (Gv wf),f,λhr' M6 A6 c6 st6=>?_,λw0 h=>by rw[EA,EA,hr]at h;cases h⟩;rw[QG,QG,wx,wx]at c6;have t2:=(t1.swap.one st6 c6 rfl).swap;generalize qu V (uu l V e)=V5 at t2 wf5 ps5;refine oZ t2.y.at_ (i' rfl (i' t2.y.bd.lo λq1 XG=>?_));have l1:=@pA M6 q1 (L3.tL (V5.log.map Ev.d) (some ((V.log.map Ev.d).length:Nat)) none);have t3:=t2.sub (.new (c:=.lst (L3.tL (V5.log.map Ev.d) (some ((V.log.map Ev.d).length:Nat)) none)) XG);refine oZ t3.x.at_ (i' rfl (i' t3.x.bd.lo λq2 Yq=>?_));have s4:=qp.new (c:=.lst (L3.tL (V5.log.map Ev.d) (some ((V.log.map Ev.d).length:Nat)) none)) Yq;have t4:=(t3.sub s4).mono (c3:=1+(m+1)) (n3:=3+2200*(m+1)) (c4:=1+(m+1)) (n4:=3+2200*(m+1)) (by omega) (by omega) (by omega) (by omega);exact i' (K1 (s4.lst l1) pA) (J5 (YF _ _ ⟨_,.two N A5 _ b2 A6 p2 sN t4 (Gv wf5) ps5 (by omega),_,_,_,_,rfl⟩))
     .refine⟨N,b2,A2,_,l,_,_,e,rfl,tw.y,by omega,by omega,Gv wf,f,(λhr'=>by rw[EA,hw0]at hr';cases hr'),λw1 h=>?_⟩;rw[EA,hw0]at h;cases h;refine i' rfl ?_;show if (!(w0==w0))=true then _ else _
      rw[fA];refine J5 ?_;refine oZ tw.y.at_ (i' rfl (i' tw.y.bd.lo λq1 XG=>?_));have l1:=@pA M4 q1 (L3.tL (V.log.map Ev.d) (some ((V.log.map Ev.d).length:Nat)) none);have t3:=tw.sub (.new (c:=.lst (L3.tL (V.log.map Ev.d) (some ((V.log.map Ev.d).length:Nat)) none)) XG);refine oZ t3.x.at_ (i' rfl (i' t3.x.bd.lo λq2 Yq=>?_));have s4:=qp.new (c:=.lst (L3.tL (V.log.map Ev.d) (some ((V.log.map Ev.d).length:Nat)) none)) Yq;have t4:=(t3.sub s4).mono (c3:=1+(m+1)) (n3:=3+2200*(m+1)) (c4:=1+(m+1)) (n4:=3+2200*(m+1)) (by omega) (by omega) (by omega) (by omega);exact i' (K1 (s4.lst l1) pA) (J5 (YF _ _ ⟨_,.two N A _ b2 A2 p2 sN t4 wf ps (by omega),_,_,_,_,rfl⟩))
  .rintro U M' ⟨o,st,y7,y8,y9,ZL,rfl⟩
   rw[cS,eB]at st;exact Xj _ _ ⟨o,_,_,st,by omega,y7,y8,y9,ZL,rfl⟩
 .rintro U M4 ⟨o,m,k,st,hm,y7,y8,y9,ZL,rfl⟩
  cases st with
  | one A V g eb=>exact⟨M,s02.trans g.cu.s0,q⟩
  | two N A V b2 A2 p2 sN tw wf ps hct=>
   have e1:=tw.x.b;have e2:=tw.y.b;have ca:=tw.x.sz.ca;have Xa:∃W9,qp W9 M4/\Q (.bl true) W9:=⟨M,s02.trans (sN.trans tw.x.s0),q⟩;refine⟨A2,_,by rw[e2],tw.y.bd,by show V.calls.length<=10000;omega,ps,A,V,by rw[e1],tw.x.bd,by omega,ps,i' (xj 8 _ (Mz V)) ?_⟩;have el:ym M4 9 (.ref A2.le) (.ref A.le)=some true:=Aa tw.y.bd.le tw.x.bd.le λd hd=>by obtain⟨v,_,rfl⟩:=dB.mp hd;exact xj 7 _ rfl
   refine oZ tw.y.at_ (i' rfl (oZ tw.x.at_ (i' rfl (i' el ?_))));exact oZ tw.y.at_ (i' rfl (oZ tw.x.at_ (i' rfl (i' (S7 tw.y.bd.lo tw.x.bd.lo) Xa))))
end Z
end
structure PySem.W.Fast:Prop where(tw9557161657250737548 tw9366563860525616457 tw7708689730967360577 tw7511914664881797651 tw678621466994354647 tw6610947763538416982 tw5850705355633839322 tw5553342923653513090 tw4640588020767723885 tw4540496951396478914 tw4166353263476388529 tw3897434354099001708 tw3829972211718949228 tw2709677863066526228 tw2267417334514222695 tw1952685169781592268 tw18309041983318254492 tw17420596190275324733 tw16626686170718995209 tw16319612694839640803 tw1611950988668774014 tw15422507948813535355 tw14023105877454280880 tw124352825800436396 tw12394145865893919795 tw12125879396468646624 tw116424243747649512 tw11220862908035915795 tw11132689320307584983 tw11060222440426517201 tw10324434153841520128 tw3737112160275215025 tw11955399310860902360 tw2919263922931998762 tw16993493629331897823 tw4609350061008164489 tw2157602664217946889 tw10888013267580652015 tw7576496385882436568 tw5999403997643155362 tw5242021841384055029 tw4879567745748887124 tw15457070136818011442 tw2095750925479728312 tw9382930556253256313 tw12993173908758357047 tw7084605090442712293 tw10940631879003441198 tw3630904489469651268 tw2975240052600149828 tw13784040489168459064 tw2342718638780750954 tw8850474331875465902 tw13886246992075351278 tw14502386119712725817 tw9525025942357091082 tw16015550816260179897 tw13191090508289747232 tw6157670663551467812 tw10711463991708410930 tw12731224642675922798 tw6230099568266167104 tw8422075308996466613 tw100266556301614579 tw11445596734096889460 tw13640779044515486262 tw11850522654090930195 tw9592510927499613324 tw7979935217602030648 tw16398891724430925999 tw1598166435566200279 tw4662869327401750314 tw17057684761827786920 tw14050128940161294934 tw9463482792012688535 tw5632881904098077395 tw7797367103351622209 tw16820779804385647403 tw10356841531117355042 tw6795574604343991725 tw335656902454473917 tw8750096490823426851 tw18381311004622708601 tw14673255366962955256 tw5499471224134783151 tw8976104814045254024 tw15866899045309393857 tw2940529514773051166 tw12400969022983698739 tw964718545342499248 tw13555819097770914718 tw9921666242810334486 tw1786671626066798561 tw15883915713257983065 tw10201065522017476191 tw6792198412659522731 tw1161179939254755147 tw654089064718368766 tw8626971834868690503 tw6431770481649510163 tw2201131295328384382 tw7890116594368274123 tw2393991266050955753 tw15585033367159197931 tw9131671973187215391 tw5217283154583136975 tw9634932227260897358 tw11798222747144821927 tw7242554580739514967 tw4769391478316627457 tw17766568447239314606 tw10061848734679939438 tw1619334229109835566 tw11847771955403480965 tw7326089035857022657 tw16815807587437777068 tw2120614388671725559 tw9132766486694164904 tw12915459302244122919 tw15383528643384431671 tw377473769520980906 tw16883738968744405443 tw10824622500885834382 tw12278790790216376572 tw10385162116262092998 tw3111882446555460832 tw15122543658299832063 tw7530517187664181457 tw5811203117126408092 tw9982168428124740129 tw14337242151271985560 tw18328516037688108465 tw12926603947810906974 tw7743184114726280003 tw6945511783162223406 tw6070625532012647560 tw6500670904909837162 tw17443899135474350281 tw4073785493551530490 tw10953066800670410978 tw15563151614641304736 tw15586819375128322809 tw5222212952108814114 tw3252128605553361812 tw11610890779700126272 tw2620062572952429456 tw832837642440834791 tw8805669228954777802 tw3214973985983068257 tw5634895311713994308 tw1080017833834057548 tw17213329713695351553 tw529400211080302113 tw8696688086132568718 tw8112838613363120855 tw3054006064580251268 tw6144676969288525291 tw11073017201493544012 tw9743346204261192061 tw9559085058489461434 tw3540961274046634445 tw18358088723166269835 tw3464508483210738647 tw12301178739012331439 tw11609330020669198089 tw10587435399556485730 tw6045341676354754958 tw12615089433119107502 tw8128465163133802826 tw10907517459428875903 tw2200732821038002615 tw5236397750145433162 tw54949770281941219 tw11466557634326330143 tw4660945706332556472 tw18341809252289941922 tw5893664603196870428 tw4641625821309022306 tw17797527678282687510 tw11148629551515714930 tw6831831833909093217 tw6064306469275565015 tw3639554137264026550 tw1020718754817551353 tw1060807820361707000 tw12400032491105845353 tw1054002978574639099 tw15432123527695008738 tw4157892525362605600 tw8784214783907265152 tw13306211676013211438 tw5489293751502467250 tw14555424679419428323 tw1608011537997175528 tw11081474091548168270 tw5405816165445907513 tw16953365109524621284 tw15114647612849526380 tw2699422825743890317 tw9180573475400180392 tw14851401389812333624 tw9818531803681577815 tw12264099669156586244 tw218773744213172730 tw15638800695922652704 tw17576510727064441540 tw9634198064429822635 tw12050357454109581171 tw3466612014155605113 tw4782915923645805561 tw75110235772387148 tw2729648042798282195 tw4055615484915652098 tw18249596450054907116 tw9189663042070065659 tw949078575099258462 tw2192114133182069822 tw15841380794859493774 tw811421443109007051 tw6465932713855613013 tw15618187186198976770 tw16903075323440303904 tw2841364011590147130 tw13386630027172841883 tw10581496750136709383 tw1136641254333194152 tw7005611159866423548 tw17355498050967083596 tw16651470466638634836 tw6426384626373601976 tw17436695344466979862 tw9402632175525387381 tw9681054706139482354 tw13594042175566849040 tw4930932925905208009 tw3984351828564821619 tw192864373972652956 tw16156687731028699105 tw9061293724578037364 tw15436951405562423284 tw7755714949747387617 tw4477055328225364288 tw2186973597222915953 tw6709725353769338902 tw6347258696049587491 tw8292714589891986234 tw1456554358507301865 tw3535393414909079433 tw3907928000271346780 tw15645585411418948836 tw2172642367327557761 tw3020409351488512827 tw8035609719994397986 tw1135677866108698517 tw655079851922728415 tw16832916369156215468 tw9090602014813762327 tw17829564215622675207 tw16774606026355010259 tw12252207790253002651 tw9350739620059564100 tw11265247229025840422 tw15203356593860409405 tw13550324806993932492 tw5449068371483495097 tw10910487346442602428 tw5647580575053633667 tw15353122196314090640 tw16247967194201428203 tw2812272086144571481 tw7859868527192996984 tw6047243686847620950 tw5588923852154488381 tw11044080031550292463 tw141299036599765767 tw5426369316234670142 tw13841720968971972970 tw9982781823537702829 tw14963033019506740413 tw1460187278437578236 tw9142717443425030059 tw5192344563145786290 tw10409808603936984040 tw17416375298224593154 tw9102932333947503021 tw5825360453336043305 tw18356227684707163281 tw9308994871804725700 tw9010446351314552822 tw9065394705277370342 tw13954751106078448447 tw4389909758013771002 tw15957680056783313052 tw2497753580166992614 tw12993506802640450872 tw14447829147336457507 tw11007790999299843567 tw14111876016213232524 tw11715731258262948483 tw13229801654671724671 tw4332807800006118411 tw4256647445012653633 tw536863736537653706 tw15966521854403107714 tw10703766489626519392 tw10564615841717534181 tw4504984709959062386 tw13510285724646058140 tw13844940435980634975 tw9692940823671715800 tw15454028201036895935 tw3738106949028778543 tw15461600554699369397 tw1435390413497228756 tw357874112789882598 tw9153717633173794738 tw13661195971061671531 tw3960646450047802542 tw1627892237883521118 tw15221264619141924649 tw9534255008418032767 tw4772994714150214071 tw8316080455672537879 tw11620736095894890523 tw10287483435496631730 tw15159162927510507646 tw16550706742812848360 tw12946585952740787159 tw12695966116376700173 tw3429903498283881479 tw14232555520125814636 tw837439380837449892 tw5871656286936215879 tw17695838300663892065 tw18098387919456916072 tw7697585458944247071 tw3565797052901917123 tw3991376050809833106 tw15412473623113038479 tw9734822453809231536 tw742568875957563544 tw8686709339166986193 tw9210226040597805818 tw11499287706020185880 tw12438669502719152193 tw13420648314304575534 tw17724526478370382307 tw17283025751687412851 tw14153288743538798994 tw2691001311464714677 tw14331009119556290999 tw18064362837218647454 tw14093957550297794148 tw4507149080746633875 tw11480347904308020927 tw13944187611659476449 tw10015385943351700137 tw2577776186589490273 tw10440141401155529526 tw1984576117048035559 tw14475491804111523792 tw14041551517921164300 tw10213649646497827349 tw7156937744218390529 tw5430929748383539838 tw2533595960398311430 tw15088767000450406360 tw7291337668885804752 tw11272812529883909611 tw9552868030374845879 tw13583177296618390059 tw12693203869960160550 tw15593149831134909092 tw18135499303815798435 tw2521858003243972132 tw13526674241146203308 tw7334400795669749996 tw3879436245886436097 tw2380785628774303272 tw4984346853012561813 tw7353459356798995806 tw6069954367256550066 tw15830530741252649083 tw14722274854187634797 tw10255332960935382967 tw4455479326256220252 tw13589842774608355246 tw11924906698920493133 tw10622755103054828891 tw10122269033260767032 tw10384784876269521174 tw4119485031095639718 tw6107092976890639008 tw3050663447396298365 tw12246006774969630024 tw6490175165498085608 tw3905258856877779317 tw3288704445937407333 tw15190206367215623975 tw12851659340422002027 tw3836264927360708205 tw18100890834949607660 tw16120945056088710261 tw13988584112824374560 tw8418896866222967850 tw4342102654581994989 tw3975508434538964098 tw17468668626857086558 tw15627108306207146072 tw14501573138111062006 tw8398844731318091835 tw6556685156020387062 tw9619138295853846022 tw7552048749717915715 tw16488697949882474396 tw14907485873343516138 tw14550916550918513907 tw11806561195159200131 tw4474537841902817627 tw9399569714013526898 tw2874520867763370127 tw1024588520274443233 tw3188272773908056414 tw16226017106377929426 tw13105719869062597250 tw12225038628682506399 tw4530349665208468875 tw15728436423800240661 tw419768703044910399 tw4186692252031845832 tw13913364804323587413 tw6544920761399180010 tw5147046797620885896 tw15200249576409035047 tw14953771559520193932 tw11923014976972545079 tw37581313516721329 tw3427020234007224161 tw15660951832692962982 tw13578405695596727548 tw16163949513789618815 tw10931658888669620218 tw6541601287150253784 tw17030881862663720345 tw16574815333403709457 tw4662193267021414322 tw14844445752709337011 tw12742589615306987376 tw12099414343773658246 tw10026010656785573427 tw267021772046248146 tw15754817550862998031 tw7387603790808222936 tw4103898847404365491 tw4064226735138656451 tw2195796761507871386 tw1292973652344613359 tw13651565575710509966 tw11160235606865712055 tw9160911445170434460 tw8903641560501726085 tw8317841274142942730 tw7570139233430446735 tw15273458529714475302 tw10228274549118990207 tw11090188454222265585 tw9937076606162214084 tw10435235201538734422 tw926471460732620009 tw15914975829656829960 tw2242439312550498536 tw159751473827297524 tw10935659046675073557 tw16994581515972501798 tw7024972733061861820 tw11609532905987381310 tw3133715900470282333 tw10428138088717588658 tw1880350845502104610 tw17392652452124605871 tw7700650221963420012 tw18062230764386837495 tw9120700287099800780 tw7967982049344268598 tw6473474282259771172 tw6433400735831324673 tw17487170241782464844 tw11145105322864664529 tw18346722172351251731 tw17260430991248798134 tw815809215704470926 tw4946158787976162885 tw18380607310998512616 tw16680464686486170301 tw15856707131647139698 tw1422086451114368588 tw12363471706605441850 tw8283305507126470021 tw3951508356871359202 tw18097183812175254387 tw17729335365121070685 tw13923606690689416528 tw12540920452793062143 tw11939090779130416274 tw10675406790060025822 tw10098693750858345999 tw7673567524675418011 tw12108917442327457229 tw1545173691434434921 tw13297504922689094496 tw6972446428670839698 tw16258674229309756528 tw4129561886437130280 tw14284433538787583941 tw623960618450410926 tw16401290481269858619 tw13638183857948270519 tw12478275574983572935 tw7564429730296166392 tw4984212415228984671 tw12779586600539005876 tw5421439390127115187 tw8094774582543453606 tw2048757472689005479 tw16767336670315259947 tw9176536305343088652 tw1652207827917323852 tw13107323186072783664 tw9559749789452608225 tw1395713656824019461 tw10722211316096164713 tw10325540477742576922 tw3393171322613115029 tw12305091555183119192 tw5803382537166211628 tw3930027131521852621 tw17198456887531761546 tw9666920087135588882 tw12756308730347698667 tw7394127727311820478 tw18012052351321790066 tw406719578656025257 tw17342273592855851630 tw1947198127011808616 tw11149702516622811210 tw9428950165788686870 tw9360811968140240324 tw9467852180380746905 tw7045529817714575184 tw3628488612221663054 tw1797207964294140003 tw8749678155092075163 tw839218325802717916 tw11856528623784535763 tw40648932636390613 tw17016422111564872191 tw1449921611996669710 tw6756920171468725163 tw12437092902446712403 tw14900319672178009069 tw10291925276111778189 tw2573780549412283329 tw8488998732692898257 tw9563100313378776454 tw143350487347596443 tw13431651359008296625 tw10504949246068876288 tw17339067384359496060 tw12121805775860239389 tw667155923626087343 tw10931431592462772827 tw6458442409978018755 tw502616809768178914 tw3798727049502644937 tw16123915245918628707 tw4531736477216144410 tw9985629243707282650 tw9578051653356598277 tw8931389982964016673 tw6555924518662584025 tw6528364902080734211 tw2313545508068465415 tw17489252347895380752 tw1697787278090140303 tw16268198841002378283 tw15011866484244757828 tw1167428565339743634 tw14338500213701439212 tw15608923697675742549 tw16944258851789923419 tw10942679003798218165 tw5341764033670058989 tw8745062489325287763 tw780415991467920303 tw14583986678526475282 tw13164887366221685973 tw124133592058794866 tw9560544857293108162 tw648809962761364580 tw4492897403227233616 tw16781552836801338126 tw16389459864050305469 tw15343995749431648169 tw13381090893761019687 tw12539335018338459036 tw11889589796331548574 tw11735727235436219570 tw8695023514427143658 tw751270465135996750 tw5095468671222632236 tw13375247719049721337 tw7866804989863713387 tw4930854241698405016 tw3897367349194498683 tw1959836831510525011 tw14342423583879363196 tw7716238225956165523 tw7093579370035129198 tw5638611001690787189 tw176196716885318109 tw17290744088157048550 tw1335950642251416836 tw13323044335838850841 tw12455489250225700011 tw12238802664982395863 tw11920954131337932590 tw11741357296225555089 tw11316173247437703742 tw10918326167566151185 tw9663490318613991697 tw7464825370630771749 tw4820449361100274402 tw2510259233205278880 tw3020583349261322771 tw2912329232355295247 tw2600762008512352438 tw14511970499236510877 tw11922250582863758502 tw6151321609942082387 tw1737568467717604044 tw4781593038648547242 tw4822551220556671148 tw1725190840157034232 tw9850160235965065751:True)
open PySem PySem.W PyProof.Rows L2 L3
def xZqN:Option Obj->Option Obj
|some ⟨_,_,.freed,_⟩=>none
|o=>o
def xZqP (h:Heap):List Nat->Nat->List Obj->List (Option Obj)
|[],_,_=>[]
|a::l,i,r=>bif i.ble a then xZqN (r.drop (a-i)).head?::xZqP h l a (r.drop (a-i)) else h.get? a::xZqP h l i r
theorem xZqQ (h:Heap):∀l i r,r=h.objs.toList.drop i->xZqP h l i r=l.map h.get?
|[],_,_,_=>rfl
|a::l,i,r,e=>by
 unfold xZqP;cases z:i.ble a with
 |false=>exact congrArg (h.get? a::·) (xZqQ h l i r e)
 |true=>
  have d:r.drop (a-i)=h.objs.toList.drop a:=by have:=Nat.le_of_ble_eq_true z;rw [e,List.drop_drop];congr 1;omega
  show xZqN (r.drop (a-i)).head?::xZqP h l a (r.drop (a-i))=_;rw [xZqQ h l a _ d,d,List.head?_drop,Array.getElem?_toList];rfl
def xZqH (K:Params->Frag) (as:List Addr) (e:∀P,as=(K P).map (·.1)) (_:Unit):Hook:=⟨_,λs=>xZqP s.heap as 0 s.heap.objs.toList,λw=>(K w.params).map λp=>some p.2,InK K,λw s x=>InK.of e w s ((xZqQ s.heap as 0 s.heap.objs.toList rfl).symm.trans x),InK.keeps⟩
local macro_rules|`(tactic|o_head ($f $k $a $e))=>`(tactic|o_head (xZqH $k $a $e ()))
set_option maxRecDepth 100000 in
set_option maxHeartbeats 0 in
theorem PySem.Challenge.cw_callboard_k53_whole_goes_on_alike_holds : PySem.Challenge.rw_callboard_k53_whole_goes_on_alike.Holds := by
 w_on;o_law;k_head;(case hw=>w_witness2)
 k_fill
 refine L3.L1 (l:=PySem.Challenge.rw_callboard_k53_whole_goes_on_alike) (sp:=Z.K3) (k:=17) (x:="_law_script") rfl rfl ⟨rfl,by decide,by decide⟩ (λ_ _ Y=>Y) (λns hl=>⟨ns,rfl,hl,rfl⟩) ?F;case F=>
  intro w mg fa h KX G hmg;suffices h:∃a:Z.Ad,Z.Gl _ mg a/\∀(s:Shared) (u:Value),BindsTo s a.ak.d ⟨[u],[]⟩ [("_law_script",u)]by obtain⟨a,g,hb⟩:=h;have e:=hmg.symm.trans g.ak.mg;cases e;exact⟨a.ak.d,hb,λbase _ _=>g.ak.pe ▸ Z.RX g⟩
  refine'⟨⟨_,_,_,_,_,_,_,_,_,_,_,_,_,_,_,_,_,_,_,_,_,_,_,_,_,_,_,_,_,_,_,_,_,_,_,_,_,_,_,_,_,_,_,_,_,_,_,_,_,_,_,_,_,_,_,_,_,_,_,_,_,_,_,_,_,_,_,_,_,_,_,_,_,_,_,_,_,_,_,_,_,_,_,_,_,_,_,_,_,_,_,_,_,_,_,_,_,_,_,_,_,_,_,_,_,_,_,_,_,_,_,_,_,_,_,_,_,_,_,_,_,_,_,_,_,_,_,_,_,_,_,_⟩,⟨wg KX G ..,wg KX G ..,wg KX G ..,wg KX G ..,wg KX G ..,wg KX G ..,wg KX G ..,wg KX G ..,wg KX G ..,wg KX G ..,wg KX G ..,wg KX G ..,wg KX G ..,PySem.W.mg_of KX G ?_,PySem.W.mg_of KX G ?_,qg KX G ..,qg KX G ..,qg KX G ..,qg KX G ..,qg KX G ..,qg KX G ..,qg KX G ..,qg KX G ..,qg KX G ..,qg KX G ..,qg KX G ..,qg KX G ..,qg KX G ..,qg KX G ..,qg KX G ..,qg KX G ..,qg KX G ..,qg KX G ..,qg KX G ..,qg KX G ..,qg KX G ..,qg KX G ..,qg KX G ..,qg KX G ..,qg KX G ..,qg KX G ..,qg KX G ..,qg KX G ..,qg KX G ..,qg KX G ..,qg KX G ..,qg KX G ..,qg KX G ..,qg KX G ..,qg KX G ..,qg KX G ..,qg KX G ..,qg KX G ..,qg KX G ..,qg KX G ..,qg KX G ..,qg KX G ..,qg KX G ..,qg KX G ..,qg KX G ..,qg KX G ..,qg KX G ..,qg KX G ..,qg KX G ..,qg KX G ..,qg KX G ..,qg KX G ..,qg KX G ..,qg KX G ..,qg KX G ..,qg KX G ..,qg KX G ..,qg KX G ..,qg KX G ..,qg KX G ..,qg KX G ..,pX ..,pX ..,pX ..,pX ..,pX ..,pX ..,pX ..,pX ..,pX ..,pX ..,pX ..,pX ..,pX ..,pX ..,pX ..,pX ..,pX ..,pX ..,pX ..,pX ..,pX ..,pX ..,pX ..,pX ..,pX ..,pX ..,pX ..,pX ..,pX ..,pX ..,pX ..,pX ..,pX ..,pX ..,pX ..,pX ..,pX ..,pX ..,pX ..,pX ..,pX ..,pX ..,pX ..,pX ..,pX ..,pX ..,pX ..,pX ..,pX ..,pX ..,pX ..,pX ..,pX ..,pX ..,pX ..,pX ..,MA ?_ ?_ ?_ ?_ ?_ ?_ ?_ ?_ ?_ ?_,J3 ?_ ?_ ?_,⟨Us ?_ ?_ ?_ ?_ ?_ ?_ ?_ ?_,?_,?_⟩,Pn ?_ ?_ ?_ ?_,⟨?_,?_,?_,?_⟩,⟨?_,?_,?_,?_⟩,⟨?_,?_,?_,?_⟩,⟨?_,?_,?_,?_⟩,⟨?_,?_,?_,?_⟩,⟨?_,?_,?_,?_⟩,⟨?_,?_,?_,?_⟩,⟨?_,?_,?_,?_⟩,⟨?_,?_,?_,?_⟩,⟨?_,?_,?_,?_⟩,⟨?_,?_,?_,?_⟩,⟨?_,?_,?_⟩,⟨?_,?_,?_⟩,⟨?_,?_,?_⟩,⟨?_,?_,?_⟩,⟨?_,?_,?_⟩,⟨?_,?_,?_⟩,⟨?_,?_,?_⟩,⟨?_,?_,?_⟩,⟨?_,?_,?_⟩,⟨?_,?_,?_⟩,⟨?_,?_,?_⟩,⟨?_,?_,?_⟩,⟨?_,?_,?_⟩,⟨?_,?_,?_⟩,⟨?_,?_,?_⟩,⟨?_,?_,?_⟩,⟨?_,?_,?_⟩,⟨?_,?_,?_⟩,⟨?_,?_,?_⟩,⟨?_,?_,?_⟩,⟨?_,?_,?_⟩,(pM ?_ (pM ?_ (pM ?_ (pM ?_ (pM ?_ (pM ?_ (pM ?_ (pM ?_ tD)))))))),(pM ?_ (pM ?_ (pM ?_ (pM ?_ (pM ?_ (pM ?_ tD)))))),(pM ?_ (pM ?_ (pM ?_ (pM ?_ (pM ?_ (pM ?_ (pM ?_ (pM ?_ tD)))))))),(pM ?_ (pM ?_ (pM ?_ tD))),(pM ?_ (pM ?_ (pM ?_ tD))),(pM ?_ (pM ?_ (pM ?_ tD))),(pM ?_ (pM ?_ (pM ?_ (pM ?_ (pM ?_ tD))))),(pM ?_ (pM ?_ (pM ?_ tD))),(pM ?_ (pM ?_ (pM ?_ (pM ?_ tD)))),(pM ?_ (pM ?_ tD)),(pM ?_ (pM ?_ tD)),PySem.W.mg_none_of KX G ?_,PySem.W.mg_none_of KX G ?_,PySem.W.mg_none_of KX G ?_,PySem.W.mg_none_of KX G ?_,PySem.W.mg_none_of KX G ?_,PySem.W.mg_none_of KX G ?_,PySem.W.mg_none_of KX G ?_,PySem.W.mg_none_of KX G ?_,PySem.W.mg_none_of KX G ?_,PySem.W.mg_none_of KX G ?_,PySem.W.mg_none_of KX G ?_,PySem.W.mg_none_of KX G ?_,PySem.W.mg_none_of KX G ?_,vQ (PySem.W.mg_of KX G ?_),vQ (PySem.W.mg_of KX G ?_),vQ (PySem.W.mg_of KX G ?_),vQ (PySem.W.mg_of KX G ?_),OF (PySem.W.mg_of KX G ?_) (uc (ss:=["all","turns"]) ?_ (.cons ⟨_,rfl⟩ (.cons ⟨_,rfl⟩ .nil)) (Nat.le_of_ble_eq_true rfl)),vQ (PySem.W.mg_of KX G ?_),vQ (PySem.W.mg_of KX G ?_),vQ (PySem.W.mg_of KX G ?_),SA (PySem.W.mg_of KX G ?_),OS (es:=[⟨_,.str "bar" _,.ref _⟩,⟨_,.str "shut" _,.ref _⟩,⟨_,.str "always" _,.ref _⟩,⟨_,.str "night" _,.ref _⟩,⟨_,.str "busy" _,.ref _⟩,⟨_,.str "silent" _,.ref _⟩,⟨_,.str "wait" _,.ref _⟩,⟨_,.str "breaks" _,.ref _⟩]) (PySem.W.mg_of KX G ?_) ?_ ?_ (.cons rfl ⟨_,rfl,(uc (ss:=["phone","names"]) ?_ (.cons ⟨_,rfl⟩ (.cons ⟨_,rfl⟩ .nil)) (Nat.le_of_ble_eq_true rfl))⟩ (.cons rfl ⟨_,rfl,(uc (ss:=["name","phones"]) ?_ (.cons ⟨_,rfl⟩ (.cons ⟨_,rfl⟩ .nil)) (Nat.le_of_ble_eq_true rfl))⟩ (.cons rfl ⟨_,rfl,(uc (ss:=["name","name"]) ?_ (.cons ⟨_,rfl⟩ (.cons ⟨_,rfl⟩ .nil)) (Nat.le_of_ble_eq_true rfl))⟩ (.cons rfl ⟨_,rfl,(uc (ss:=["name","name","hour","hour"]) ?_ (.cons ⟨_,rfl⟩ (.cons ⟨_,rfl⟩ (.cons ⟨_,rfl⟩ (.cons ⟨_,rfl⟩ .nil)))) (Nat.le_of_ble_eq_true rfl))⟩ (.cons rfl ⟨_,rfl,(uc (ss:=["name","name"]) ?_ (.cons ⟨_,rfl⟩ (.cons ⟨_,rfl⟩ .nil)) (Nat.le_of_ble_eq_true rfl))⟩ (.cons rfl ⟨_,rfl,(uc (ss:=["name","name","turns"]) ?_ (.cons ⟨_,rfl⟩ (.cons ⟨_,rfl⟩ (.cons ⟨_,rfl⟩ .nil))) (Nat.le_of_ble_eq_true rfl))⟩ (.cons rfl ⟨_,rfl,(uc (ss:=["phone"]) ?_ (.cons ⟨_,rfl⟩ .nil) (Nat.le_of_ble_eq_true rfl))⟩ (.cons rfl ⟨_,rfl,(uc (ss:=["phone"]) ?_ (.cons ⟨_,rfl⟩ .nil) (Nat.le_of_ble_eq_true rfl))⟩ .nil)))))))),vQ (PySem.W.mg_of KX G ?_),vQ (PySem.W.mg_of KX G ?_),vQ (PySem.W.mg_of KX G ?_)⟩,λs u=>.of_eq rfl⟩
  all_goals try first|k_is|(intro _ _ _ _ _ _ us hl;rcases us with _|⟨_,_|⟨_,_|⟨_,_|⟨_,_|⟨_,_|⟨_,us⟩⟩⟩⟩⟩⟩<;>first|rfl|(exfalso;revert hl;simp;done))|rfl
